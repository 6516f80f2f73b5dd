import PyProof.Rows.All
import Wide.All
import OpenK.AllK
import Wide.FinOn
import Lean
import PyProof.EqAt
import PyProof.EqKinds
import PyProof.TupleCall
import PySem.Challenge.RW_onceways_k26_which_tables_are_least
set_option Elab.async false
set_option linter.all false
set_option maxRecDepth 100000
set_option maxHeartbeats 4000000
/-! THE HAND LAYER, for ints, bools, texts, own classes, LISTS and tuples (index, slices, in, append, pop ..), calls, loops. Paste it whole ahead of your own text; what your proof does not reach may be deleted. -/
namespace L2
open PySem PySem.Spec PyProof.Rows

/-- a key: an int or a str -/
abbrev Key := Sum Int Str
def keyIs : Key → Value → Bool
  | .inl k, v => Value.isInt k v
  | .inr x, v => Value.isStrOf x v
def keyH (w : World) : Key → Int
  | .inl k => hashInt k
  | .inr x => hashStr w x
theorem keyIs_shape : ∀ {k : Key} {v : Value}, keyIs k v = true → (∃ i t, k = Sum.inl i ∧ v = Value.int i t) ∨ (∃ x t, k = Sum.inr x ∧ v = Value.str x t)
  | .inl i, v, h => by
    obtain ⟨t, e⟩ := Value.isInt_shape (k := i) (v := v) h
    exact .inl ⟨i, t, rfl, e⟩
  | .inr x, v, h => by
    obtain ⟨t, e⟩ := Value.isStrOf_shape (x := x) (v := v) h
    exact .inr ⟨x, t, rfl, e⟩
theorem keyIs_int (i : Int) (t : Tok) : keyIs (.inl i) (.int i t) = true := by simp [keyIs, Value.isInt]
theorem keyIs_str (x : Str) (t : Tok) : keyIs (.inr x) (.str x t) = true := by simp [keyIs, Value.isStrOf]
theorem key_ll (a b : Int) : decide ((Sum.inl a : Key) = Sum.inl b) = (a == b) := by
  by_cases e : a = b
  · subst e; simp
  · have h : ¬ (Sum.inl a : Key) = Sum.inl b := fun q => e (Sum.inl.inj q)
    rw [decide_eq_false h]
    exact (beq_eq_false_iff_ne.mpr e).symm
theorem key_rr (a b : Str) : decide ((Sum.inr a : Key) = Sum.inr b) = decide (a = b) := by
  by_cases e : a = b
  · subst e; simp
  · have h : ¬ (Sum.inr a : Key) = Sum.inr b := fun q => e (Sum.inr.inj q)
    rw [decide_eq_false h, decide_eq_false e]
theorem key_lr (a : Int) (b : Str) : decide ((Sum.inl a : Key) = Sum.inr b) = false := decide_eq_false (fun q => nomatch q)
theorem key_rl (a : Str) (b : Int) : decide ((Sum.inr a : Key) = Sum.inl b) = false := decide_eq_false (fun q => nomatch q)

def mixKind (prog : Program) (w : World) : PySem.KeyKind prog w Key where
  is := keyIs
  hash := keyH w
  inj := fun v a b ha hb => by
    rcases keyIs_shape ha with ⟨i, t, rfl, rfl⟩ | ⟨x, t, rfl, rfl⟩
    · rcases keyIs_shape hb with ⟨j, u, rfl, e⟩ | ⟨y, u, rfl, e⟩
      · injection e with e1 _; rw [e1]
      · exact nomatch e
    · rcases keyIs_shape hb with ⟨j, u, rfl, e⟩ | ⟨y, u, rfl, e⟩
      · exact nomatch e
      · injection e with e1 _; rw [e1]
  byValue := fun k v h => by
    rcases keyIs_shape h with ⟨i, t, rfl, rfl⟩ | ⟨x, t, rfl, rfl⟩ <;> rfl
  pyHash := fun hv h => by
    rcases keyIs_shape hv with ⟨i, t, rfl, rfl⟩ | ⟨x, t, rfl, rfl⟩
    · exact wpAny_pyHash_int h
    · exact wpAny_pyHash_str h
  eqBool := fun hu hv h => by
    rcases keyIs_shape hu with ⟨i, t, rfl, rfl⟩ | ⟨x, t, rfl, rfl⟩
    · rcases keyIs_shape hv with ⟨j, u, rfl, rfl⟩ | ⟨y, u, rfl, rfl⟩
      · rw [key_ll] at h; exact wpAny_eqBool_int h
      · rw [key_lr] at h; exact SeqAt.EqAt.int_str i t y u _ _ _ _ h
    · rcases keyIs_shape hv with ⟨j, u, rfl, rfl⟩ | ⟨y, u, rfl, rfl⟩
      · rw [key_rl] at h; exact SeqAt.EqAt.str_int x t j u _ _ _ _ h
      · rw [key_rr] at h; exact wpAny_eqBool_str h
  «strs» := fun k x t v h => by
    rcases keyIs_shape h with ⟨i, u, rfl, e⟩ | ⟨y, u, rfl, e⟩
    · exact nomatch e
    · injection e with e1 _
      subst e1
      cases v <;> rfl

theorem mixKind_int (prog : Program) (w : World) (i : Int) (t : Tok) : (mixKind prog w).is (.inl i) (.int i t) = true := keyIs_int i t
theorem mixKind_str (prog : Program) (w : World) (x : Str) (t : Tok) : (mixKind prog w).is (.inr x) (.str x t) = true := keyIs_str x t
end L2

namespace L2
open PySem PySem.Spec PyProof.Rows

/-- a value, without the heap -/
inductive V where
  | non | bl (b : Bool) | int (i : Int) | str (x : Str) | byt (b : Array UInt8) | flt (b : UInt64) | ref (a : Addr) | ty (n : String)
  deriving DecidableEq

def RelV : V → Value → Prop
  | .non, u => u = Value.none
  | .bl b, u => u = Value.bool b
  | .int i, u => ∃ t, u = Value.int i t
  | .str x, u => ∃ t, u = Value.str x t
  | .byt b, u => ∃ t, u = Value.bytes b t
  | .flt b, u => ∃ t, u = Value.float b t
  | .ref a, u => u = Value.ref a
  | .ty n, u => u = Value.type n

abbrev Vals : List V → List Value → Prop := Paired RelV
theorem Vals.length {xs : List V} {us : List Value} (r : Vals xs us) : xs.length = us.length := Paired.length r
theorem Vals.get : ∀ {xs : List V} {us : List Value} {i : Nat} {x : V}, Vals xs us → xs[i]? = some x → ∃ u, us[i]? = some u ∧ RelV x u
  | _, _, _, _, .nil, e => by simp at e
  | _, _, 0, _, .cons r _, e => by simp at e; subst e; exact ⟨_, rfl, r⟩
  | _, _, i + 1, x, .cons _ t, e => by
    obtain ⟨u, h1, h2⟩ := Vals.get (i := i) (x := x) t (by simpa using e)
    exact ⟨u, by simpa using h1, h2⟩
theorem Vals.set {x : V} {u : Value} (r : RelV x u) : ∀ {xs : List V} {us : List Value} (i : Nat), Vals xs us → Vals (xs.set i x) (us.set i u)
  | _, _, _, .nil => .nil
  | _, _, 0, .cons _ t => .cons r t
  | _, _, i + 1, .cons q t => .cons q (Vals.set r i t)
theorem Vals.append : ∀ {xs ys : List V} {us ws : List Value}, Vals xs us → Vals ys ws → Vals (xs ++ ys) (us ++ ws)
  | _, _, _, _, .nil, s => s
  | _, _, _, _, .cons r t, s => .cons r (Vals.append t s)
theorem Vals.take : ∀ {xs : List V} {us : List Value} (n : Nat), Vals xs us → Vals (xs.take n) (us.take n)
  | _, _, 0, _ => .nil
  | _, _, _ + 1, .nil => .nil
  | _, _, n + 1, .cons r t => .cons r (Vals.take n t)
theorem Vals.drop : ∀ {xs : List V} {us : List Value} (n : Nat), Vals xs us → Vals (xs.drop n) (us.drop n)
  | _, _, 0, r => r
  | _, _, _ + 1, .nil => .nil
  | _, _, n + 1, .cons _ t => Vals.drop n t
def RelO : Option V → Option Value → Prop
  | some v, some u => RelV v u
  | none, none => True
  | _, _ => False
def KV {κ : Type} : List (κ × V) → List (κ × Value) → Prop := Paired fun (p : κ × V) (q : κ × Value) => p.1 = q.1 ∧ RelV p.2 q.2

/-- a key of a dict (00_mix): an int or a text -/
def kV : Key → V
  | .inl i => .int i
  | .inr x => .str x

/-- what stands at a tracked address -/
inductive HO where
  /-- a list -/
  | lst (xs : List V)
  /-- a tuple (never changes) -/
  | tup (xs : List V)
  /-- a dict whose keys are ints and texts; one whose keys are tuples of ints and texts (the empty one is both) -/
  | dK (kvs : List (Key × V)) | dT (kvs : List (List Key × V))
  /-- a set of ints: its members, its size -/
  | set (S : Int → Bool) (n : Nat)
  /-- an instance of the class at C, its dict at dx, its attributes -/
  | ins (C dx : Addr) (fs : List (Str × V))
  /-- the dict of the instance at x -/
  | own (x : Addr)
  /-- the dict of an exception -/
  | xd (fs : List (Str × V))
  /-- a bound method, f of x -/
  | met (f x : Addr)
  /-- a range object lo, lo + 1, .. below hi -/
  | rng (lo hi : Int)
  /-- a thing that is known to the object (the script; a dict while a loop walks it): read, never written while it is so -/
  | frz (o : Obj) (u : HO)
  /-- a code object's table -/
  | tbl (ps : Array Value)
  /-- any other thing, by what is true of its one object (a def of one's own: SetO a S n := HO.ext fun h => ..) -/
  | ext (φ : Heap → Prop)

abbrev Hp := Addr → Option HO
def upd (H : Hp) (a : Addr) (o : HO) : Hp := fun b => if b = a then some o else H b
theorem upd_same {H : Hp} {a : Addr} {o : HO} : upd H a o a = some o := by unfold upd; rw [if_pos rfl]
theorem upd_ne {H : Hp} {a b : Addr} {o : HO} (h : b ≠ a) : upd H a o b = H b := by unfold upd; rw [if_neg h]
/-- two objects of different content stand apart -/
theorem ne_of {H : Hp} {a b : Addr} {o u : HO} (h : H a = some o) (h' : H b = some u) (d : o ≠ u) : a ≠ b := by
  intro e; subst e; rw [h] at h'; exact d (Option.some.inj h')
theorem ne_of_none {H : Hp} {a b : Addr} {o : HO} (h : H a = some o) (h' : H b = none) : a ≠ b := by
  intro e; subst e; rw [h] at h'; cases h'

section
variable (P : Program) (w : World)
def ObjOk (H : Hp) (h : Heap) (a : Addr) : HO → Prop
  | .lst xs => xs.length ≤ sizeLine ∧ ∃ (its : List Value) (n : Nat), Vals xs its ∧ h.get? a = some { cls := .type "list", data := .seq its.toArray n }
  | .tup xs => xs.length ≤ sizeLine ∧ ∃ its : List Value, Vals xs its ∧ IsTup h a its.toArray
  | .dK kvs => kvs.length ≤ sizeLine ∧ (a == sysModules) = false ∧ ∃ vs, KV kvs vs ∧ h.DictOf (mixKind P w) a vs
  | .dT kvs => kvs.length ≤ sizeLine ∧ (a == sysModules) = false ∧ ∃ xs : List (List Key × Addr × Value),
      Paired (fun (p : List Key × V) (q : List Key × Addr × Value) => p.1 = q.1 ∧ H q.2.1 = some (.tup (p.1.map kV)) ∧ RelV p.2 q.2.2) kvs xs ∧
      ∃ o es ep, h.get? a = some o ∧ o.ExactDict ∧ o.data = .dict es ep ∧ es.toList = xs.map (entryOfKey (tupleKind (mixKind P w))) ∧ (xs.map (·.1)).Nodup
  | .set S n => h.SetOf (intKind P w) a S n
  | .ins C dx fs => H dx = some (.own a) ∧ fs.length ≤ 1000 ∧ dx ≠ a ∧ h.get? a = some (PySem.W.instObj C dx) ∧
      ∃ mA, h.Ns1 dx mA ∧ (∀ f, RelO (fs.lookup f) (mA f)) ∧ PySem.Within mA (fs.map (·.1))
  | .own _ => ∃ o, h.get? a = some o
  | .xd fs => ∃ mA, h.Ns1 a mA ∧ ∀ f, RelO (fs.lookup f) (mA f)
  | .rng lo hi => ∃ t u v, h.get? a = some { cls := .type "range", data := .fields #[.int lo t, .int hi u, .int 1 v] }
  | .frz o u => h.get? a = some o ∧ ObjOk H h a u
  | .tbl ps => h.get? a = some { cls := .none, data := .fields ps }
  | .met f x => h.get? a = some (PySem.W.methodObj (.ref f) (.ref x))
  | .ext φ => φ h ∧ (∃ o, h.get? a = some o) ∧ ∀ h1 h2 : Heap, φ h1 → (∀ o, h1.get? a = some o → h2.get? a = some o) → φ h2
/-- the abstract heap is held -/
def HOk (H : Hp) (h : Heap) : Prop := ∀ a o, H a = some o → ObjOk P w H h a o
end

section
variable {P : Program} {w : World} {H H' : Hp} {h h' : Heap} {a : Addr} {o : HO}
theorem ObjOk.lt (x : ObjOk P w H h a o) : a < h.objs.size := by
  cases o with
  | lst xs => obtain ⟨_, _, _, _, e⟩ := x; exact Heap.lt_size e
  | tup xs => obtain ⟨_, _, _, p⟩ := x; exact p.lt
  | dK kvs => obtain ⟨_, _, _, _, o, _, _, e, _⟩ := x; exact Heap.lt_size e
  | dT kvs => obtain ⟨_, _, _, _, o, _, _, e, _⟩ := x; exact Heap.lt_size e
  | set S n => obtain ⟨o, _, _, _, e, _⟩ := x; exact Heap.lt_size e
  | ins C dx fs => obtain ⟨_, _, _, e, _⟩ := x; exact Heap.lt_size e
  | own y => obtain ⟨_, e⟩ := x; exact Heap.lt_size e
  | xd fs => obtain ⟨_, ⟨_, _, _, e, _⟩, _⟩ := x; exact Heap.lt_size e
  | rng lo hi => obtain ⟨_, _, _, e⟩ := x; exact Heap.lt_size e
  | frz ob u => obtain ⟨e, _⟩ := x; exact Heap.lt_size e
  | tbl ps => exact Heap.lt_size (show h.get? a = some _ from x)
  | met f y => exact Heap.lt_size (show h.get? a = some _ from x)
  | ext φ => obtain ⟨_, ⟨_, e⟩, _⟩ := x; exact Heap.lt_size e
theorem Paired.mapP {α β : Type} {F G : α → β → Prop} : ∀ {l₁ : List α} {l₂ : List β}, Paired F l₁ l₂ → (∀ a b, F a b → G a b) → Paired G l₁ l₂
  | _, _, .nil, _ => .nil
  | _, _, .cons r t, f => .cons (f _ _ r) (Paired.mapP t f)
/-- what an object's description leans on: its own object, its own dict, the tuples -/
theorem ObjOk.stay (x : ObjOk P w H h a o) (k : ∀ b u, (b = a ∨ H b = some (.own a)) → h.get? b = some u → h'.get? b = some u)
    (ho : ∀ b, H b = some (.own a) → H' b = some (.own a)) (ht : ∀ b xs, H b = some (.tup xs) → H' b = some (.tup xs)) : ObjOk P w H' h' a o := by
  induction o with
  | lst xs => obtain ⟨z, its, n, r, e⟩ := x; exact ⟨z, its, n, r, k _ _ (.inl rfl) e⟩
  | tup xs => obtain ⟨z, its, r, ob, e, c⟩ := x; exact ⟨z, its, r, ob, k _ _ (.inl rfl) e, c⟩
  | dK kvs => obtain ⟨z, y, vs, r, ob, es, ep, e, c⟩ := x; exact ⟨z, y, vs, r, ob, es, ep, k _ _ (.inl rfl) e, c⟩
  | dT kvs =>
    obtain ⟨z, y, xs, r, ob, es, ep, e, c⟩ := x
    exact ⟨z, y, xs, Paired.mapP r fun p q z => ⟨z.1, ht _ _ z.2.1, z.2.2⟩, ob, es, ep, k _ _ (.inl rfl) e, c⟩
  | set S n => obtain ⟨ob, es, ep, t, e, c⟩ := x; exact ⟨ob, es, ep, t, k _ _ (.inl rfl) e, c⟩
  | ins C dx fs =>
    obtain ⟨d, z, ne, e, mA, ⟨od, es, ep, e2, c⟩, r⟩ := x
    exact ⟨ho _ d, z, ne, k _ _ (.inl rfl) e, mA, ⟨od, es, ep, k _ _ (.inr d) e2, c⟩, r⟩
  | own y => obtain ⟨ob, e⟩ := x; exact ⟨ob, k _ _ (.inl rfl) e⟩
  | xd fs => obtain ⟨mA, ⟨od, es, ep, e, c⟩, r⟩ := x; exact ⟨mA, ⟨od, es, ep, k _ _ (.inl rfl) e, c⟩, r⟩
  | rng lo hi => obtain ⟨t, u, v, e⟩ := x; exact ⟨t, u, v, k _ _ (.inl rfl) e⟩
  | frz ob u ih => obtain ⟨e, q⟩ := x; exact ⟨k _ _ (.inl rfl) e, ih q⟩
  | tbl ps =>
    have e : h.get? a = some { cls := .none, data := .fields ps } := x
    show h'.get? a = some { cls := .none, data := .fields ps }
    exact k a _ (.inl rfl) e
  | met f y =>
    have e : h.get? a = some (PySem.W.methodObj (.ref f) (.ref y)) := x
    show h'.get? a = some (PySem.W.methodObj (.ref f) (.ref y))
    exact k a _ (.inl rfl) e
  | ext φ => obtain ⟨p, ⟨o, e⟩, st⟩ := x; exact ⟨st _ _ p fun o q => k _ _ (.inl rfl) q, ⟨o, k _ _ (.inl rfl) e⟩, st⟩
theorem HOk.lt (x : HOk P w H h) (e : H a = some o) : a < h.objs.size := (x a o e).lt
theorem HOk.fresh (x : HOk P w H h) (e : h.objs.size ≤ a) : H a = none := by
  cases q : H a with
  | none => rfl
  | some u => exact absurd (Nat.lt_of_lt_of_le (x.lt q) e) (Nat.lt_irrefl _)
/-- every object of the heap is kept -/
theorem HOk.kept (x : HOk P w H h) (k : ∀ b u, h.get? b = some u → h'.get? b = some u) : HOk P w H h' := fun a o e =>
  (x a o e).stay (fun b u _ q => k b u q) (fun _ q => q) fun _ _ q => q
/-- a new object is laid and tracked -/
theorem HOk.laid (x : HOk P w H h) (k : ∀ b u, h.get? b = some u → h'.get? b = some u) (hp : h.objs.size ≤ a) (new : ObjOk P w (upd H a o) h' a o) : HOk P w (upd H a o) h' := fun b u e => by
  have hn := x.fresh hp
  by_cases hb : b = a
  · subst hb; rw [upd_same] at e; cases e; exact new
  · rw [upd_ne hb] at e
    exact (x b u e).stay (fun c v _ q => k c v q) (fun c q => by rw [upd_ne (ne_of_none q hn)]; exact q) fun c xs q => by rw [upd_ne (ne_of_none q hn)]; exact q
end

/-- what may be read as u: it is u, or a known u -/
def Rd (H : Hp) (a : Addr) (u : HO) : Prop := H a = some u ∨ ∃ o, H a = some (.frz o u)
theorem Rd.ok {P : Program} {w : World} {H : Hp} {h : Heap} {a : Addr} {u : HO} (r : Rd H a u) (x : HOk P w H h) : ObjOk P w H h a u := by
  rcases r with r | ⟨o, r⟩
  · exact x a u r
  · obtain ⟨_, q⟩ := x a _ r
    exact q
/-- what may be written -/
def Mut : Option HO → Prop
  | some (.lst _) => True
  | some (.dK _) => True
  | some (.dT _) => True
  | some (.set _ _) => True
  | some (.ins _ _ _) => True
  | some (.ext _) => True
  | _ => False
section
variable {P : Program} {w : World} {H : Hp} {h h' : Heap} {x e : Addr} {o' : HO}
/-- the object at e is changed: x itself, or the dict of the instance x -/
theorem HOk.write (ok : HOk P w H h) (mu : Mut (H x)) (he : e = x ∨ H e = some (.own x)) (k : ∀ b u, b ≠ e → h.get? b = some u → h'.get? b = some u) (heo : ∃ u, h'.get? e = some u)
    (new : ObjOk P w (upd H x o') h' x o') : HOk P w (upd H x o') h' := fun b u q => by
  have nown : ∀ c y, H c = some (.own y) → c ≠ x := fun c y r z => by subst z; rw [r] at mu; exact mu
  have ntup : ∀ c xs, H c = some (.tup xs) → c ≠ x := fun c xs r z => by subst z; rw [r] at mu; exact mu
  by_cases hb : b = x
  · subst hb; rw [upd_same] at q; cases q; exact new
  · rw [upd_ne hb] at q
    by_cases hbe : b = e
    · have q' : H b = some (.own x) := by
        rcases he with z | z
        · exact absurd (hbe.trans z) hb
        · rw [hbe]; exact z
      rw [q] at q'; cases q'
      obtain ⟨v, hv⟩ := heo
      exact ⟨v, by rw [hbe]; exact hv⟩
    · refine (ok b u q).stay (fun c v hc r => k c v ?_ r) (fun c r => by rw [upd_ne (nown c b r)]; exact r) fun c xs r => by rw [upd_ne (ntup c xs r)]; exact r
      rcases hc with rfl | hc
      · exact hbe
      · rintro rfl
        rcases he with z | z
        · exact nown c b hc z
        · rw [hc] at z; cases z; exact hb rfl
end

/-! ### kept unless tracked; of the frames at fs (the callers') the slots may change (an exception that passes writes there); of the records at ex (iterators) nothing is said -/
structure Un (fs ex : List Addr) (H H' : Hp) (h h' : Heap) : Prop where
  keep : ∀ b o, h.get? b = some o → H b = none → b ∉ fs → b ∉ ex → h'.get? b = some o
  slot : ∀ b o, h.get? b = some o → H b = none → b ∈ fs → b ∉ ex → ∃ sl, h'.get? b = some { o with slots := sl }
  free : ∀ b o, h.get? b = some o → H b = none → b ∉ ex → H' b = none
  there : ∀ b o, h.get? b = some o → b ∉ ex → ∃ o', h'.get? b = some o'
  tups : ∀ b xs, H b = some (.tup xs) → H' b = some (.tup xs)
  frzs : ∀ b o u, H b = some (.frz o u) → H' b = some (.frz o u)
  tbls : ∀ b ps, H b = some (.tbl ps) → ∃ more, H' b = some (.tbl (ps ++ more))
section
variable {fs fs' ex ex' : List Addr} {H H1 H2 : Hp} {h h1 h2 h' : Heap} {a x e : Addr} {o : HO}
theorem Un.any (u : Un fs ex H H1 h h1) {b : Addr} {ob : Obj} (q : h.get? b = some ob) (n : H b = none) (hx : b ∉ ex) : ∃ sl, h1.get? b = some { ob with slots := sl } := by
  by_cases hb : b ∈ fs
  · exact u.slot b ob q n hb hx
  · exact ⟨ob.slots, u.keep b ob q n hb hx⟩
theorem Un.kept (k : ∀ b u, h.get? b = some u → h'.get? b = some u) : Un fs ex H H h h' :=
  ⟨fun b ob q _ _ _ => k b ob q, fun b ob q _ _ _ => ⟨ob.slots, k b ob q⟩, fun _ _ _ n _ => n, fun b ob q _ => ⟨ob, k b ob q⟩, fun _ _ q => q, fun _ _ _ q => q, fun _ ps q => ⟨#[], by rw [q]; simp⟩⟩
theorem Un.refl : Un fs ex H H h h := Un.kept fun _ _ q => q
theorem Un.laid (k : ∀ b u, h.get? b = some u → h'.get? b = some u) (hp : h.objs.size ≤ a) (hn : H a = none) : Un fs ex H (upd H a o) h h' where
  keep := fun b u q _ _ _ => k b u q
  slot := fun b u q _ _ _ => ⟨u.slots, k b u q⟩
  free := fun b u q n _ => by rw [upd_ne (Nat.ne_of_lt (Nat.lt_of_lt_of_le (Heap.lt_size q) hp))]; exact n
  there := fun b u q _ => ⟨u, k b u q⟩
  tups := fun b xs q => by rw [upd_ne (ne_of_none q hn)]; exact q
  frzs := fun b u xs q => by rw [upd_ne (ne_of_none q hn)]; exact q
  tbls := fun b ps q => ⟨#[], by rw [upd_ne (ne_of_none q hn), q]; simp⟩
theorem Un.write (mu : Mut (H x)) (he : e = x ∨ H e = some (.own x)) (k : ∀ b u, b ≠ e → h.get? b = some u → h'.get? b = some u) (heo : ∃ u, h'.get? e = some u) : Un fs ex H (upd H x o) h h' := by
  have hx : ∀ b, H b = none → b ≠ x := fun b n z => by subst z; rw [n] at mu; exact mu
  have hb : ∀ b, H b = none → b ≠ e := fun b n z => by
    subst z
    rcases he with r | r
    · exact hx b n r
    · rw [n] at r; cases r
  have hm : ∀ b u, H b = some u → ¬ Mut (some u) → b ≠ x := fun b u q nm z => by subst z; rw [q] at mu; exact nm mu
  refine ⟨fun b u q n _ _ => k b u (hb b n) q, fun b u q n _ _ => ⟨u.slots, k b u (hb b n) q⟩, fun b u q n _ => by rw [upd_ne (hx b n)]; exact n, fun b u q _ => ?_,
    fun b xs q => by rw [upd_ne (hm b _ q fun z => z)]; exact q, fun b u xs q => by rw [upd_ne (hm b _ q fun z => z)]; exact q, fun b ps q => ⟨#[], by rw [upd_ne (hm b _ q fun z => z), q]; simp⟩⟩
  by_cases hbe : b = e
  · subst hbe; exact heo
  · exact ⟨u, k b u hbe q⟩
end

/-! ### the heap without what is tracked -/
def trk (h : Heap) (H : Hp) : List Addr := (List.range h.objs.size).filter fun a => (H a).isSome
def hidT (h : Heap) (H : Hp) : Heap := PySem.W.hideAll h (trk h H)
theorem hidT_size (h : Heap) (H : Hp) : (hidT h H).objs.size = h.objs.size := PySem.W.hideAll_size _ _
theorem hidT_get {h : Heap} {H : Hp} {b : Addr} {o : Obj} (e : h.get? b = some o) (n : H b = none) : (hidT h H).get? b = some o :=
  PySem.W.hideAll_get _ e fun hm => by
    have q : (H b).isSome = true := (List.mem_filter.mp hm).2
    rw [n] at q; simp at q
theorem of_hidT {h : Heap} {H : Hp} {b : Addr} {o : Obj} (e : (hidT h H).get? b = some o) : h.get? b = some o ∧ H b = none := by
  have e' : h.get? b = some o := PySem.W.of_hideAll (trk h H) e
  refine ⟨e', ?_⟩
  cases q : H b with
  | none => rfl
  | some x =>
    have hm : b ∈ trk h H := List.mem_filter.mpr ⟨List.mem_range.mpr (Heap.lt_size e'), by simp [q]⟩
    have z : (hidT h H).get? b = none := PySem.W.hideAll_none (trk h H) hm
    rw [z] at e; cases e

/-! ### OpenK's ledger, filled with every new object but one -/
def allNews (g h : Heap) (L : Addr) : List (Addr × Obj) := (List.range h.objs.size).filterMap fun a => if a = L ∨ (g.get? a).isSome = true then none else (h.get? a).map fun o => (a, o)
def rest (g h : Heap) (L d : Addr) : List (Addr × Obj) := (allNews g h L).filter fun p => decide (p.1 ≠ d)
end L2

namespace L2
open PySem PySem.Spec PyProof.Rows

/-- the module's facts, over the base: the heap at the law's entry without what is tracked there -/
structure Mod (K : PySem.W.Frag) (mg : Str → Option Value) (base : Heap) : Prop where
  kin : K.In base
  glob : base.Ns mainGlobals mg
  blt : ∃ mb, base.Ns builtinsNs mb ∧ ∀ x : Str, x ≠ "__name__" → mb x = bootBuiltins x
  nolimit : base.NoLimit

/-- the context: a def's body (or a comprehension's block) running. base: fixed through the whole law; s₀, H₀: the entry; outer: the frames whose slots others may change (a def's callers); stack: all frames that run;
   ex: iterators that were made ahead of the entry and are walked here (a comprehension's); fn: the names whose cells were made at the entry (a def: all; a comprehension's block: its own); calm: not within an except suite; pn: pins that every state bears; xe: what is wanted of an exception that leaves the code -/
structure Cx where
  prog : Program
  w : World
  K : PySem.W.Frag
  mg : Str → Option Value
  base : Heap
  A : Around
  N : List Str
  s₀ : Shared
  H₀ : Hp
  env : Env
  outer : List Env
  stack : List Env
  ex : List Addr
  fn : Str → Bool
  calm : Bool
  pn : List (Addr × Obj)
  xe : Value → Shared → Prop
/-- the callers' frames -/
def frs (l : List Env) : List Addr := l.filterMap (·.frame)
abbrev Cx.fs (X : Cx) : List Addr := frs X.outer

def Vis (sc : Scope) (x : Str) : Prop := sc.names.lookup x = some .local ∨ sc.names.lookup x = some .cell ∨ sc.names.lookup x = some .free
def Loc (sc : Scope) (x : Str) : Prop := sc.names.lookup x = some .local ∨ sc.names.lookup x = some .cell
def Look (env : Env) (h : Heap) (m : Str → Option Value) (x : Str) (u : Value) : Prop :=
  (env.kindOf x = some .local ∧ m x = some u) ∨ ((env.kindOf x = some .cell ∨ env.kindOf x = some .free) ∧ ∃ c, env.cells.lookup x = some c ∧ h.IsCell c (some u))

structure Cx.Ok (X : Cx) : Prop where
  mod : Mod X.K X.mg X.base
  kind : X.env.scope.kind = .function
  glob : X.env.globals = mainGlobals
  blt : X.env.builtins = builtinsNs
  above : X.s₀.heap.objs.size ≤ X.env.locals
  inj : ∀ x y c, X.env.cells.lookup x = some c → X.env.cells.lookup y = some c → x = y
  has : ∀ x, (X.env.kindOf x = some .cell ∨ X.env.kindOf x = some .free) → ∃ c, X.env.cells.lookup x = some c
  cab : ∀ x c, X.fn x = true → X.env.cells.lookup x = some c → X.s₀.heap.objs.size ≤ c
  hd : X.calm = true → X.A.handled = none
  frames : X.A.frames = some X.stack
  stk : X.stack = X.outer ∨ (X.stack = X.env :: X.outer ∧ X.env.frame = some X.env.locals)
  exf : ∀ b ∈ X.ex, b ≠ X.env.locals ∧ ∀ x c, X.env.cells.lookup x = some c → c ≠ b
  bs : ∀ b o, X.base.get? b = some o → X.s₀.heap.get? b = some o ∧ X.H₀ b = none
  bsz : X.base.objs.size ≤ X.s₀.heap.objs.size
  noex : ∀ b o, X.base.get? b = some o → b ∉ X.ex
  exfs : ∀ b ∈ X.ex, b ∉ X.fs
  funs : X.s₀.heap.FunFrames X.base X.outer
  frf : ∀ b ∈ X.fs, X.H₀ b = none

structure Inv (X : Cx) (pins : List (Addr × Obj)) (σ : List (Option V)) (H : Hp) (s : Shared) : Prop where
  ok : X.Ok
  os : s.os = X.s₀.os
  bare : AllBare s.gens
  base : Un X.fs X.ex X.H₀ H X.s₀.heap s.heap
  loc : ∃ m, s.heap.Ns X.env.locals m ∧ ∀ (i : Nat) (x : Str) (v : V), X.N[i]? = some x → σ[i]? = some (some v) → Vis X.env.scope x → ∃ u, RelV v u ∧ Look X.env s.heap m x u
  cell : ∀ x c, X.env.cells.lookup x = some c → ∃ v, s.heap.IsCell c v
  free : H X.env.locals = none
  freeC : ∀ x c, X.env.cells.lookup x = some c → H c = none
  pin : ∀ p ∈ X.pn ++ pins, s.heap.get? p.1 = some p.2 ∧ H p.1 = none ∧ p.1 ≠ X.env.locals ∧ p.1 ∉ X.fs ∧ ∀ v, p.2.data ≠ .cell v
  hok : HOk X.prog X.w H s.heap
  len : σ.length = X.N.length

section
variable {X : Cx} {pins : List (Addr × Obj)} {σ : List (Option V)} {H H' : Hp} {s : Shared} {h' : Heap}

theorem Cx.Ok.nofr (ok : X.Ok) {b : Addr} {o : Obj} (e : X.base.get? b = some o) : b ∉ X.fs := fun hb => by
  have := (ok.funs.mem hb).1
  rw [e] at this; cases this
theorem Inv.bs (I : Inv X pins σ H s) : ∀ b o, X.base.get? b = some o → s.heap.get? b = some o ∧ H b = none := fun b o e =>
  ⟨I.base.keep b o (I.ok.bs b o e).1 (I.ok.bs b o e).2 (I.ok.nofr e) (I.ok.noex b o e), I.base.free b o (I.ok.bs b o e).1 (I.ok.bs b o e).2 (I.ok.noex b o e)⟩
theorem Inv.bk (I : Inv X pins σ H s) : ∀ b o, X.base.get? b = some o → s.heap.get? b = some o := fun b o e => (I.bs b o e).1
theorem Inv.mod (I : Inv X pins σ H s) : Mod X.K X.mg X.base := I.ok.mod
theorem Inv.kIn (I : Inv X pins σ H s) : X.K.In s.heap := I.ok.mod.kin.keeps I.bk
theorem Inv.lt (I : Inv X pins σ H s) : X.env.locals < s.heap.objs.size := let ⟨_, hn, _⟩ := I.loc; hn.lt
theorem Inv.sz (I : Inv X pins σ H s) : X.s₀.heap.objs.size ≤ s.heap.objs.size := Nat.le_trans I.ok.above (Nat.le_of_lt I.lt)
theorem Inv.nofs (I : Inv X pins σ H s) {a : Addr} (h : s.heap.objs.size ≤ a) : a ∉ X.fs := fun hb => by
  obtain ⟨_, o, ho, _⟩ := I.ok.funs.mem hb
  exact absurd (Nat.lt_of_lt_of_le (Heap.lt_size ho) (Nat.le_trans I.sz h)) (Nat.lt_irrefl _)
theorem Inv.cne (I : Inv X pins σ H s) : ∀ x c, X.env.cells.lookup x = some c → c ≠ X.env.locals := fun x c e z => by
  obtain ⟨v, o, ho, hd⟩ := I.cell x c e
  obtain ⟨m, ⟨o', es, ep, ho', hd', _⟩, _⟩ := I.loc
  rw [z, ho'] at ho; cases ho; rw [hd'] at hd; cases hd
theorem Inv.funs (I : Inv X pins σ H s) : s.heap.FunFrames X.base X.outer := by
  have all : ∀ (l : List Env), (∀ b ∈ frs l, b ∈ X.fs) → X.s₀.heap.FunFrames X.base l → s.heap.FunFrames X.base l := by
    intro l
    induction l with
    | nil => intro _ _; trivial
    | cons env r ih =>
      intro hs hl
      obtain ⟨hk, ⟨L, o, hf, hn, ho, hd⟩, hr⟩ := hl
      have hL : L ∈ X.fs := hs L (by unfold frs; rw [List.filterMap_cons, hf]; exact List.mem_cons_self)
      obtain ⟨sl, e⟩ := I.base.slot L o ho (I.ok.frf L hL) hL fun z => I.ok.exfs L z hL
      exact ⟨hk, ⟨L, _, hf, hn, e, hd⟩, ih (fun b hb => hs b (by unfold frs; rw [List.filterMap_cons, hf]; exact List.mem_cons_of_mem _ hb)) hr⟩
  exact all X.outer (fun _ hb => hb) I.ok.funs

/-- the frames that run, for a call -/
theorem Inv.stack (I : Inv X pins σ H s) : s.heap.FunFrames X.base X.stack := by
  rcases I.ok.stk with e | ⟨e, hf⟩
  · rw [e]; exact I.funs
  · rw [e]
    obtain ⟨m, hn, _⟩ := I.loc
    refine .cons (by rw [I.ok.kind]; decide) hf hn ?_ I.funs
    exact Heap.get?_none_of_le (Nat.le_trans I.ok.bsz I.ok.above)
theorem Inv.stkSub (I : Inv X pins σ H s) : ∀ b ∈ frs X.stack, b ∈ X.env.locals :: X.fs := fun b hb => by
  rcases I.ok.stk with e | ⟨e, hf⟩
  · rw [e] at hb; exact List.mem_cons_of_mem _ hb
  · rw [e] at hb
    unfold frs at hb
    rw [List.filterMap_cons, hf] at hb
    exact hb
theorem Inv.stkFree (I : Inv X pins σ H s) : ∀ b ∈ frs X.stack, H b = none := fun b hb => by
  rcases List.mem_cons.mp (I.stkSub b hb) with e | hb
  · rw [e]; exact I.free
  · obtain ⟨_, o, ho, _⟩ := I.ok.funs.mem hb
    exact I.base.free b o ho (I.ok.frf b hb) fun z => I.ok.exfs b z hb

/-- THE STEP: the untracked objects but the frame and the records at ch are kept (the callers' frames up to slots), the frame's map is kept, the new abstract heap is held -/
theorem Inv.step {g' : Array GenState} {t' : Nat} {d' : Drawn} {ch : List Addr} (I : Inv X pins σ H s)
    (hch : ∀ b ∈ ch, (b ∈ X.ex ∨ X.s₀.heap.objs.size ≤ b) ∧ b ≠ X.env.locals ∧ (∀ x c, X.env.cells.lookup x = some c → c ≠ b) ∧ ∀ p ∈ X.pn ++ pins, p.1 ≠ b)
    (keep : ∀ b o, b ≠ X.env.locals → b ∉ X.fs → b ∉ ch → s.heap.get? b = some o → H b = none → h'.get? b = some o)
    (slot : ∀ b o, b ≠ X.env.locals → b ∈ X.fs → b ∉ ch → s.heap.get? b = some o → H b = none → ∃ sl, h'.get? b = some { o with slots := sl }) (free : ∀ b o, b ∉ ch → s.heap.get? b = some o → H b = none → H' b = none)
    (there : ∀ b o, b ∉ ch → s.heap.get? b = some o → ∃ o', h'.get? b = some o')
    (tups : ∀ b xs, H b = some (.tup xs) → H' b = some (.tup xs)) (frzs : ∀ b o u, H b = some (.frz o u) → H' b = some (.frz o u)) (tbls : ∀ b ps, H b = some (.tbl ps) → ∃ more, H' b = some (.tbl (ps ++ more)))
    (ns : ∀ m, s.heap.Ns X.env.locals m → h'.Ns X.env.locals m) (hok : HOk X.prog X.w H' h') (hg : AllBare g') :
    Inv X pins σ H' { s with heap := h', gens := g', drawn := d', toks := t' } := by
  have neL : ∀ b o, X.s₀.heap.get? b = some o → b ≠ X.env.locals := fun b o e => Nat.ne_of_lt (Nat.lt_of_lt_of_le (Heap.lt_size e) I.ok.above)
  have neC : ∀ b o, X.s₀.heap.get? b = some o → b ∉ X.ex → b ∉ ch := fun b o e hx hb => by
    rcases (hch b hb).1 with z | z
    · exact hx z
    · exact absurd (Nat.lt_of_lt_of_le (Heap.lt_size e) z) (Nat.lt_irrefl _)
  have cellK : ∀ x c, X.env.cells.lookup x = some c → ∀ v, s.heap.IsCell c v → h'.IsCell c v := fun x c e v ⟨o, ho, hd⟩ => by
    have nch : c ∉ ch := fun z => (hch c z).2.2.1 x c e rfl
    by_cases hc : c ∈ X.fs
    · obtain ⟨sl, q⟩ := slot c o (I.cne x c e) hc nch ho (I.freeC x c e)
      exact ⟨_, q, hd⟩
    · exact ⟨o, keep c o (I.cne x c e) hc nch ho (I.freeC x c e), hd⟩
  refine ⟨I.ok, I.os, hg, ⟨fun b o e n hb hx => ?_, fun b o e n hb hx => ?_, fun b o e n hx => ?_, fun b o e hx => ?_, fun b xs e => tups b xs (I.base.tups b xs e), fun b o xs e => frzs b o xs (I.base.frzs b o xs e), fun b ps e => ?_⟩, ?_, fun x c e => ?_, ?_, fun x c e => ?_, fun p hp => ?_, hok, I.len⟩
  · exact keep b o (neL b o e) hb (neC b o e hx) (I.base.keep b o e n hb hx) (I.base.free b o e n hx)
  · obtain ⟨sl, e1⟩ := I.base.slot b o e n hb hx
    obtain ⟨sl', e2⟩ := slot b _ (neL b o e) hb (neC b o e hx) e1 (I.base.free b o e n hx)
    exact ⟨sl', e2⟩
  · obtain ⟨o', e1⟩ := I.base.there b o e hx
    exact free b o' (neC b o e hx) e1 (I.base.free b o e n hx)
  · obtain ⟨o', e1⟩ := I.base.there b o e hx
    exact there b o' (neC b o e hx) e1
  · obtain ⟨m1, e1⟩ := I.base.tbls b ps e
    obtain ⟨m2, e2⟩ := tbls b _ e1
    exact ⟨m1 ++ m2, by rw [e2, Array.append_assoc]⟩
  · obtain ⟨m, hn, hl⟩ := I.loc
    refine ⟨m, ns m hn, fun i x v e1 e2 e3 => ?_⟩
    obtain ⟨u, r, l⟩ := hl i x v e1 e2 e3
    refine ⟨u, r, ?_⟩
    rcases l with l | ⟨k, c, e, z⟩
    · exact .inl l
    · exact .inr ⟨k, c, e, cellK x c e _ z⟩
  · obtain ⟨v, z⟩ := I.cell x c e
    exact ⟨v, cellK x c e v z⟩
  · obtain ⟨m, ⟨o, _, _, ho, _⟩, _⟩ := I.loc
    exact free _ o (fun z => (hch _ z).2.1 rfl) ho I.free
  · obtain ⟨v, o, ho, hd⟩ := I.cell x c e
    exact free c o (fun z => (hch c z).2.2.1 x c e rfl) ho (I.freeC x c e)
  · obtain ⟨e, n, ne, nf, d⟩ := I.pin p hp
    have nch : p.1 ∉ ch := fun z => (hch p.1 z).2.2.2 p hp rfl
    exact ⟨keep p.1 p.2 ne nf nch e n, free p.1 p.2 nch e n, ne, nf, d⟩
/-- .. where the frame's own object is kept too -/
theorem Inv.un {t' : Nat} (I : Inv X pins σ H s) (u : Un X.fs [] H H' s.heap h') (hok : HOk X.prog X.w H' h') : Inv X pins σ H' { s with heap := h', toks := t' } := by
  obtain ⟨m, ⟨o, es, ep, ho, r⟩, _⟩ := id I.loc
  obtain ⟨sl, hL⟩ := u.any ho I.free (by simp)
  exact I.step (g' := s.gens) (d' := s.drawn) (ch := []) (fun _ z => nomatch z) (fun b o _ hb _ e n => u.keep b o e n hb (by simp)) (fun b o _ hb _ e n => u.slot b o e n hb (by simp)) (fun b o _ e n => u.free b o e n (by simp)) (fun b o _ e => u.there b o e (by simp)) u.tups u.frzs u.tbls (fun m' hm => by
    obtain ⟨o', es', ep', ho', r'⟩ := hm
    rw [ho] at ho'; cases ho'
    exact ⟨_, es', ep', hL, r'⟩) hok I.bare
/-- behind a call (or a comprehension's block): the slots of this frame may have changed too, the records at ch may have turned -/
theorem Inv.call {g' : Array GenState} {t' : Nat} {d' : Drawn} {ch : List Addr} (I : Inv X pins σ H s) (u : Un (frs X.stack) ch H H' s.heap h') (hok : HOk X.prog X.w H' h') (hg : AllBare g')
    (hch : ∀ b ∈ ch, (b ∈ X.ex ∨ X.s₀.heap.objs.size ≤ b) ∧ b ≠ X.env.locals ∧ (∀ x c, X.env.cells.lookup x = some c → c ≠ b) ∧ ∀ p ∈ X.pn ++ pins, p.1 ≠ b) :
    Inv X pins σ H' { s with heap := h', gens := g', drawn := d', toks := t' } := by
  obtain ⟨m, ⟨o, es, ep, ho, r⟩, _⟩ := id I.loc
  obtain ⟨sl, hL⟩ := u.any ho I.free fun z => (hch _ z).2.1 rfl
  exact I.step (ch := ch) hch (fun b o hL hb hc e n => u.keep b o e n (fun z => (List.mem_cons.mp (I.stkSub b z)).elim hL hb) hc) (fun b o _ _ hc e n => u.any e n hc) (fun b o hc e n => u.free b o e n hc) (fun b o hc e => u.there b o e hc) u.tups u.frzs u.tbls (fun m' hm => by
    obtain ⟨o', es', ep', ho', r'⟩ := hm
    rw [ho] at ho'; cases ho'
    exact ⟨_, es', ep', hL, r'⟩) hok hg
/-- an untracked record of ours (an iterator) has turned -/
theorem Inv.turned {t' : Nat} {it : Addr} (I : Inv X pins σ H s) (k : ∀ b o, b ≠ it → s.heap.get? b = some o → h'.get? b = some o) (hn : H it = none) (hL : it ≠ X.env.locals)
    (h1 : it ∈ X.ex ∨ X.s₀.heap.objs.size ≤ it) (h2 : ∀ x c, X.env.cells.lookup x = some c → c ≠ it) (h3 : ∀ p ∈ X.pn ++ pins, p.1 ≠ it) : Inv X pins σ H { s with heap := h', toks := t' } := by
  have nit : ∀ b u, H b = some u → b ≠ it := fun b u e z => by rw [z, hn] at e; cases e
  refine I.step (g' := s.gens) (d' := s.drawn) (ch := [it]) (fun b hb => ?_) (fun b o _ _ hc e _ => k b o (fun z => hc (by simp [z])) e) (fun b o _ _ hc e _ => ⟨o.slots, k b o (fun z => hc (by simp [z])) e⟩) (fun _ _ _ _ n => n)
    (fun b o hc e => ⟨o, k b o (fun z => hc (by simp [z])) e⟩) (fun _ _ e => e) (fun _ _ _ e => e) (fun b ps e => ⟨#[], by rw [e]; simp⟩) (fun m hm => ?_) (fun b u e => ?_) I.bare
  · have e : b = it := by simpa using hb
    subst e
    exact ⟨h1, hL, h2, h3⟩
  · obtain ⟨o, es, ep, ho, r⟩ := hm
    exact ⟨o, es, ep, k _ o (Ne.symm hL) ho, r⟩
  · refine (I.hok b u e).stay (fun c v hc q => k c v ?_ q) (fun _ q => q) fun _ _ q => q
    rcases hc with z | z
    · rw [z]; exact nit b u e
    · exact nit c _ z
theorem Inv.tok (I : Inv X pins σ H s) (t : Nat) : Inv X pins σ H { s with toks := t } := I.un (h' := s.heap) (t' := t) Un.refl I.hok
/-- all objects kept -/
theorem Inv.kept {t' : Nat} (I : Inv X pins σ H s) (k : ∀ b u, s.heap.get? b = some u → h'.get? b = some u) : Inv X pins σ H { s with heap := h', toks := t' } := I.un (Un.kept k) (I.hok.kept k)
/-- a new object laid and tracked -/
theorem Inv.laid {a : Addr} {o : HO} {t' : Nat} (I : Inv X pins σ H s) (k : ∀ b u, s.heap.get? b = some u → h'.get? b = some u) (hp : s.heap.objs.size ≤ a) (new : ObjOk X.prog X.w (upd H a o) h' a o) :
    Inv X pins σ (upd H a o) { s with heap := h', toks := t' } := I.un (Un.laid k hp (I.hok.fresh hp)) (I.hok.laid k hp new)
/-- an object written -/
theorem Inv.write {x e : Addr} {o : HO} {t' : Nat} (I : Inv X pins σ H s) (mu : Mut (H x)) (he : e = x ∨ H e = some (.own x)) (k : ∀ b u, b ≠ e → s.heap.get? b = some u → h'.get? b = some u) (heo : ∃ u, h'.get? e = some u)
    (new : ObjOk X.prog X.w (upd H x o) h' x o) : Inv X pins σ (upd H x o) { s with heap := h', toks := t' } := I.un (Un.write mu he k heo) (I.hok.write mu he k heo new)
/-- forgetting slots, pins -/
theorem Inv.weak {σ' : List (Option V)} (I : Inv X pins σ H s) (hl : σ'.length = σ.length) (w : ∀ (i : Nat) v, σ'[i]? = some (some v) → σ[i]? = some (some v)) : Inv X pins σ' H s :=
  ⟨I.ok, I.os, I.bare, I.base, let ⟨m, hn, hl'⟩ := I.loc; ⟨m, hn, fun i x v e1 e2 e3 => hl' i x v e1 (w i v e2) e3⟩, I.cell, I.free, I.freeC, I.pin, I.hok, hl.trans I.len⟩
theorem Inv.pins_of {pins' : List (Addr × Obj)} (I : Inv X pins σ H s) (h : ∀ p ∈ pins', s.heap.get? p.1 = some p.2 ∧ H p.1 = none ∧ p.1 ≠ X.env.locals ∧ p.1 ∉ X.fs ∧ ∀ v, p.2.data ≠ .cell v) : Inv X pins' σ H s :=
  ⟨I.ok, I.os, I.bare, I.base, I.loc, I.cell, I.free, I.freeC, fun p hp => (List.mem_append.mp hp).elim (fun z => I.pin p (List.mem_append_left _ z)) (h p), I.hok, I.len⟩

theorem nodup_ix {N : List Str} (hN : N.Nodup) {i j : Nat} {x : Str} (a : N[i]? = some x) (b : N[j]? = some x) : i = j := by
  obtain ⟨h1, e1⟩ := List.getElem?_eq_some_iff.mp a
  obtain ⟨h2, e2⟩ := List.getElem?_eq_some_iff.mp b
  exact (List.getElem_inj hN).mp (e1.trans e2.symm)

/-- a name is stored; what changed -/
theorem store_ok2 {M : Model} {A : Around} {E : Value → Shared → Prop} {i : Nat} {x : Str} {v : V} {u : Value} {Q : Unit → Shared → Prop} (I : Inv X pins σ H s) (hN : X.N.Nodup) (hi : X.N[i]? = some x) (hx : Loc X.env.scope x) (r : RelV v u)
    (h : ∀ s', Inv X pins (σ.set i (some v)) H s' → (∃ a, Heap.SameBut a s.heap s'.heap ∧ (a = X.env.locals ∨ X.env.cells.lookup x = some a)) → Q () s') (hf : X.fn x = true ∨ X.env.scope.names.lookup x = some .local := by first | exact .inl rfl | exact .inr rfl | assumption) : wpAny M A (storeName X.env x u) Q E s := by
  obtain ⟨m, hn, hl⟩ := id I.loc
  have hcls : (X.env.scope.kind == .class || (X.env.scope.kind == .module && X.env.locals != X.env.globals)) = false := by rw [I.ok.kind]; rfl
  have hiσ : i < σ.length := by rw [I.len]; exact (List.getElem?_eq_some_iff.mp hi).1
  have cne := I.cne
  have tracked : ∀ {a : Addr} {h' : Heap}, (∃ o, s.heap.get? a = some o ∧ H a = none) → Heap.SameBut a s.heap h' → HOk X.prog X.w H h' := fun {a h'} ha hs b ob e => by
    obtain ⟨_, _, hfree⟩ := ha
    refine (I.hok b ob e).stay (fun c w' hc q => (hs.2 c ?_).trans q) (fun _ q => q) fun _ _ q => q
    rintro rfl
    rcases hc with rfl | hc
    · rw [hfree] at e; cases e
    · rw [hfree] at hc; cases hc
  rcases hx with hk | hk
  · refine wpAny_storeName_local hk hn (fun h' hn' hs => ?_) hcls
    obtain ⟨oL, _, _, hoL, _⟩ := id hn
    refine h _ ⟨I.ok, I.os, I.bare, ⟨fun b o e n hb hx => ?_, fun b o e n hb hx => ?_, I.base.free, fun b o e hx => ?_, I.base.tups, I.base.frzs, I.base.tbls⟩, ⟨_, hn', fun j y v' e1 e2 e3 => ?_⟩, fun y c e => ?_, I.free, I.freeC, fun p hp => ?_, tracked ⟨oL, hoL, I.free⟩ hs, by simpa using I.len⟩ ⟨_, hs, .inl rfl⟩
    · exact (hs.2 b (Nat.ne_of_lt (Nat.lt_of_lt_of_le (Heap.lt_size e) I.ok.above))).trans (I.base.keep b o e n hb hx)
    · obtain ⟨sl, e1⟩ := I.base.slot b o e n hb hx
      exact ⟨sl, (hs.2 b (Nat.ne_of_lt (Nat.lt_of_lt_of_le (Heap.lt_size e) I.ok.above))).trans e1⟩
    · obtain ⟨o', e1⟩ := I.base.there b o e hx
      exact ⟨o', (hs.2 b (Nat.ne_of_lt (Nat.lt_of_lt_of_le (Heap.lt_size e) I.ok.above))).trans e1⟩
    · by_cases hj : j = i
      · subst hj
        rw [hi] at e1; cases e1
        rw [List.getElem?_set_self hiσ] at e2
        cases e2
        exact ⟨u, r, .inl ⟨hk, by simp⟩⟩
      · rw [List.getElem?_set_ne (Ne.symm hj)] at e2
        obtain ⟨u', r', q⟩ := hl j y v' e1 e2 e3
        refine ⟨u', r', ?_⟩
        rcases q with ⟨k, e⟩ | ⟨k, c, e, z⟩
        · refine .inl ⟨k, ?_⟩
          have : y ≠ x := fun e => hj (nodup_ix hN e1 (e ▸ hi))
          simp [this, e]
        · exact .inr ⟨k, c, e, z.sameBut hs (cne y c e)⟩
    · obtain ⟨w', z⟩ := I.cell y c e
      exact ⟨w', z.sameBut hs (cne y c e)⟩
    · obtain ⟨e, n, ne, nf, d⟩ := I.pin p hp
      exact ⟨(hs.2 p.1 ne).trans e, n, ne, nf, d⟩
  · have hfn : X.fn x = true := by
      rcases hf with z | z
      · exact z
      · rw [z] at hk; cases hk
    obtain ⟨c, hc⟩ := I.ok.has x (.inl hk)
    obtain ⟨w', z⟩ := I.cell x c hc
    refine wpAny_storeName_cell I.ok.kind hk hc z (fun h' hc' hs => ?_)
    obtain ⟨oc, hoc, hocd⟩ := id z
    refine h { s with heap := h' } ⟨I.ok, I.os, I.bare, ⟨fun b o e n hb hx => ?_, fun b o e n hb hx => ?_, I.base.free, fun b o e hx => ?_, I.base.tups, I.base.frzs, I.base.tbls⟩, ⟨m, hn.sameBut hs (Ne.symm (cne x c hc)), fun j y v' e1 e2 e3 => ?_⟩, fun y c' e => ?_, I.free, I.freeC, fun p hp => ?_, tracked ⟨oc, hoc, I.freeC x c hc⟩ hs, by simpa using I.len⟩ ⟨c, hs, .inr hc⟩
    · exact (hs.2 b (Nat.ne_of_lt (Nat.lt_of_lt_of_le (Heap.lt_size e) (I.ok.cab x c hfn hc)))).trans (I.base.keep b o e n hb hx)
    · obtain ⟨sl, e1⟩ := I.base.slot b o e n hb hx
      exact ⟨sl, (hs.2 b (Nat.ne_of_lt (Nat.lt_of_lt_of_le (Heap.lt_size e) (I.ok.cab x c hfn hc)))).trans e1⟩
    · obtain ⟨o', e1⟩ := I.base.there b o e hx
      exact ⟨o', (hs.2 b (Nat.ne_of_lt (Nat.lt_of_lt_of_le (Heap.lt_size e) (I.ok.cab x c hfn hc)))).trans e1⟩
    · by_cases hj : j = i
      · subst hj
        rw [hi] at e1; cases e1
        rw [List.getElem?_set_self hiσ] at e2
        cases e2
        exact ⟨u, r, .inr ⟨.inl hk, c, hc, hc'⟩⟩
      · rw [List.getElem?_set_ne (Ne.symm hj)] at e2
        obtain ⟨u', r', q⟩ := hl j y v' e1 e2 e3
        refine ⟨u', r', ?_⟩
        rcases q with q | ⟨k, c', e, z'⟩
        · exact .inl q
        · refine .inr ⟨k, c', e, z'.sameBut hs ?_⟩
          rintro rfl
          exact hj (nodup_ix hN e1 (I.ok.inj _ _ _ e hc ▸ hi))
    · by_cases hcc : c' = c
      · subst hcc; exact ⟨_, hc'⟩
      · obtain ⟨w2, z2⟩ := I.cell y c' e
        exact ⟨w2, z2.sameBut hs hcc⟩
    · obtain ⟨e, n, ne, nf, d⟩ := I.pin p hp
      refine ⟨(hs.2 p.1 ?_).trans e, n, ne, nf, d⟩
      intro q
      rw [q, hoc] at e
      have q' : oc = p.2 := Option.some.inj e
      exact d w' (by rw [← q']; exact hocd)
theorem store_ok {M : Model} {A : Around} {E : Value → Shared → Prop} {i : Nat} {x : Str} {v : V} {u : Value} {Q : Unit → Shared → Prop} (I : Inv X pins σ H s) (hN : X.N.Nodup) (hi : X.N[i]? = some x) (hx : Loc X.env.scope x) (r : RelV v u)
    (h : ∀ s', Inv X pins (σ.set i (some v)) H s' → Q () s') (hf : X.fn x = true ∨ X.env.scope.names.lookup x = some .local := by first | exact .inl rfl | exact .inr rfl | assumption) : wpAny M A (storeName X.env x u) Q E s :=
  store_ok2 I hN hi hx r (fun s' I' _ => h s' I') hf
/-- behind a call or a block, the state as it is -/
theorem Inv.call' {s' : Shared} {ch : List Addr} (I : Inv X pins σ H s) (ho : s'.os = s.os) (u : Un (frs X.stack) ch H H' s.heap s'.heap) (hok : HOk X.prog X.w H' s'.heap) (hg : AllBare s'.gens)
    (hch : ∀ b ∈ ch, (b ∈ X.ex ∨ X.s₀.heap.objs.size ≤ b) ∧ b ≠ X.env.locals ∧ (∀ x c, X.env.cells.lookup x = some c → c ≠ b) ∧ ∀ p ∈ X.pn ++ pins, p.1 ≠ b) : Inv X pins σ H' s' := by
  obtain ⟨h', g', d', t', o'⟩ := s'
  have e : o' = s.os := ho
  subst e
  exact I.call (g' := g') (t' := t') (d' := d') u hok hg hch
end

/-! ### the judgements -/
/-- an exception: its class, its own dict's address (where it has one), the abstract heap behind it -/
abbrev XK := Value → Option Addr → Hp → Prop
abbrev St := List (Option V)
abbrev VK := V → Hp → Prop
/-- an expression's reading; a test's; an argument list's -/
abbrev TE := St → Hp → VK → Prop
abbrev TT := St → Hp → (Bool → Hp → Prop) → Prop
abbrev TA := St → Hp → (List V → Hp → Prop) → Prop
/-- what is wanted behind a statement -/
structure Ends where
  nx : St → Hp → Prop
  rt : VK
  bk : St → Hp → Prop := fun _ _ => False
  ct : St → Hp → Prop := fun _ _ => False
abbrev TS := Ends → St → Hp → Prop

def EP (X : Cx) (pins : List (Addr × Obj)) (σ : St) (Q : VK) (u : Value) (s' : Shared) : Prop := ∃ v H', Inv X pins σ H' s' ∧ RelV v u ∧ Q v H'
def TP (X : Cx) (pins : List (Addr × Obj)) (σ : St) (Q : Bool → Hp → Prop) (b : Bool) (s' : Shared) : Prop := ∃ H', Inv X pins σ H' s' ∧ Q b H'
def AP (X : Cx) (pins : List (Addr × Obj)) (σ : St) (Q : List V → Hp → Prop) (us : List Value) (s' : Shared) : Prop := ∃ vs H', Inv X pins σ H' s' ∧ Vals vs us ∧ Q vs H'
def SP (X : Cx) (pins : List (Addr × Obj)) (D : Ends) (f : Flow) (s' : Shared) : Prop :=
  match f with
  | .next => ∃ σ' H', Inv X pins σ' H' s' ∧ D.nx σ' H'
  | .brk => ∃ σ' H', Inv X pins σ' H' s' ∧ D.bk σ' H'
  | .cont => ∃ σ' H', Inv X pins σ' H' s' ∧ D.ct σ' H'
  | .ret u => ∃ v σ' H', Inv X pins σ' H' s' ∧ RelV v u ∧ D.rt v H'

def PE (X : Cx) (e : Expr) (t : TE) : Prop :=
  ∀ (pins : List (Addr × Obj)) (s : Shared) (σ : St) (H : Hp) (Q : VK), Inv X pins σ H s → t σ H Q → wpAny (model X.prog X.w) X.A (eval e X.env) (EP X pins σ Q) X.xe s
def PT (X : Cx) (e : Expr) (t : TT) : Prop :=
  ∀ (pins : List (Addr × Obj)) (s : Shared) (σ : St) (H : Hp) (Q : Bool → Hp → Prop), Inv X pins σ H s → t σ H Q → wpAny (model X.prog X.w) X.A (isTrue e X.env (eval e X.env)) (TP X pins σ Q) X.xe s
/-- a test whatever its 'whole' is (and, or) -/
def PW (X : Cx) (e : Expr) (t : TT) : Prop :=
  ∀ (whole : Sem Value) (pins : List (Addr × Obj)) (s : Shared) (σ : St) (H : Hp) (Q : Bool → Hp → Prop), Inv X pins σ H s → t σ H Q → wpAny (model X.prog X.w) X.A (isTrue e X.env whole) (TP X pins σ Q) X.xe s
theorem PW.pt {X : Cx} {e : Expr} {t : TT} (h : PW X e t) : PT X e t := h _
/-- an argument list (no star), from the left -/
def PA (X : Cx) (es : List Expr) (t : TA) : Prop :=
  ∀ (pos : Pos) (pins : List (Addr × Obj)) (s : Shared) (σ : St) (H : Hp) (Q : List V → Hp → Prop), Inv X pins σ H s → t σ H Q → wpAny (model X.prog X.w) X.A (spliced (backTo pos (starEach es X.env))) (AP X pins σ Q) X.xe s
def PS (X : Cx) (st : Stmt) (t : TS) : Prop :=
  ∀ (pins : List (Addr × Obj)) (s : Shared) (σ : St) (H : Hp) (D : Ends), Inv X pins σ H s → t D σ H → wpAny (model X.prog X.w) X.A (exec st X.env) (SP X pins D) X.xe s
def PSs (X : Cx) (st : List Stmt) (t : TS) : Prop :=
  ∀ (pins : List (Addr × Obj)) (s : Shared) (σ : St) (H : Hp) (D : Ends), Inv X pins σ H s → t D σ H → wpAny (model X.prog X.w) X.A (execs st X.env) (SP X pins D) X.xe s
/-- weaken the end -/
theorem thn {α : Type} {t : Sem α} {Q Q' : α → Shared → Prop} {M : Model} {A : Around} {E : Value → Shared → Prop} {s : Shared} (h : wpAny M A t Q E s) (hQ : ∀ a s, Q a s → Q' a s) : wpAny M A t Q' E s := wpAny_mono h hQ fun _ _ x => x
end L2

namespace L2
open PySem PySem.Spec PyProof.Rows
section
variable {X : Cx}

/-! ### names and constants -/
def tVar (i : Nat) : TE := fun σ H Q => ∃ v, σ[i]? = some (some v) ∧ Q v H
def tC (v : V) : TE := fun _ H Q => Q v H
theorem pe_var {i : Nat} {x : Str} {pos : Pos} (hN : X.N[i]? = some x) (hv : Vis X.env.scope x) (hd : (x == ("__debug__" : Str)) = false := by decide) (hcd : (x == ("__classdict__" : Str)) = false := by decide) : PE X (.Name x pos) (tVar i) := by
  intro pins s σ H Q I h
  obtain ⟨v, e, h⟩ := h
  obtain ⟨m, hn, hl⟩ := I.loc
  obtain ⟨u, r, l⟩ := hl i x v hN e hv
  have fin : EP X pins σ Q u s := ⟨v, H, I, r, h⟩
  rcases l with ⟨hk, hm⟩ | ⟨hk, c, hc, hcell⟩
  · exact wpAny_Name (wpAny_loadName_local I.ok.kind hk hn hm fin) hd
  · rcases hk with hk | hk
    · exact wpAny_Name (wpAny_loadName_cell I.ok.kind hk hc hcell fin) hd
    · exact wpAny_Name (wpAny_loadName_free I.ok.kind hk hc hcell fin hcd) hd
theorem pe_int {i j pos} : PE X (.Constant (.int i) j pos) (tC (.int i)) := fun _ _ _ H _ I h => wpAny_Constant_int ⟨.int i, H, I.tok _, ⟨_, rfl⟩, h⟩
theorem pe_bl {b j pos} : PE X (.Constant (.bool b) j pos) (tC (.bl b)) := fun _ _ _ H _ I h => Constant_bool ⟨.bl b, H, I, rfl, h⟩
/-- a global name of the def -/
def Gl (X : Cx) (x : Str) : Prop := X.env.kindOf x = some .globalImplicit
theorem ld_glob {E : Value → Shared → Prop} {pins : List (Addr × Obj)} {s : Shared} {σ : St} {H : Hp} {x : Str} {u : Value} {pos : Pos} {Q : Value → Shared → Prop} (I : Inv X pins σ H s) (hg : Gl X x) (hm : X.mg x = some u) (h : Q u s)
    (hd : (x == ("__debug__" : Str)) = false := by decide) : wpAny (model X.prog X.w) X.A (eval (.Name x pos) X.env) Q E s :=
  Calls.Name_function_global I.ok.kind hg (Calls.loadGlobal_global (by rw [I.ok.glob]; exact I.mod.glob.keeps I.bk) hm h) hd
theorem ld_blt {E : Value → Shared → Prop} {pins : List (Addr × Obj)} {s : Shared} {σ : St} {H : Hp} {x : Str} {u : Value} {pos : Pos} {Q : Value → Shared → Prop} (I : Inv X pins σ H s) (hg : Gl X x) (hm : X.mg x = none) (hv : bootBuiltins x = some u) (h : Q u s)
    (hn : x ≠ "__name__" := by decide) (hd : (x == ("__debug__" : Str)) = false := by decide) : wpAny (model X.prog X.w) X.A (eval (.Name x pos) X.env) Q E s := by
  obtain ⟨mb, h1, h2⟩ := I.mod.blt
  exact Calls.Name_function_global I.ok.kind hg (Calls.loadGlobal_builtin (by rw [I.ok.glob]; exact I.mod.glob.keeps I.bk) hm (by rw [I.ok.blt]; exact h1.keeps I.bk) ((h2 x hn).trans hv) h) hd
theorem pe_bltn {x : Str} {v : V} {u : Value} {pos : Pos} (hg : Gl X x) (hm : X.mg x = none) (hv : bootBuiltins x = some u) (r : RelV v u) (hn : x ≠ "__name__" := by decide) (hd : (x == ("__debug__" : Str)) = false := by decide) : PE X (.Name x pos) (tC v) :=
  fun _ _ _ H _ I h => ld_blt I hg hm hv ⟨v, H, I, r, h⟩ hn hd

/-! ### arithmetic -/
/-- two ints -/
def t2I (ta tb : TE) (k : Int → Int → Hp → Prop) : St → Hp → Prop := fun σ H => ta σ H fun x H1 => tb σ H1 fun y H2 => ∃ i j, x = .int i ∧ y = .int j ∧ k i j H2
def tAdd (ta tb : TE) : TE := fun σ H Q => t2I ta tb (fun i j H2 => Q (.int (i + j)) H2) σ H
def tSub (ta tb : TE) : TE := fun σ H Q => t2I ta tb (fun i j H2 => Q (.int (i - j)) H2) σ H
/-- the left factor below 2^64 -/
def tMul (ta tb : TE) : TE := fun σ H Q => t2I ta tb (fun i j H2 => (-(2 ^ 64) < i ∧ i < 2 ^ 64) ∧ Q (.int (i * j)) H2) σ H
variable {a b : Expr} {ta tb : TE} {pos : Pos}
/-! ### comparisons -/
def PC (X : Cx) (op : CmpOp) (a b : Expr) (t : TE) : Prop :=
  ∀ (pins : List (Addr × Obj)) (s : Shared) (σ : St) (H : Hp) (Q : VK), Inv X pins σ H s → t σ H Q →
    wpAny (model X.prog X.w) X.A (eval a X.env) (fun v s₁ => wpAny (model X.prog X.w) X.A (eval b X.env) (fun u s₂ => wpAny (model X.prog X.w) X.A (compareOp op v u) (EP X pins σ Q) X.xe s₂) X.xe s₁) X.xe s
def tCmp (p : Int → Int → Bool) (ta tb : TE) : TE := fun σ H Q => t2I ta tb (fun i j H2 => Q (.bl (p i j)) H2) σ H
abbrev tLt : TE → TE → TE := tCmp fun i j => decide (i < j)
abbrev tLe : TE → TE → TE := tCmp fun i j => decide (i ≤ j)
abbrev tGt : TE → TE → TE := tCmp fun i j => decide (j < i)
abbrev tGe : TE → TE → TE := tCmp fun i j => decide (j ≤ i)
abbrev tEqI : TE → TE → TE := tCmp fun i j => decide (i = j)
abbrev tNeI : TE → TE → TE := tCmp fun i j => !decide (i = j)
/-- is None -/
def tIsN (ta : TE) : TE := fun σ H Q => ta σ H fun x H1 => Q (.bl (decide (x = .non))) H1
def tNotN (ta : TE) : TE := fun σ H Q => ta σ H fun x H1 => Q (.bl (!decide (x = .non))) H1
/-- a comparison as a value, as a test -/
def tB (t : TE) : TT := fun σ H Q => t σ H fun x H1 => ∃ c, x = .bl c ∧ Q c H1
theorem pt_cmp {op : CmpOp} {t : TE} (h : PC X op a b t) (h1 : behindInMarks op b = false := by first | exact nobehind _ (by decide) (by decide) | rfl) : PT X (.Compare a [op] [b] pos) (tB t) := by
  intro pins s σ H Q I hw
  refine wpAny_isTrue_Compare1 (thn (h pins s σ H _ I hw) fun v s1 h1 => thn h1 fun u s2 h2 => thn h2 fun c s3 ⟨x, H1, I1, r1, q1⟩ => ?_) h1
  obtain ⟨d, rfl, q⟩ := q1
  cases r1
  exact wpAny_truthy_bool ⟨H1, I1, q⟩
/-- an expression whose value is a bool, as a test -/
theorem pt_val {e : Expr} {t : TE} (h : PE X e t) (he : ∀ whole, isTrue e X.env whole = (do let v ← whole; standAt e.pos; holding [v] (truthy v)) := by intro _; rfl) : PT X e (tB t) := by
  intro pins s σ H Q I hw
  refine isTrue_plain (thn (h pins s σ H _ I hw) fun v s1 ⟨x, H1, I1, r1, q1⟩ => ?_) (he _)
  obtain ⟨d, rfl, q⟩ := q1
  cases r1
  exact wpAny_truthy_bool ⟨H1, I1, q⟩

/-! ### and, or, not -/
variable {tA tB' : TT} {rest : List Expr}
def tAnd (t u : TT) : TT := fun σ H Q => t σ H fun c H1 => if c = true then u σ H1 Q else Q false H1
def tOr (t u : TT) : TT := fun σ H Q => t σ H fun c H1 => if c = true then Q true H1 else u σ H1 Q
def tNot (t : TT) : TT := fun σ H Q => t σ H fun c H1 => Q (!c) H1
theorem pw_and1 (ha : PT X a tA) : PW X (.BoolOp .And [a] pos) tA := by
  intro wh pins s σ H Q I h
  refine isTrue_and (thn (ha pins s σ H Q I h) fun c s1 e => ?_)
  cases c with
  | true => exact isTrue_and_nil e
  | false => exact e
theorem pw_or1 (ha : PT X a tA) : PW X (.BoolOp .Or [a] pos) tA := by
  intro wh pins s σ H Q I h
  refine isTrue_or (thn (ha pins s σ H Q I h) fun c s1 e => ?_)
  cases c with
  | false => exact isTrue_or_nil e
  | true => exact e
theorem pw_and (ha : PT X a tA) (hb : PW X (.BoolOp .And (b :: rest) pos) tB') : PW X (.BoolOp .And (a :: b :: rest) pos) (tAnd tA tB') := by
  intro wh pins s σ H Q I h
  refine isTrue_and (thn (ha pins s σ H _ I h) fun c s1 ⟨H1, I1, q1⟩ => ?_)
  cases c with
  | true => exact hb wh pins s1 σ H1 Q I1 q1
  | false => exact ⟨H1, I1, q1⟩
theorem pw_or (ha : PT X a tA) (hb : PW X (.BoolOp .Or (b :: rest) pos) tB') : PW X (.BoolOp .Or (a :: b :: rest) pos) (tOr tA tB') := by
  intro wh pins s σ H Q I h
  refine isTrue_or (thn (ha pins s σ H _ I h) fun c s1 ⟨H1, I1, q1⟩ => ?_)
  cases c with
  | true => exact ⟨H1, I1, q1⟩
  | false => exact hb wh pins s1 σ H1 Q I1 q1
theorem pt_not (ha : PT X a tA) : PT X (.UnaryOp .Not a pos) (tNot tA) := by
  intro pins s σ H Q I h
  exact isTrue_not (ha pins s σ H (fun c H1 => Q (!c) H1) I h)
/-- .. as values (bools) -/
def tAndV (ta tb : TE) : TE := fun σ H Q => ta σ H fun x H1 => ∃ c, x = .bl c ∧ if c = true then tb σ H1 Q else Q (.bl false) H1
def tOrV (ta tb : TE) : TE := fun σ H Q => ta σ H fun x H1 => ∃ c, x = .bl c ∧ if c = true then Q (.bl true) H1 else tb σ H1 Q
def tNotV (ta : TE) : TE := fun σ H Q => ta σ H fun x H1 => ∃ c, x = .bl c ∧ Q (.bl (!c)) H1
theorem pe_one {op} {t : TE} (h : PE X a t) : PE X (.BoolOp op [a] pos) t := fun pins s σ H Q I hw => BoolOp_one (h pins s σ H Q I hw)
theorem pe_or (ha : PE X a ta) (hb : PE X (.BoolOp .Or (b :: rest) pos) tb) : PE X (.BoolOp .Or (a :: b :: rest) pos) (tOrV ta tb) := by
  intro pins s σ H Q I h
  refine BoolOp_or (thn (ha pins s σ H _ I h) fun v s1 ⟨x, H1, I1, r1, q1⟩ => ?_)
  obtain ⟨c, rfl, q1⟩ := q1
  cases r1
  refine wpAny_truthy_bool ?_
  cases c with
  | false => exact hb pins s1 σ H1 Q I1 q1
  | true => exact ⟨.bl true, H1, I1, rfl, q1⟩
/-- a if t else b -/
def tIf (t : TT) (ta tb : TE) : TE := fun σ H Q => t σ H fun c H1 => if c = true then ta σ H1 Q else tb σ H1 Q
end
end L2

namespace L2
open PySem PySem.Spec PyProof.Rows

/-! ### a list, a tuple that is read: tracked, frozen, or an object of the module -/
def SqL (K : PySem.W.Frag) (H : Hp) (a : Addr) (xs : List V) : Prop :=
  Rd H a (.lst xs) ∨
    ∃ (o : Obj) (its : Array Value) (n : Nat), K.lookup a = some o ∧ o.cls = .type "list" ∧ o.dict = none ∧ o.data = .seq its n ∧ its.size ≤ sizeLine ∧ Vals xs its.toList
def SqT (K : PySem.W.Frag) (H : Hp) (a : Addr) (xs : List V) : Prop :=
  Rd H a (.tup xs) ∨
    ∃ (o : Obj) (its : Array Value) (n : Nat), K.lookup a = some o ∧ o.cls = .type "tuple" ∧ o.data = .seq its n ∧ its.size ≤ sizeLine ∧ Vals xs its.toList
def absV : Value → Option V
  | .none => some .non
  | .bool b => some (.bl b)
  | .int i _ => some (.int i)
  | .str x _ => some (.str x)
  | .bytes b _ => some (.byt b)
  | .float b _ => some (.flt b)
  | .ref a => some (.ref a)
  | .type n => some (.ty n)
  | _ => none
theorem RelV.abs {x : V} {u : Value} (r : RelV x u) : absV u = some x := by
  cases x with
  | non => cases r; rfl
  | bl _ => cases r; rfl
  | int _ => obtain ⟨t, rfl⟩ := r; rfl
  | str _ => obtain ⟨t, rfl⟩ := r; rfl
  | byt _ => obtain ⟨t, rfl⟩ := r; rfl
  | flt _ => obtain ⟨t, rfl⟩ := r; rfl
  | ref _ => cases r; rfl
  | ty _ => cases r; rfl
theorem RelV.inj {x y : V} {u : Value} (r : RelV x u) (q : RelV y u) : x = y := Option.some.inj (r.abs.symm.trans q.abs)
theorem Vals.inj : ∀ {xs ys : List V} {us : List Value}, Vals xs us → Vals ys us → xs = ys
  | _, _, _, .nil, .nil => rfl
  | _, _, _, .cons r t, .cons r' t' => by rw [r.inj r', Vals.inj t t']
section
variable {X : Cx} {pins : List (Addr × Obj)} {σ : St} {H : Hp} {s : Shared} {a : Addr} {xs ys : List V}
theorem SqL.of {K : PySem.W.Frag} (h : H a = some (.lst xs)) : SqL K H a xs := .inl (.inl h)
theorem SqT.of {K : PySem.W.Frag} (h : H a = some (.tup xs)) : SqT K H a xs := .inl (.inl h)
theorem Inv.list (I : Inv X pins σ H s) (h : SqL X.K H a xs) : ∃ its : List Value, Vals xs its ∧ PlainL s.heap a its.toArray ∧ xs.length ≤ sizeLine := by
  rcases h with h | ⟨o, its, n, hk, hc, hd, hs, hz, r⟩
  · obtain ⟨z, its, n, r, e⟩ := h.ok I.hok
    exact ⟨its, r, ⟨_, n, e, rfl, rfl, rfl⟩, z⟩
  · refine ⟨its.toList, r, ⟨o, n, I.kIn a o hk, hc, hd, by simpa using hs⟩, ?_⟩
    have e := r.length
    simp only [Array.length_toList] at e
    omega
theorem Inv.tuple (I : Inv X pins σ H s) (h : SqT X.K H a xs) : ∃ its : List Value, Vals xs its ∧ IsTup s.heap a its.toArray ∧ xs.length ≤ sizeLine := by
  rcases h with h | ⟨o, its, n, hk, hc, hs, hz, r⟩
  · obtain ⟨z, its, r, p⟩ := h.ok I.hok
    exact ⟨its, r, p, z⟩
  · refine ⟨its.toList, r, ⟨o, I.kIn a o hk, hc, n, by simpa using hs⟩, ?_⟩
    have e := r.length
    simp only [Array.length_toList] at e
    omega
theorem Inv.list_inj (I : Inv X pins σ H s) (h : SqL X.K H a xs) (h' : SqL X.K H a ys) : xs = ys := by
  obtain ⟨its, r, ⟨o, n, e, _, _, d⟩, _⟩ := I.list h
  obtain ⟨its', r', ⟨o', n', e', _, _, d'⟩, _⟩ := I.list h'
  rw [e] at e'; cases e'
  rw [d] at d'
  injection d' with d1 _
  have : its = its' := by simpa using congrArg Array.toList d1
  subst this
  exact r.inj r'
theorem Inv.tuple_inj (I : Inv X pins σ H s) (h : SqT X.K H a xs) (h' : SqT X.K H a ys) : xs = ys := by
  obtain ⟨its, r, ⟨o, e, _, n, d⟩, _⟩ := I.tuple h
  obtain ⟨its', r', ⟨o', e', _, n', d'⟩, _⟩ := I.tuple h'
  rw [e] at e'; cases e'
  rw [d] at d'
  injection d' with d1 _
  have : its = its' := by simpa using congrArg Array.toList d1
  subst this
  exact r.inj r'
end

/-! ### another wish about exceptions -/
abbrev Cx.wish (X : Cx) (E : Value → Shared → Prop) : Cx := { X with xe := E }
/-- no exception leaves -/
abbrev Cx.nox (X : Cx) : Cx := X.wish fun _ _ => False
theorem Cx.Ok.wish {X : Cx} (ok : X.Ok) (E : Value → Shared → Prop) : (X.wish E).Ok :=
  ⟨ok.mod, ok.kind, ok.glob, ok.blt, ok.above, ok.inj, ok.has, ok.cab, ok.hd, ok.frames, ok.stk, ok.exf, ok.bs, ok.bsz, ok.noex, ok.exfs, ok.funs, ok.frf⟩
theorem Cx.Ok.unwish {X : Cx} {E : Value → Shared → Prop} (ok : (X.wish E).Ok) : X.Ok :=
  ⟨ok.mod, ok.kind, ok.glob, ok.blt, ok.above, ok.inj, ok.has, ok.cab, ok.hd, ok.frames, ok.stk, ok.exf, ok.bs, ok.bsz, ok.noex, ok.exfs, ok.funs, ok.frf⟩
section
variable {X : Cx} {pins : List (Addr × Obj)} {σ : St} {H : Hp} {s : Shared} {E : Value → Shared → Prop}
theorem Inv.wish (I : Inv X pins σ H s) (E : Value → Shared → Prop) : Inv (X.wish E) pins σ H s := ⟨I.ok.wish E, I.os, I.bare, I.base, I.loc, I.cell, I.free, I.freeC, I.pin, I.hok, I.len⟩
theorem Inv.unwish (I : Inv (X.wish E) pins σ H s) : Inv X pins σ H s := ⟨I.ok.unwish, I.os, I.bare, I.base, I.loc, I.cell, I.free, I.freeC, I.pin, I.hok, I.len⟩
theorem SP.unwish {D : Ends} {f : Flow} {s' : Shared} (h : SP (X.wish E) pins D f s') : SP X pins D f s' := by
  cases f with
  | next => obtain ⟨σ', H', I, q⟩ := h; exact ⟨σ', H', I.unwish, q⟩
  | brk => obtain ⟨σ', H', I, q⟩ := h; exact ⟨σ', H', I.unwish, q⟩
  | cont => obtain ⟨σ', H', I, q⟩ := h; exact ⟨σ', H', I.unwish, q⟩
  | ret u => obtain ⟨v, σ', H', I, r, q⟩ := h; exact ⟨v, σ', H', I.unwish, r, q⟩
theorem PSs.nox {st : List Stmt} {t : TS} (h : PSs X.nox st t) : PSs X st t := fun pins s σ H D I hw =>
  wpAny_mono (h pins s σ H D (I.wish _) hw) (fun _ _ q => q.unwish) fun _ _ z => False.elim z
end

/-! ### blocks and small statements -/
section
variable {X : Cx} {st : Stmt} {rest : List Stmt} {t u : TS} {e : Expr} {te : TE} {pos : Pos}
def tNext : TS := fun D σ H => D.nx σ H
def tSeq (t u : TS) : TS := fun D σ H => t { D with nx := u D } σ H
theorem pss_nil : PSs X [] tNext := fun _ _ σ H _ I h => wpAny_execs_nil ⟨σ, H, I, h⟩
theorem pss_cons (h1 : PS X st t) (h2 : PSs X rest u) : PSs X (st :: rest) (tSeq t u) := by
  intro pins s σ H D I h
  refine wpAny_execs_cons (thn (h1 pins s σ H { D with nx := u D } I h) fun f s1 q => ?_)
  cases f with
  | next =>
    obtain ⟨σ', H', I', q⟩ := q
    exact h2 pins s1 σ' H' D I' q
  | ret v => exact q
  | brk => exact q
  | cont => exact q
theorem pss_one (h1 : PS X st t) : PSs X [st] t := by
  intro pins s σ H D I h
  refine wpAny_execs_cons (thn (h1 pins s σ H D I h) fun f s1 q => ?_)
  cases f with
  | next => exact wpAny_execs_nil q
  | ret v => exact q
  | brk => exact q
  | cont => exact q
def tBreak : TS := fun D σ H => D.bk σ H
def tCont : TS := fun D σ H => D.ct σ H
/-- in a def's body nothing is shown -/
theorem Inv.quiet {pins : List (Addr × Obj)} {σ : St} {H : Hp} {s : Shared} (I : Inv X pins σ H s) : interactive X.env = false := by simp [interactive, I.ok.kind]
/-- an expression whose value is dropped -/
def tDrop (te : TE) : TS := fun D σ H => te σ H fun _ H1 => D.nx σ H1
theorem ps_expr (he : PE X e te) (hs : swapsWith e none pos.line X.env = pure false := by rfl) : PS X (.Expr e pos) (tDrop te) := by
  intro pins s σ H D I h
  exact wpAny_Expr_any (thn (he pins s σ H _ I h) fun v s1 ⟨x, H1, I1, r1, q1⟩ => ⟨σ, H1, I1, q1⟩) I.quiet hs
def tRet (te : TE) : TS := fun D σ H => te σ H D.rt
theorem ps_ret (he : PE X e te) : PS X (.Return (some e) pos) (tRet te) := by
  intro pins s σ H D I h
  exact wpAny_Return_some (thn (he pins s σ H _ I h) fun v s1 ⟨x, H1, I1, r1, q1⟩ => ⟨x, σ, H1, I1, r1, q1⟩)
def tRetN : TS := fun D _ H => D.rt .non H
def tIfS (c : TT) (t u : TS) : TS := fun D σ H => c σ H fun b H1 => if b = true then t D σ H1 else u D σ H1
theorem ps_if {c : Expr} {a b : List Stmt} {tc : TT} (hc : PT X c tc) (ha : PSs X a t) (hb : PSs X b u) : PS X (.If c a b pos) (tIfS tc t u) := by
  intro pins s σ H D I h
  refine wpAny_If (thn (hc pins s σ H _ I h) fun d s1 ⟨H1, I1, q1⟩ => ?_)
  cases d with
  | true => exact ha pins s1 σ H1 D I1 q1
  | false => exact hb pins s1 σ H1 D I1 q1
/-- code that the proof never comes to -/
def tNever : TS := fun _ _ _ => False
end

/-! ### targets -/
abbrev TG := V → St → Hp → (St → Hp → Prop) → Prop
abbrev TGs := List V → St → Hp → (St → Hp → Prop) → Prop
def PG (X : Cx) (target : Expr) (t : TG) : Prop :=
  ∀ (pins : List (Addr × Obj)) (s : Shared) (σ : St) (H : Hp) (v : V) (u : Value) (Q : St → Hp → Prop), Inv X pins σ H s → RelV v u → t v σ H Q →
    wpAny (model X.prog X.w) X.A (assign target X.env u) (fun _ s' => ∃ σ' H', Inv X pins σ' H' s' ∧ Q σ' H') X.xe s
/-- several targets, one after another -/
def PGs (X : Cx) (ts : List Expr) (t : TGs) : Prop :=
  ∀ (pins : List (Addr × Obj)) (s : Shared) (σ : St) (H : Hp) (vs : List V) (us : List Value) (Q : St → Hp → Prop), Inv X pins σ H s → Vals vs us → t vs σ H Q →
    wpAny (model X.prog X.w) X.A (assignInOrder ((assignEach ts X.env).map (·.2)) us) (fun _ s' => ∃ σ' H', Inv X pins σ' H' s' ∧ Q σ' H') X.xe s
/-- o[i] = v, by values -/
abbrev TSet := V → V → V → Hp → (Hp → Prop) → Prop
def PSet (X : Cx) (t : TSet) : Prop :=
  ∀ (pins : List (Addr × Obj)) (s : Shared) (σ : St) (H : Hp) (o i v : V) (ov iv u : Value) (Q : Hp → Prop), Inv X pins σ H s → RelV o ov → RelV i iv → RelV v u → t o i v H Q →
    wpAny (model X.prog X.w) X.A (setItem ov iv u) (fun _ s' => ∃ H', Inv X pins σ H' s' ∧ Q H') X.xe s
/-- a op= b, by values -/
abbrev TIp := V → V → Hp → VK → Prop
def PIp (X : Cx) (op : Operator) (t : TIp) : Prop :=
  ∀ (pins : List (Addr × Obj)) (s : Shared) (σ : St) (H : Hp) (x y : V) (v u : Value) (Q : VK), Inv X pins σ H s → RelV x v → RelV y u → t x y H Q →
    wpAny (model X.prog X.w) X.A (inplaceOp op v u) (EP X pins σ Q) X.xe s
section
variable {X : Cx} {pos : Pos}
def gName (i : Nat) : TG := fun v σ H Q => Q (σ.set i (some v)) H
theorem pg_name {i : Nat} {x : Str} (hN : X.N.Nodup) (hi : X.N[i]? = some x) (hx : Loc X.env.scope x) (hf : X.fn x = true ∨ X.env.scope.names.lookup x = some .local := by first | exact .inl rfl | exact .inr rfl | assumption) : PG X (.Name x pos) (gName i) := by
  intro pins s σ H v u Q I r h
  exact wpAny_assign_Name (store_ok I hN hi hx r (fun s' I' => ⟨_, H, I', h⟩) hf)
def gNil : TGs := fun vs σ H Q => vs = [] ∧ Q σ H
def gCons (t : TG) (u : TGs) : TGs := fun vs σ H Q => ∃ v r, vs = v :: r ∧ t v σ H fun σ' H' => u r σ' H' Q
theorem pgs_nil : PGs X [] gNil := by
  intro pins s σ H vs us Q I r h
  obtain ⟨e, h⟩ := h
  subst e
  cases r
  exact assignInOrder_nil ⟨σ, H, I, h⟩
theorem pgs_cons {e : Expr} {es : List Expr} {t : TG} {u : TGs} (h1 : PG X e t) (h2 : PGs X es u)
    (hs : (assignEach (e :: es) X.env).map (·.2) = assign e X.env :: (assignEach es X.env).map (·.2) := by rfl) : PGs X (e :: es) (gCons t u) := by
  intro pins s σ H vs us Q I r h
  obtain ⟨v, vr, e1, h⟩ := h
  subst e1
  cases r with
  | cons r rr =>
    rw [hs]
    refine assignInOrder_cons (thn (h1 pins s σ H _ _ _ I r h) fun _ s1 ⟨σ1, H1, I1, q1⟩ => ?_)
    exact h2 pins s1 σ1 H1 _ _ Q I1 rr q1
/-- (a, b, ..) = a tuple of that length -/
def gTup (K : PySem.W.Frag) (n : Nat) (t : TGs) : TG := fun v σ H Q => ∃ a xs, v = .ref a ∧ SqT K H a xs ∧ xs.length = n ∧ t xs σ H Q
theorem pg_tup {es : List Expr} {k : Nat} {t : TGs} {n : Nat} (hc : X.calm = true) (h : PGs X es t)
    (hn : (assignEach es X.env).length = n := by rfl) (hst : (assignEach es X.env).findIdx? (·.1) = none := by rfl) : PG X (.Tuple es k pos) (gTup X.K n t) := by
  intro pins s σ H v u Q I r hw
  obtain ⟨a, xs, e1, hq, hl, hw⟩ := hw
  subst e1
  cases r
  obtain ⟨its, rv, ht, hz⟩ := I.tuple hq
  refine assign_Tuple_tuple (I.ok.hd hc) ht (by simp [hn, ← hl, rv.length]) hst fun h' hx => ?_
  have I1 : Inv X pins σ H { s with heap := h' } := I.kept (t' := s.toks) fun b o e => hx b o (Nat.ne_of_lt (Heap.lt_size e)) e
  exact h pins _ σ H xs _ Q I1 (by simpa using rv) hw
/-- o[i] = .. -/
def gSub (to ti : TE) (t : TSet) : TG := fun v σ H Q => to σ H fun o H1 => ti σ H1 fun i H2 => t o i v H2 fun H3 => Q σ H3
theorem pg_sub {o i : Expr} {to ti : TE} {t : TSet} (ho : PE X o to) (hi : PE X i ti) (hs : PSet X t)
    (ha : ∀ v, assign (.Subscript o i pos) X.env v = (do
      let ov ← holding [v] (eval o X.env)
      let iv ← holding [v, ov] (eval i X.env)
      standAt pos
      holding [v, ov, iv] (setItem ov iv v)
      release [v, ov, iv] []) := by intro _; rfl) : PG X (.Subscript o i pos) (gSub to ti t) := by
  intro pins s σ H v u Q I r h
  rw [ha]
  refine wpAny_bind (wpAny_holding (thn (ho pins s σ H _ I h) fun ov s1 ⟨x, H1, I1, r1, q1⟩ => ?_))
  refine wpAny_bind (wpAny_holding (thn (hi pins s1 σ H1 _ I1 q1) fun iv s2 ⟨y, H2, I2, r2, q2⟩ => ?_))
  refine wpAny_bind (wpAny_standAt (wpAny_bind (wpAny_holding (thn (hs pins s2 σ H2 x y v ov iv u _ I2 r1 r2 r q2) fun _ s3 ⟨H3, I3, q3⟩ => ?_))))
  exact wpAny_release ⟨σ, H3, I3, q3⟩
/-- target = value -/
def tAsg (te : TE) (g : TG) : TS := fun D σ H => te σ H fun x H1 => g x σ H1 D.nx
theorem ps_asg {tg e : Expr} {te : TE} {g : TG} (he : PE X e te) (hg : PG X tg g) (hs : swapsWithSole [tg] e pos.line X.env = pure false := by rfl) (hw : swappedStores [tg] e X.env = pure none := by rfl)
    (h1 : (assignEach [tg] X.env).map (·.2) = [assign tg X.env] := by rfl) : PS X (.Assign [tg] e pos) (tAsg te g) := by
  intro pins s σ H D I h
  refine wpAny_Assign_stores (thn (he pins s σ H _ I h) fun v s1 ⟨x, H1, I1, r1, q1⟩ => ?_) hs hw
  rw [h1]
  exact thn (hg pins s1 σ H1 x v _ I1 r1 q1) fun _ s2 q => q
/-- name = value -/
theorem ps_set {i : Nat} {x : Str} {e : Expr} {te : TE} {pos' : Pos} (hN : X.N.Nodup) (hi : X.N[i]? = some x) (hx : Loc X.env.scope x) (he : PE X e te) (hs : swapsWith e (some (.Name x pos')) pos.line X.env = pure false := by rfl) (hf : X.fn x = true ∨ X.env.scope.names.lookup x = some .local := by first | exact .inl rfl | exact .inr rfl | assumption) :
    PS X (.Assign [.Name x pos'] e pos) (tAsg te (gName i)) := by
  intro pins s σ H D I h
  refine wpAny_Assign_Name (thn (he pins s σ H _ I h) fun v s1 ⟨y, H1, I1, r1, q1⟩ => ?_) hs
  exact store_ok I1 hN hi hx r1 (fun s2 I2 => ⟨_, H1, I2, q1⟩) hf
/-- a, b = x, y with plain local names: stored from the right; the pair itself is not tracked (the opening rows as in PyProof/Rows/TupAssign.lean:23) -/
def tPar (i j : Nat) (ta : TA) : TS := fun D σ H => ta σ H fun vs H1 => ∃ v w, vs = [v, w] ∧ D.nx ((σ.set i (some v)).set j (some w)) H1
/-- name op= e -/
def tAug (i : Nat) (te : TE) (ti : TIp) : TS := fun D σ H => ∃ x, σ[i]? = some (some x) ∧ te σ H fun y H1 => ti x y H1 fun z H2 => D.nx (σ.set i (some z)) H2
/-- o[i] op= e -/
def tAugS (to ti te : TE) (tget : V → V → Hp → VK → Prop) (tip : TIp) (tset : TSet) : TS := fun D σ H => to σ H fun o H1 => ti σ H1 fun i H2 => tget o i H2 fun x H3 => te σ H3 fun y H4 => tip x y H4 fun z H5 => tset o i z H5 fun H6 => D.nx σ H6
/-- o[i], by values -/
def PGet (X : Cx) (t : V → V → Hp → VK → Prop) : Prop :=
  ∀ (pins : List (Addr × Obj)) (s : Shared) (σ : St) (H : Hp) (o i : V) (ov iv : Value) (Q : VK), Inv X pins σ H s → RelV o ov → RelV i iv → t o i H Q →
    wpAny (model X.prog X.w) X.A (getItem ov iv) (EP X pins σ Q) X.xe s
/-- ints -/
def ipI (f : Int → Int → Int) : TIp := fun x y H Q => ∃ i j, x = .int i ∧ y = .int j ∧ Q (.int (f i j)) H
end

/-! ### while -/
section
variable {X : Cx} {pos : Pos}
/-- the invariant W with its measure -/
def tWhile (c : TT) (tb : TS) : TS := fun D σ H => ∃ W : Nat → St → Hp → Prop, (∃ m, W m σ H) ∧ ∀ m σ H, W m σ H →
  c σ H fun b H1 => if b = true then ∃ N : St → Hp → Prop, (∀ σ' H', N σ' H' → ∃ m', m' < m ∧ W m' σ' H') ∧ tb { D with nx := N, ct := N, bk := D.nx } σ H1 else D.nx σ H1
theorem ps_while {c : Expr} {body : List Stmt} {tc : TT} {tb : TS} (hp : PassesOwn (model X.prog X.w) X.A X.env X.xe) (hc : PT X c tc) (hb : PSs X body tb) : PS X (.While c body [] pos) (tWhile tc tb) := by
  intro pins s σ H D I h
  obtain ⟨W, ⟨m0, w0⟩, turn⟩ := h
  refine wpAny_While (codeAny_whileLoop (fun n s' => ∃ σ' H', Inv X pins σ' H' s' ∧ W n σ' H') ?_ m0 ⟨σ, H, I, w0⟩)
  rintro n s1 ⟨σ1, H1, I1, w1⟩
  refine wpAny_passesOwn hp (thn (hc pins s1 σ1 H1 _ I1 (turn n σ1 H1 w1)) fun b s2 ⟨H2, I2, q2⟩ => ?_)
  cases b with
  | true =>
    obtain ⟨N, hN, q2⟩ := q2
    rw [if_pos rfl]
    refine wpAny_passesOwn hp (thn (hb pins s2 σ1 H2 _ I2 q2) fun f s3 q3 => ?_)
    cases f with
    | next =>
      obtain ⟨σ3, H3, I3, n3⟩ := q3
      obtain ⟨m', hm, w3⟩ := hN σ3 H3 n3
      exact ⟨m', hm, σ3, H3, I3, w3⟩
    | cont =>
      obtain ⟨σ3, H3, I3, n3⟩ := q3
      obtain ⟨m', hm, w3⟩ := hN σ3 H3 n3
      exact ⟨m', hm, σ3, H3, I3, w3⟩
    | brk => exact q3
    | ret v => exact q3
  | false =>
    rw [if_neg Bool.false_ne_true]
    exact wpAny_execs_nil ⟨σ1, H2, I2, q2⟩
end

/-! ### what a loop or a comprehension walks -/
/-- at turn i: it yields x (the heap may grow), or it stops -/
structure It where
  go : Nat → Hp → Prop
  yld : Nat → Hp → V → Hp → Prop
  stop : Nat → Hp → Prop
/-- the iterator's own objects may turn: they are not the frame's, not pinned, younger than the entry (or a comprehension's own) -/
def FpOk (X : Cx) (pins : List (Addr × Obj)) (H : Hp) (b : Addr) : Prop :=
  H b = none ∧ b ≠ X.env.locals ∧ b ∉ X.fs ∧ (b ∈ X.ex ∨ X.s₀.heap.objs.size ≤ b) ∧ (∀ x c, X.env.cells.lookup x = some c → c ≠ b) ∧ ∀ p ∈ X.pn ++ pins, p.1 ≠ b
theorem Inv.fpOk {X : Cx} {pins : List (Addr × Obj)} {σ : St} {H H' : Hp} {s : Shared} {b : Addr} (I : Inv X pins σ H s) (hb : s.heap.objs.size ≤ b) (hn : H' b = none) : FpOk X pins H' b := by
  refine ⟨hn, Nat.ne_of_gt (Nat.lt_of_lt_of_le I.lt hb), I.nofs hb, .inr (Nat.le_trans I.sz hb), fun x c e z => ?_, fun p hp z => ?_⟩
  · obtain ⟨v, q⟩ := I.cell x c e
    exact absurd (Nat.lt_of_lt_of_le q.lt (by rw [z]; exact hb)) (Nat.lt_irrefl _)
  · exact absurd (Nat.lt_of_lt_of_le (Heap.lt_size (I.pin p hp).1) (by rw [z]; exact hb)) (Nat.lt_irrefl _)
structure Turn (P : Program) (w : World) (K : PySem.W.Frag) (tg : Expr) (J : It) (fp : List Addr) (it : Addr) (tn : Nat → Heap → Prop) : Prop where
  mem : it ∈ fp
  obj : ∀ i h, tn i h → ∀ b ∈ fp, ∃ o, h.get? b = some o ∧ ∀ v, o.data ≠ .cell v
  keep : ∀ i h h', tn i h → (∀ b ∈ fp, ∀ o, h.get? b = some o → h'.get? b = some o) → tn i h'
  item : ∀ (X : Cx), X.prog = P → X.w = w → X.K = K → X.calm = true → ∀ (i : Nat) (pins : List (Addr × Obj)) (s : Shared) (σ : St) (H : Hp) (E : Value → Shared → Prop), Inv X pins σ H s → (∀ b ∈ fp, FpOk X pins H b) → tn i s.heap → J.go i H →
    wpAny (model P w) X.A (pyNext (.ref it)) (fun r s1 => ∃ u, r = some u ∧
      wpAny (model P w) X.A (letOwnedTupleGo tg (.ref it) u) (fun _ s2 => ∃ x H', Inv X pins σ H' s2 ∧ RelV x u ∧ J.yld i H x H' ∧ tn (i + 1) s2.heap ∧ ∀ b ∈ fp, H' b = none) E s1) E s
  done : ∀ (X : Cx), X.prog = P → X.w = w → X.K = K → X.calm = true → ∀ (i : Nat) (pins : List (Addr × Obj)) (s : Shared) (σ : St) (H : Hp) (E : Value → Shared → Prop), Inv X pins σ H s → (∀ b ∈ fp, FpOk X pins H b) → tn i s.heap → J.stop i H →
    wpAny (model P w) X.A (pyNext (.ref it)) (fun r s1 => r = none ∧ Inv X pins σ H s1) E s
  self : ∀ (A : Around) (i : Nat) (s : Shared) (Q : Value → Shared → Prop) (E : Value → Shared → Prop), tn i s.heap → Q (.ref it) s → wpAny (model P w) A (pyIter (.ref it)) Q E s
abbrev TI := St → Hp → (It → Hp → Prop) → Prop
/-- an iterator has come -/
def PIE (X : Cx) (pins : List (Addr × Obj)) (σ : St) (tg : Expr) (R : It → Hp → Prop) (itv : Value) (s2 : Shared) : Prop :=
  ∃ (it : Addr) (fp : List Addr) (tn : Nat → Heap → Prop) (J : It) (H' : Hp), itv = .ref it ∧ Inv X pins σ H' s2 ∧ Turn X.prog X.w X.K tg J fp it tn ∧ tn 0 s2.heap ∧ (∀ b ∈ fp, FpOk X pins H' b) ∧ R J H'
def PI (X : Cx) (tg iter : Expr) (wi : TI) : Prop :=
  ∀ (pins : List (Addr × Obj)) (s : Shared) (σ : St) (H : Hp) (R : It → Hp → Prop), Inv X pins σ H s → wi σ H R →
    wpAny (model X.prog X.w) X.A (eval iter X.env) (fun v s1 => wpAny (model X.prog X.w) X.A (pyIter v) (PIE X pins σ tg R) X.xe s1) X.xe s

/-- the step ahead of the store is nothing for an iterator that keeps no tuple -/
theorem go_of {M : Model} {A : Around} {E : Value → Shared → Prop} {s : Shared} {tg : Expr} {it : Addr} {u : Value} {o : Obj} {n : String} {vs : Array Value} {Q : Unit → Shared → Prop} (ho : s.heap.get? it = some o) (hc : o.cls = .type n) (hd : o.data = .fields vs)
    (hn : ["enumerate", "zip", "dict_itemiterator", "dict_reverseitemiterator", "odict_iterator", "itertools.zip_longest", "itertools.pairwise"].contains n = false) (hQ : Q () s) : wpAny M A (letOwnedTupleGo tg (.ref it) u) Q E s := by
  unfold letOwnedTupleGo
  cases tg <;> first
    | exact wpAny_pure hQ
    | (cases u <;> first
        | exact wpAny_pure hQ
        | (refine wpAny_bind (wpAny_load ho ?_)
           rw [hc, hd]
           show wpAny M A (if (["enumerate", "zip", "dict_itemiterator", "dict_reverseitemiterator", "odict_iterator", "itertools.zip_longest", "itertools.pairwise"].contains n && vs[0]? == some (rawInt _)) = true then _ else _) Q E s
           rw [if_neg (by intro h; rw [hn, Bool.false_and] at h; cases h)]
           exact wpAny_pure hQ))

/-- the list at a, as it stands at each turn (a loop may append to it) -/
def Itl (K : PySem.W.Frag) (a : Addr) : It :=
  ⟨fun i H => ∃ xs x, SqL K H a xs ∧ xs[i]? = some x, fun i H x H' => H' = H ∧ ∀ xs, SqL K H a xs → xs[i]? = some x, fun i H => ∃ xs, SqL K H a xs ∧ xs.length ≤ i⟩
def Itt (K : PySem.W.Frag) (a : Addr) : It :=
  ⟨fun i H => ∃ xs x, SqT K H a xs ∧ xs[i]? = some x, fun i H x H' => H' = H ∧ ∀ xs, SqT K H a xs → xs[i]? = some x, fun i H => ∃ xs, SqT K H a xs ∧ xs.length ≤ i⟩
/-- lo, lo + 1, .. (n of them) -/
def Itr (lo : Int) (n : Nat) : It := ⟨fun i _ => i < n, fun i H x H' => H' = H ∧ x = .int (lo + i), fun i _ => n ≤ i⟩
theorem turn_list {P : Program} {w : World} {K : PySem.W.Frag} {tg : Expr} (a it : Addr) : Turn P w K tg (Itl K a) [it] it (fun i h => h.IsListIter it a i) where
  mem := by simp
  obj := fun i h st b hb => by
    have e : b = it := by simpa using hb
    subst e
    obtain ⟨o, e, c, d⟩ := st
    exact ⟨o, e, fun v z => by rw [d] at z; cases z⟩
  keep := fun i h h' st k => st.at fun o e => k it (by simp) o e
  item := by
    intro X hP hw hK hc i pins s σ H E I hf st hg
    subst hP hw hK
    obtain ⟨xs, x, hq, hx⟩ := hg
    obtain ⟨its, rv, p, hz⟩ := I.list hq
    obtain ⟨u, hu, ru⟩ := rv.get hx
    obtain ⟨f0, f1, f2, f3, f4, f5⟩ := hf it (by simp)
    refine wpAny_pyNext_list_item st p.isList (x := u) (by simpa using hu) fun h' st' sb => ?_
    have I1 : Inv X pins σ H { s with heap := h' } := I.turned (t' := s.toks) (fun b o hb e => (sb.2 b hb).trans e) f0 f1 f3 f4 f5
    obtain ⟨o, e, c, d⟩ := id st'
    exact ⟨u, rfl, go_of (s := { s with heap := h' }) e c d (by decide) ⟨x, H, I1, ru, ⟨rfl, fun ys hy => by rw [I.list_inj hy hq]; exact hx⟩, st', fun b hb => (hf b hb).1⟩⟩
  done := by
    intro X hP hw hK hc i pins s σ H E I hf st hg
    subst hP hw hK
    obtain ⟨xs, hq, hx⟩ := hg
    obtain ⟨its, rv, p, hz⟩ := I.list hq
    obtain ⟨f0, f1, f2, f3, f4, f5⟩ := hf it (by simp)
    have hl := rv.length
    exact wpAny_pyNext_list_end (I.ok.hd hc) st p.isList (by simp; omega) fun h' eb => ⟨rfl, I.turned (t' := s.toks) (fun b o hb e => eb b o hb e) f0 f1 f3 f4 f5⟩
  self := fun _ _ _ _ _ st h => wpAny_pyIter_listiter st h
theorem turn_tuple {P : Program} {w : World} {K : PySem.W.Frag} {tg : Expr} (a it : Addr) : Turn P w K tg (Itt K a) [it] it (fun i h => h.IsTupleIter it a i) where
  mem := by simp
  obj := fun i h st b hb => by
    have e : b = it := by simpa using hb
    subst e
    obtain ⟨o, e, c, d⟩ := st
    exact ⟨o, e, fun v z => by rw [d] at z; cases z⟩
  keep := fun i h h' st k => st.at fun o e => k it (by simp) o e
  item := by
    intro X hP hw hK hc i pins s σ H E I hf st hg
    subst hP hw hK
    obtain ⟨xs, x, hq, hx⟩ := hg
    obtain ⟨its, rv, p, hz⟩ := I.tuple hq
    obtain ⟨u, hu, ru⟩ := rv.get hx
    obtain ⟨f0, f1, f2, f3, f4, f5⟩ := hf it (by simp)
    refine wpAny_pyNext_tuple_item st (show s.heap.IsTuple a its.toArray from p) (x := u) (by simpa using hu) fun h' st' sb => ?_
    have I1 : Inv X pins σ H { s with heap := h' } := I.turned (t' := s.toks) (fun b o hb e => (sb.2 b hb).trans e) f0 f1 f3 f4 f5
    obtain ⟨o, e, c, d⟩ := id st'
    exact ⟨u, rfl, go_of (s := { s with heap := h' }) e c d (by decide) ⟨x, H, I1, ru, ⟨rfl, fun ys hy => by rw [I.tuple_inj hy hq]; exact hx⟩, st', fun b hb => (hf b hb).1⟩⟩
  done := by
    intro X hP hw hK hc i pins s σ H E I hf st hg
    subst hP hw hK
    obtain ⟨xs, hq, hx⟩ := hg
    obtain ⟨its, rv, p, hz⟩ := I.tuple hq
    obtain ⟨f0, f1, f2, f3, f4, f5⟩ := hf it (by simp)
    have hl := rv.length
    exact wpAny_pyNext_tuple_end (I.ok.hd hc) st (show s.heap.IsTuple a its.toArray from p) (by simp; omega) fun h' eb => ⟨rfl, I.turned (t' := s.toks) (fun b o hb e => eb b o hb e) f0 f1 f3 f4 f5⟩
  self := fun _ _ _ _ _ st h => wpAny_pyIter_tupleiter st h
theorem turn_range {P : Program} {w : World} {K : PySem.W.Frag} {tg : Expr} (it : Addr) (lo : Int) (n : Nat) : Turn P w K tg (Itr lo n) [it] it (fun i h => IsRangeIter h it (lo + (i : Nat) * 1) ((n : Int) - (i : Nat)) 1) where
  mem := by simp
  obj := fun i h st b hb => by
    have e : b = it := by simpa using hb
    subst e
    exact ⟨_, st, fun v z => by
      have z' : Data.fields _ = Data.cell v := z
      cases z'⟩
  keep := fun i h h' st k => k it (by simp) _ st
  item := by
    intro X hP hw hK hc i pins s σ H E I hf st hg
    subst hP hw hK
    obtain ⟨f0, f1, f2, f3, f4, f5⟩ := hf it (by simp)
    have W := Walks.range (prog := X.prog) (w := X.w) (I.ok.hd hc) it lo 1 n
    refine W.item i s _ _ hg st fun v h' tk hv st' kk => ?_
    obtain ⟨t, rfl⟩ := hv
    have I1 : Inv X pins σ H { s with heap := h', toks := tk } := I.turned (fun b o hb e => kk b o (by simpa using hb) e) f0 f1 f3 f4 f5
    refine ⟨_, rfl, go_of (s := { s with heap := h', toks := tk }) (n := "range_iterator") st' rfl rfl (by decide) ⟨.int (lo + i), H, I1, ⟨t, ?_⟩, ⟨rfl, rfl⟩, st', fun b hb => (hf b hb).1⟩⟩
    rw [Int.mul_one]
  done := by
    intro X hP hw hK hc i pins s σ H E I hf st hg
    subst hP hw hK
    obtain ⟨f0, f1, f2, f3, f4, f5⟩ := hf it (by simp)
    exact wpAny_pyNext_range_end (I.ok.hd hc) st (by have : n ≤ i := hg; omega) fun h' eb => ⟨rfl, I.turned (t' := s.toks) (fun b o hb e => eb b o hb e) f0 f1 f3 f4 f5⟩
  self := fun _ _ _ _ _ st h => wpAny_pyIter_rangeiter st h
end L2

namespace L2
open PySem PySem.Spec PyProof.Rows
section
variable {X : Cx} {tg : Expr}
def iList (K : PySem.W.Frag) (tl : TE) : TI := fun σ H R => tl σ H fun x H1 => ∃ a, x = .ref a ∧ (∃ xs, SqL K H1 a xs) ∧ R (Itl K a) H1
def iTup (K : PySem.W.Frag) (tl : TE) : TI := fun σ H R => tl σ H fun x H1 => ∃ a, x = .ref a ∧ (∃ xs, SqT K H1 a xs) ∧ R (Itt K a) H1
theorem pi_list {l : Expr} {tl : TE} (hl : PE X l tl) : PI X tg l (iList X.K tl) := by
  intro pins s σ H R I h
  refine thn (hl pins s σ H _ I h) fun v s1 ⟨x, H1, I1, r1, q1⟩ => ?_
  obtain ⟨a, e, ⟨xs, hq⟩, q⟩ := q1
  subst e
  cases r1
  obtain ⟨its, rv, p, hz⟩ := I1.list hq
  refine wpAny_pyIter_list p.isList ?_
  refine ⟨s1.heap.objs.size, [s1.heap.objs.size], _, _, H1, rfl, I1.kept (t' := s1.toks) fun b o e => Heap.get?_push_of_some _ e, turn_list a _, ⟨_, Heap.get?_push_size _ rfl, rfl, rfl⟩, fun b hb => ?_, q⟩
  have e : b = s1.heap.objs.size := by simpa using hb
  subst e
  exact I1.fpOk (Nat.le_refl _) (I1.hok.fresh (Nat.le_refl _))
theorem pi_tup {l : Expr} {tl : TE} (hl : PE X l tl) : PI X tg l (iTup X.K tl) := by
  intro pins s σ H R I h
  refine thn (hl pins s σ H _ I h) fun v s1 ⟨x, H1, I1, r1, q1⟩ => ?_
  obtain ⟨a, e, ⟨xs, hq⟩, q⟩ := q1
  subst e
  cases r1
  obtain ⟨its, rv, p, hz⟩ := I1.tuple hq
  refine wpAny_pyIter_tuple (show s1.heap.IsTuple a its.toArray from p) ?_
  refine ⟨s1.heap.objs.size, [s1.heap.objs.size], _, _, H1, rfl, I1.kept (t' := s1.toks) fun b o e => Heap.get?_push_of_some _ e, turn_tuple a _, ⟨_, Heap.get?_push_size _ rfl, rfl, rfl⟩, fun b hb => ?_, q⟩
  have e : b = s1.heap.objs.size := by simpa using hb
  subst e
  exact I1.fpOk (Nat.le_refl _) (I1.hok.fresh (Nat.le_refl _))
/-- a range object just made, walked -/
theorem range_it {pins : List (Addr × Obj)} {σ : St} {H : Hp} {s : Shared} {R : It → Hp → Prop} {E : Value → Shared → Prop} {lo hi : Int} {t u v : Tok} {tk : Nat} (I : Inv X pins σ H s) (h1 : -(2 ^ 62) ≤ lo) (h2 : lo < 2 ^ 62) (h3 : -(2 ^ 62) ≤ hi) (h4 : hi < 2 ^ 62)
    (q : R (Itr lo (hi - lo).toNat) H) : wpAny (model X.prog X.w) X.A (pyIter (.ref s.heap.objs.size)) (PIE X pins σ tg R) E { s with heap := s.heap.push { cls := .type "range", data := .fields #[.int lo t, .int hi u, .int 1 v] }, toks := tk } := by
  refine wpAny_pyIter_range (IsRange.new ..) (small_one h1 h2 h3 h4) ?_
  have I1 : Inv X pins σ H { s with heap := s.heap.push { cls := .type "range", data := .fields #[.int lo t, .int hi u, .int 1 v] }, toks := tk } := I.kept fun b o e => Heap.get?_push_of_some _ e
  refine ⟨(s.heap.push { cls := .type "range", data := .fields #[.int lo t, .int hi u, .int 1 v] }).objs.size, [(s.heap.push { cls := .type "range", data := .fields #[.int lo t, .int hi u, .int 1 v] }).objs.size], _, _, H, rfl,
    I1.kept (t' := tk) fun b o e => Heap.get?_push_of_some _ e, turn_range _ lo (hi - lo).toNat, ?_, fun b hb => ?_, q⟩
  · have e1 : lo + ((0 : Nat) : Int) * 1 = lo := by simp
    have e2 : (((hi - lo).toNat : Nat) : Int) - ((0 : Nat) : Int) = Builtin.Range.rangeSize lo hi 1 := by rw [rangeSize_one]; split <;> omega
    show IsRangeIter _ _ (lo + ((0 : Nat) : Int) * 1) ((((hi - lo).toNat : Nat) : Int) - ((0 : Nat) : Int)) 1
    rw [e1, e2]
    exact Heap.get?_push_size _ rfl
  · have e : b = (s.heap.push { cls := .type "range", data := .fields #[.int lo t, .int hi u, .int 1 v] }).objs.size := by simpa using hb
    subst e
    exact I1.fpOk (Nat.le_refl _) (I1.hok.fresh (Nat.le_refl _))
def iRng1 (ta : TA) : TI := fun σ H R => ta σ H fun vs H1 => ∃ j : Int, vs = [.int j] ∧ -(2 ^ 62) ≤ j ∧ j < 2 ^ 62 ∧ R (Itr 0 j.toNat) H1
def iRng2 (ta : TA) : TI := fun σ H R => ta σ H fun vs H1 => ∃ i j : Int, vs = [.int i, .int j] ∧ (-(2 ^ 62) ≤ i ∧ i < 2 ^ 62 ∧ -(2 ^ 62) ≤ j ∧ j < 2 ^ 62) ∧ R (Itr i (j - i).toNat) H1
theorem pi_range1 {a : Expr} {ta : TA} {p pos : Pos} (hg : Gl X "range") (hm : X.mg "range" = none) (ha : PA X [a] ta) (hs : starEach [a] X.env = [(false, eval a X.env)] := by rfl) : PI X tg (.Call (.Name "range" p) [a] [] pos) (iRng1 ta) := by
  intro pins s σ H R I h
  refine Call_ (ld_blt I hg hm boot_range (PyProof.Rows.callWith_type1 (thn (ha pos pins s σ H _ I h) fun us s1 ⟨vs, H1, I1, r1, q1⟩ => ?_) hs rfl))
  obtain ⟨j, e, q1, q2, q⟩ := q1
  subst e
  cases r1 with
  | cons r rr =>
    cases rr
    obtain ⟨t, rfl⟩ := r
    exact call_range_1 (range_it I1 (by omega) (by omega) q1 q2 (by simpa using q))
/-! ### for -/
/-- W: the invariant by the turn and a measure; N: what the body is to reach -/
def tFor (wi : TI) (g : TG) (tb : TS) : TS := fun D σ H => wi σ H fun J H1 => ∃ W : Nat → Nat → St → Hp → Prop, (∃ m, W 0 m σ H1) ∧ ∀ i m σ H, W i m σ H →
  (J.stop i H ∧ D.nx σ H) ∨ (J.go i H ∧ ∃ N : St → Hp → Prop, (∀ σ' H', N σ' H' → ∃ m', m' < m ∧ W (i + 1) m' σ' H') ∧ ∀ x H', J.yld i H x H' → g x σ H' fun σ2 H2 => tb { D with nx := N, ct := N, bk := D.nx } σ2 H2)
/-- the records at fp as they stand -/
def pinsAt (fp : List Addr) (h : Heap) : List (Addr × Obj) := fp.filterMap fun b => (h.get? b).map fun o => (b, o)
theorem mem_pinsAt {fp : List Addr} {h : Heap} {b : Addr} {o : Obj} (hb : b ∈ fp) (e : h.get? b = some o) : (b, o) ∈ pinsAt fp h := List.mem_filterMap.mpr ⟨b, hb, by rw [e]; rfl⟩
theorem of_pinsAt {fp : List Addr} {h : Heap} {p : Addr × Obj} (hp : p ∈ pinsAt fp h) : p.1 ∈ fp ∧ h.get? p.1 = some p.2 := by
  obtain ⟨b, hb, e⟩ := List.mem_filterMap.mp hp
  cases q : h.get? b with
  | none => rw [q] at e; cases e
  | some o =>
    rw [q] at e
    have e' : (b, o) = p := Option.some.inj e
    subst e'
    exact ⟨hb, q⟩
theorem Inv.pinned {pins : List (Addr × Obj)} {σ : St} {H : Hp} {s : Shared} {fp : List Addr} (I : Inv X pins σ H s) (hf : ∀ b ∈ fp, FpOk X pins H b) (ho : ∀ b ∈ fp, ∃ o, s.heap.get? b = some o ∧ ∀ v, o.data ≠ .cell v) : Inv X (pins ++ pinsAt fp s.heap) σ H s :=
  I.pins_of fun p hp => (List.mem_append.mp hp).elim (fun z => I.pin p (List.mem_append_right _ z)) fun z => by
    obtain ⟨hb, e⟩ := of_pinsAt z
    obtain ⟨f0, f1, f2, _⟩ := hf p.1 hb
    obtain ⟨o, e', d⟩ := ho p.1 hb
    rw [e] at e'; cases e'
    exact ⟨e, f0, f1, f2, d⟩
theorem Inv.unpinned {pins pl : List (Addr × Obj)} {σ : St} {H : Hp} {s : Shared} (I : Inv X (pins ++ pl) σ H s) : Inv X pins σ H s := I.pins_of fun p hp => I.pin p (List.mem_append_right _ (List.mem_append_left _ hp))
theorem ps_for {iter : Expr} {body : List Stmt} {wi : TI} {g : TG} {tb : TS} {pos : Pos} (hp : PassesOwn (model X.prog X.w) X.A X.env X.xe) (hc : X.calm = true) (hi : PI X tg iter wi) (hg : PG X tg g) (hb : PSs X body tb)
    (hs : ∀ x, foldedSetIterable iter X.env x = pure x := by intro _; rfl) : PS X (.For tg iter body [] pos) (tFor wi g tb) := by
  intro pins s σ H D I h
  refine wpAny_For (thn (hi pins s σ H _ I h) fun v s1 h1 => thn h1 fun itv s2 h2 => ?_) hs
  obtain ⟨it, fp, tn, J, H2, e, I2, T, st2, f2, W, ⟨m0, w0⟩, turn⟩ := h2
  subst e
  -- what stays true of the iterator's objects through the loop
  have stat : ∀ {H' : Hp}, (∀ b ∈ fp, H' b = none) → ∀ b ∈ fp, FpOk X pins H' b := fun hn b hb => ⟨hn b hb, (f2 b hb).2⟩
  refine codeAny_forLoop_any (fun n s' => ∃ i σ' H', Inv X pins σ' H' s' ∧ tn i s'.heap ∧ (∀ b ∈ fp, H' b = none) ∧ W i n σ' H') ?_ m0 ⟨0, σ, H2, I2, st2, fun b hb => (f2 b hb).1, w0⟩
  rintro n s3 ⟨i, σ3, H3, I3, st3, fr3, w3⟩
  rcases turn i n σ3 H3 w3 with ⟨stop, qn⟩ | ⟨go, N, hN, step⟩
  · refine wpAny_passesOwn hp (thn (T.done X rfl rfl rfl hc i pins s3 σ3 H3 X.xe I3 (stat fr3) st3 stop) fun r s4 ⟨hr, I4⟩ => ?_)
    subst hr
    exact wpAny_execs_nil ⟨σ3, H3, I4, qn⟩
  · refine wpAny_passesOwn hp (thn (T.item X rfl rfl rfl hc i pins s3 σ3 H3 X.xe I3 (stat fr3) st3 go) fun r s4 ⟨u, hr, h4⟩ => ?_)
    subst hr
    refine wpAny_passesOwn hp (thn h4 fun _ s5 ⟨x, H5, I5, r5, y5, st5, fr5⟩ => ?_)
    have I5' := I5.pinned (stat fr5) (T.obj _ _ st5)
    refine wpAny_passesOwn hp (thn (hg _ s5 σ3 H5 x u _ I5' r5 (step x H5 y5)) fun _ s6 ⟨σ6, H6, I6, q6⟩ => ?_)
    refine wpAny_passesOwn hp (thn (hb _ s6 σ6 H6 _ I6 q6) fun f s7 q7 => ?_)
    have again : ∀ {σ7 : St} {H7 : Hp}, Inv X (pins ++ pinsAt fp s5.heap) σ7 H7 s7 → N σ7 H7 → ∃ m, m < n ∧ ∃ i σ' H', Inv X pins σ' H' s7 ∧ tn i s7.heap ∧ (∀ b ∈ fp, H' b = none) ∧ W i m σ' H' := fun {σ7 H7} I7 n7 => by
      obtain ⟨m', hm, w7⟩ := hN σ7 H7 n7
      refine ⟨m', hm, i + 1, σ7, H7, I7.unpinned, T.keep _ _ _ st5 fun b hb o e => (I7.pin (b, o) (List.mem_append_right _ (List.mem_append_right _ (mem_pinsAt hb e)))).1, fun b hb => ?_, w7⟩
      obtain ⟨o, e, d⟩ := T.obj _ _ st5 b hb
      exact (I7.pin (b, o) (List.mem_append_right _ (List.mem_append_right _ (mem_pinsAt hb e)))).2.1
    cases f with
    | next => obtain ⟨σ7, H7, I7, n7⟩ := q7; exact again I7 n7
    | cont => obtain ⟨σ7, H7, I7, n7⟩ := q7; exact again I7 n7
    | brk => obtain ⟨σ7, H7, I7, q7⟩ := q7; exact ⟨σ7, H7, I7.unpinned, q7⟩
    | ret v => obtain ⟨x7, σ7, H7, I7, r7, q7⟩ := q7; exact ⟨x7, σ7, H7, I7.unpinned, r7, q7⟩
end

/-! ### the forms one uses -/
/-- over a list that the body leaves as it is -/
theorem for_list {K : PySem.W.Frag} {a : Addr} {xs : List V} {g : TG} {tb : TS} {D : Ends} {σ : St} {H : Hp} (Pv : Nat → St → Hp → Prop) (h0 : Pv 0 σ H) (hl : ∀ i σ H, i ≤ xs.length → Pv i σ H → SqL K H a xs)
    (hs : ∀ i x σ H, xs[i]? = some x → Pv i σ H → g x σ H fun σ2 H2 => tb { D with nx := Pv (i + 1), ct := Pv (i + 1), bk := D.nx } σ2 H2) (hd : ∀ σ H, Pv xs.length σ H → D.nx σ H) :
    ∃ W : Nat → Nat → St → Hp → Prop, (∃ m, W 0 m σ H) ∧ ∀ i m σ H, W i m σ H →
      ((Itl K a).stop i H ∧ D.nx σ H) ∨ ((Itl K a).go i H ∧ ∃ N : St → Hp → Prop, (∀ σ' H', N σ' H' → ∃ m', m' < m ∧ W (i + 1) m' σ' H') ∧ ∀ x H', (Itl K a).yld i H x H' → g x σ H' fun σ2 H2 => tb { D with nx := N, ct := N, bk := D.nx } σ2 H2) := by
  refine ⟨fun i m σ H => m = xs.length - i ∧ i ≤ xs.length ∧ Pv i σ H, ⟨xs.length, by simp, Nat.zero_le _, h0⟩, ?_⟩
  rintro i m σ H ⟨rfl, hi, p⟩
  have q := hl i σ H hi p
  by_cases hlt : i < xs.length
  · refine .inr ⟨⟨xs, xs[i], q, by simp [hlt]⟩, Pv (i + 1), fun σ' H' p' => ⟨xs.length - (i + 1), by omega, rfl, hlt, p'⟩, fun x H' y => ?_⟩
    obtain ⟨e, y⟩ := y
    subst e
    exact hs i x σ _ (y xs q) p
  · have e : i = xs.length := by omega
    subst e
    exact .inl ⟨⟨xs, q, Nat.le_refl _⟩, hd σ H p⟩
theorem for_tup {K : PySem.W.Frag} {a : Addr} {xs : List V} {g : TG} {tb : TS} {D : Ends} {σ : St} {H : Hp} (Pv : Nat → St → Hp → Prop) (h0 : Pv 0 σ H) (hl : ∀ i σ H, i ≤ xs.length → Pv i σ H → SqT K H a xs)
    (hs : ∀ i x σ H, xs[i]? = some x → Pv i σ H → g x σ H fun σ2 H2 => tb { D with nx := Pv (i + 1), ct := Pv (i + 1), bk := D.nx } σ2 H2) (hd : ∀ σ H, Pv xs.length σ H → D.nx σ H) :
    ∃ W : Nat → Nat → St → Hp → Prop, (∃ m, W 0 m σ H) ∧ ∀ i m σ H, W i m σ H →
      ((Itt K a).stop i H ∧ D.nx σ H) ∨ ((Itt K a).go i H ∧ ∃ N : St → Hp → Prop, (∀ σ' H', N σ' H' → ∃ m', m' < m ∧ W (i + 1) m' σ' H') ∧ ∀ x H', (Itt K a).yld i H x H' → g x σ H' fun σ2 H2 => tb { D with nx := N, ct := N, bk := D.nx } σ2 H2) := by
  refine ⟨fun i m σ H => m = xs.length - i ∧ i ≤ xs.length ∧ Pv i σ H, ⟨xs.length, by simp, Nat.zero_le _, h0⟩, ?_⟩
  rintro i m σ H ⟨rfl, hi, p⟩
  have q := hl i σ H hi p
  by_cases hlt : i < xs.length
  · refine .inr ⟨⟨xs, xs[i], q, by simp [hlt]⟩, Pv (i + 1), fun σ' H' p' => ⟨xs.length - (i + 1), by omega, rfl, hlt, p'⟩, fun x H' y => ?_⟩
    obtain ⟨e, y⟩ := y
    subst e
    exact hs i x σ _ (y xs q) p
  · have e : i = xs.length := by omega
    subst e
    exact .inl ⟨⟨xs, q, Nat.le_refl _⟩, hd σ H p⟩
theorem for_range {lo : Int} {n : Nat} {g : TG} {tb : TS} {D : Ends} {σ : St} {H : Hp} (Pv : Nat → St → Hp → Prop) (h0 : Pv 0 σ H)
    (hs : ∀ i σ H, i < n → Pv i σ H → g (.int (lo + i)) σ H fun σ2 H2 => tb { D with nx := Pv (i + 1), ct := Pv (i + 1), bk := D.nx } σ2 H2) (hd : ∀ σ H, Pv n σ H → D.nx σ H) :
    ∃ W : Nat → Nat → St → Hp → Prop, (∃ m, W 0 m σ H) ∧ ∀ i m σ H, W i m σ H →
      ((Itr lo n).stop i H ∧ D.nx σ H) ∨ ((Itr lo n).go i H ∧ ∃ N : St → Hp → Prop, (∀ σ' H', N σ' H' → ∃ m', m' < m ∧ W (i + 1) m' σ' H') ∧ ∀ x H', (Itr lo n).yld i H x H' → g x σ H' fun σ2 H2 => tb { D with nx := N, ct := N, bk := D.nx } σ2 H2) := by
  refine ⟨fun i m σ H => m = n - i ∧ i ≤ n ∧ Pv i σ H, ⟨n, by simp, Nat.zero_le _, h0⟩, ?_⟩
  rintro i m σ H ⟨rfl, hi, p⟩
  by_cases hlt : i < n
  · refine .inr ⟨hlt, Pv (i + 1), fun σ' H' p' => ⟨n - (i + 1), by omega, rfl, hlt, p'⟩, fun x H' y => ?_⟩
    obtain ⟨e, y⟩ := y
    subst e y
    exact hs i σ _ hlt p
  · have e : i = n := by omega
    subst e
    exact .inl ⟨Nat.le_refl _, hd σ H p⟩
end L2

namespace L2
open PySem PySem.Spec PyProof.Rows

abbrev R2 := V → V → Hp → VK → Prop
/-- a two-place operation on values: f is binaryOp op, inplaceOp op or compareOp op -/
def OpR (X : Cx) (f : Value → Value → Sem Value) (r : R2) : Prop :=
  ∀ (pins : List (Addr × Obj)) (s : Shared) (σ : St) (H : Hp) (x y : V) (v u : Value) (Q : VK), Inv X pins σ H s → RelV x v → RelV y u → r x y H Q →
    wpAny (model X.prog X.w) X.A (f v u) (EP X pins σ Q) X.xe s
/-- a one-place operation -/
def UnR (X : Cx) (f : Value → Sem Value) (r : V → Hp → VK → Prop) : Prop :=
  ∀ (pins : List (Addr × Obj)) (s : Shared) (σ : St) (H : Hp) (x : V) (v : Value) (Q : VK), Inv X pins σ H s → RelV x v → r x H Q →
    wpAny (model X.prog X.w) X.A (f v) (EP X pins σ Q) X.xe s
/-- a call of a value that is known (a builtin, a type) with values -/
def CallR (X : Cx) (f : Value) (r : List V → Hp → VK → Prop) : Prop :=
  ∀ (pins : List (Addr × Obj)) (s : Shared) (σ : St) (H : Hp) (xs : List V) (us : List Value) (Q : VK), Inv X pins σ H s → Vals xs us → r xs H Q →
    wpAny (model X.prog X.w) X.A (call f us) (EP X pins σ Q) X.xe s
/-- a value's truth -/
def TruR (X : Cx) (r : V → Hp → (Bool → Hp → Prop) → Prop) : Prop :=
  ∀ (pins : List (Addr × Obj)) (s : Shared) (σ : St) (H : Hp) (x : V) (v : Value) (Q : Bool → Hp → Prop), Inv X pins σ H s → RelV x v → r x H Q →
    wpAny (model X.prog X.w) X.A (truthy v) (TP X pins σ Q) X.xe s

def tOp (r : R2) (ta tb : TE) : TE := fun σ H Q => ta σ H fun x H1 => tb σ H1 fun y H2 => r x y H2 Q
def tUn (r : V → Hp → VK → Prop) (ta : TE) : TE := fun σ H Q => ta σ H fun x H1 => r x H1 Q
/-- ints in, under C, and a value out -/
def rI (C : Int → Int → Prop) (g : Int → Int → V) : R2 := fun x y H Q => ∃ i j, x = .int i ∧ y = .int j ∧ C i j ∧ Q (g i j) H
def rI0 (g : Int → Int → V) : R2 := fun x y H Q => ∃ i j, x = .int i ∧ y = .int j ∧ Q (g i j) H
def rU (g : Int → V) : V → Hp → VK → Prop := fun x H Q => ∃ i, x = .int i ∧ Q (g i) H

section
variable {X : Cx} {a b c : Expr} {ta tb tc : TE} {pos : Pos}

theorem binT (ha : PE X a ta) (hb : PE X b tb) {pins : List (Addr × Obj)} {s : Shared} {σ : St} {H : Hp} {R : V → V → Hp → Prop} (I : Inv X pins σ H s)
    (h : ta σ H fun x H1 => tb σ H1 fun y H2 => R x y H2) {Q : Value → Shared → Prop} {f : Value → Value → Sem Value}
    (hf : ∀ v u s2 x y H2, Inv X pins σ H2 s2 → RelV x v → RelV y u → R x y H2 → wpAny (model X.prog X.w) X.A (f v u) Q X.xe s2) :
    wpAny (model X.prog X.w) X.A (eval a X.env) (fun v s₁ => wpAny (model X.prog X.w) X.A (eval b X.env) (fun u s₂ => wpAny (model X.prog X.w) X.A (f v u) Q X.xe s₂) X.xe s₁) X.xe s := by
  refine thn (ha pins s σ H _ I h) fun v s1 ⟨x, H1, I1, r1, q1⟩ => ?_
  refine thn (hb pins s1 σ H1 _ I1 q1) fun u s2 ⟨y, H2, I2, r2, q2⟩ => ?_
  exact hf v u s2 x y H2 I2 r1 r2 q2

theorem pe_op {op : Operator} {r : R2} (ho : OpR X (binaryOp op) r) (ha : PE X a ta) (hb : PE X b tb) : PE X (.BinOp a op b pos) (tOp r ta tb) := by
  intro pins s σ H Q I h
  exact wpAny_BinOp (binT ha hb I h fun v u s2 x y H2 I2 rx ry q => ho pins s2 σ H2 x y v u Q I2 rx ry q)
theorem pe_un {op : UnaryOp} {r : V → Hp → VK → Prop} (ho : UnR X (unaryOp op) r) (ha : PE X a ta) : PE X (.UnaryOp op a pos) (tUn r ta) := by
  intro pins s σ H Q I h
  exact UnaryOp_ (thn (ha pins s σ H _ I h) fun v s1 ⟨x, H1, I1, r1, q1⟩ => ho pins s1 σ H1 x v Q I1 r1 q1)
/-! ### ints -/
theorem opI {f : Value → Value → Sem Value} {C : Int → Int → Prop} {g : Int → Int → Int}
    (rule : ∀ (i j : Int) (t u : Tok) (s : Shared) (Q : Value → Shared → Prop) (E : Value → Shared → Prop), C i j → Q (.int (g i j) s.toks) { s with toks := s.toks + 1 } → wpAny (model X.prog X.w) X.A (f (.int i t) (.int j u)) Q E s) :
    OpR X f (rI C fun i j => .int (g i j)) := by
  intro pins s σ H x y v u Q I rx ry h
  obtain ⟨i, j, rfl, rfl, hc, q⟩ := h
  obtain ⟨t, rfl⟩ := rx
  obtain ⟨t', rfl⟩ := ry
  exact rule i j t t' s _ _ hc ⟨.int (g i j), H, I.tok _, ⟨_, rfl⟩, q⟩
theorem opI0 {f : Value → Value → Sem Value} {g : Int → Int → Int}
    (rule : ∀ (i j : Int) (t u : Tok) (s : Shared) (Q : Value → Shared → Prop) (E : Value → Shared → Prop), Q (.int (g i j) s.toks) { s with toks := s.toks + 1 } → wpAny (model X.prog X.w) X.A (f (.int i t) (.int j u)) Q E s) :
    OpR X f (rI0 fun i j => .int (g i j)) := by
  intro pins s σ H x y v u Q I rx ry h
  obtain ⟨i, j, rfl, rfl, q⟩ := h
  obtain ⟨t, rfl⟩ := rx
  obtain ⟨t', rfl⟩ := ry
  exact rule i j t t' s _ _ ⟨.int (g i j), H, I.tok _, ⟨_, rfl⟩, q⟩
theorem opB0 {f : Value → Value → Sem Value} {g : Int → Int → Bool}
    (rule : ∀ (i j : Int) (t u : Tok) (s : Shared) (Q : Value → Shared → Prop) (E : Value → Shared → Prop), Q (.bool (g i j)) s → wpAny (model X.prog X.w) X.A (f (.int i t) (.int j u)) Q E s) :
    OpR X f (rI0 fun i j => .bl (g i j)) := by
  intro pins s σ H x y v u Q I rx ry h
  obtain ⟨i, j, rfl, rfl, q⟩ := h
  obtain ⟨t, rfl⟩ := rx
  obtain ⟨t', rfl⟩ := ry
  exact rule i j t t' s _ _ ⟨.bl (g i j), H, I, rfl, q⟩

def CDiv (i j : Int) : Prop := 0 < j ∧ j < 1073741824
def CDivN (i j : Int) : Prop := j ≠ 0 ∧ j.natAbs < 1073741824
def CPow (i j : Int) : Prop := 0 ≤ j ∧ j ≤ 1000000 ∧ i.natAbs < 2 ^ 64
def CMul (i j : Int) : Prop := (-(2 ^ 64) < i ∧ i < 2 ^ 64) ∨ (-(2 ^ 64) < j ∧ j < 2 ^ 64)
theorem CMul.ok {i j : Int} (h : CMul i j) : IntMulOk i j := by
  rcases h with ⟨h1, h2⟩ | ⟨h1, h2⟩
  · exact .of_left (intBits_le_64 h1 h2)
  · exact .of_right (intBits_le_64 h1 h2)
theorem op_add : OpR X (binaryOp .Add) (rI0 fun i j => .int (i + j)) := opI0 fun _ _ _ _ _ _ _ q => add_int q
theorem op_sub : OpR X (binaryOp .Sub) (rI0 fun i j => .int (i - j)) := opI0 fun _ _ _ _ _ _ _ q => sub_int q
theorem op_mul : OpR X (binaryOp .Mult) (rI CMul fun i j => .int (i * j)) := opI fun _ _ _ _ _ _ _ hc q => mul_int q hc.ok
/-- % by a positive divisor of any size -/
theorem op_mod : OpR X (binaryOp .Mod) (rI (fun _ j => 0 < j) fun i j => .int (i % j)) := opI fun i j _ _ _ _ _ hc q => by
  have h1 : (0 : Int) < j := hc
  exact mod_int' (by omega) (by rw [Int.fmod_eq_emod_of_nonneg i (by omega)]; exact q)
theorem op_pow : OpR X (binaryOp .Pow) (rI CPow fun i j => .int (i ^ j.toNat)) := opI fun _ _ _ _ _ _ _ hc q => pow_int_small hc.1 hc.2.1 hc.2.2 q
/-! ### bools among ints: n += (a < b) -/
end

/-! ### comparisons -/
/-- the scalars that == tells apart as data does -/
def scal : V → V → Bool
  | .non, .non => true | .non, .int _ => true | .int _, .non => true | .non, .bl _ => true | .bl _, .non => true | .non, .str _ => true | .str _, .non => true
  | .int _, .int _ => true | .bl _, .bl _ => true | .str _, .str _ => true | .byt _, .byt _ => true
  | .int _, .str _ => true | .str _, .int _ => true | .bl _, .str _ => true | .str _, .bl _ => true
  | _, _ => false
def rEq : R2 := fun x y H Q => scal x y = true ∧ Q (.bl (decide (x = y))) H
def rNe : R2 := fun x y H Q => scal x y = true ∧ Q (.bl (!decide (x = y))) H

theorem dec_int {i j : Int} : decide (V.int i = V.int j) = (i == j) := by
  rw [Bool.eq_iff_iff]
  simp
theorem dec_bl {i j : Bool} : decide (V.bl i = V.bl j) = (i == j) := by
  rw [Bool.eq_iff_iff]
  simp
theorem dec_str {i j : Str} : decide (V.str i = V.str j) = (i == j) := by
  rw [Bool.eq_iff_iff]
  simp
theorem dec_byt {i j : Array UInt8} : decide (V.byt i = V.byt j) = (i.toList == j.toList) := by
  rw [Bool.eq_iff_iff]
  cases i
  cases j
  simp

section
variable {X : Cx} {a b c : Expr} {ta tb tc : TE} {pos : Pos}
theorem fin_bl {pins : List (Addr × Obj)} {σ : St} {H : Hp} {s : Shared} {Q : VK} {k k' : Bool} (I : Inv X pins σ H s) (q : Q (.bl k) H) (e : k = k') : EP X pins σ Q (.bool k') s := by
  subst e
  exact ⟨.bl k, H, I, rfl, q⟩
theorem op_eq : OpR X (compareOp .Eq) rEq := by
  intro pins s σ H x y v u Q I rx ry h
  obtain ⟨hs, q⟩ := h
  cases x with
  | non =>
    cases rx
    cases y with
    | non => cases ry; exact PySem.EqNone.eq_none_none (fin_bl I q (by simp))
    | bl j => cases ry; exact PySem.EqNone.eq_none_bool (fin_bl I q (by simp))
    | int j => obtain ⟨t', rfl⟩ := ry; exact PySem.EqNone.eq_none_int (fin_bl I q (by simp))
    | str j => obtain ⟨t', rfl⟩ := ry; exact PySem.EqNone.eq_none_str (fin_bl I q (by simp))
    | _ => exact absurd (show false = true from hs) Bool.false_ne_true
  | bl i =>
    cases rx
    cases y with
    | non => cases ry; exact PySem.EqNone.eq_bool_none (fin_bl I q (by simp))
    | bl j => cases ry; exact eq_bool (fin_bl I q dec_bl)
    | str j => obtain ⟨t', rfl⟩ := ry; exact PySem.EqMixed.eq_bool_str (fin_bl I q (by simp))
    | _ => exact absurd (show false = true from hs) Bool.false_ne_true
  | int i =>
    obtain ⟨t, rfl⟩ := rx
    cases y with
    | non => cases ry; exact PySem.EqNone.eq_int_none (fin_bl I q (by simp))
    | int j => obtain ⟨t', rfl⟩ := ry; exact eq_int (fin_bl I q dec_int)
    | str j => obtain ⟨t', rfl⟩ := ry; exact PySem.EqMixed.eq_int_str (fin_bl I q (by simp))
    | _ => exact absurd (show false = true from hs) Bool.false_ne_true
  | str i =>
    obtain ⟨t, rfl⟩ := rx
    cases y with
    | non => cases ry; exact PySem.EqNone.eq_str_none (fin_bl I q (by simp))
    | bl j => cases ry; exact PySem.EqMixed.eq_str_bool (fin_bl I q (by simp))
    | int j => obtain ⟨t', rfl⟩ := ry; exact PySem.EqMixed.eq_str_int (fin_bl I q (by simp))
    | str j => obtain ⟨t', rfl⟩ := ry; exact eq_str (fin_bl I q dec_str)
    | _ => exact absurd (show false = true from hs) Bool.false_ne_true
  | byt i =>
    obtain ⟨t, rfl⟩ := rx
    cases y with
    | byt j => obtain ⟨t', rfl⟩ := ry; exact PySem.W.eq_bytes (fin_bl I q dec_byt)
    | _ => exact absurd (show false = true from hs) Bool.false_ne_true
  | _ => cases y <;> exact absurd (show false = true from hs) Bool.false_ne_true
theorem op_ne : OpR X (compareOp .NotEq) rNe := by
  intro pins s σ H x y v u Q I rx ry h
  obtain ⟨hs, q⟩ := h
  cases x with
  | non =>
    cases rx
    cases y with
    | non => cases ry; exact PySem.EqNone.ne_none_none (fin_bl I q (by simp))
    | bl j => cases ry; exact PySem.EqNone.ne_none_bool (fin_bl I q (by simp))
    | int j => obtain ⟨t', rfl⟩ := ry; exact PySem.EqNone.ne_none_int (fin_bl I q (by simp))
    | str j => obtain ⟨t', rfl⟩ := ry; exact PySem.EqNone.ne_none_str (fin_bl I q (by simp))
    | _ => exact absurd (show false = true from hs) Bool.false_ne_true
  | bl i =>
    cases rx
    cases y with
    | non => cases ry; exact PySem.EqNone.ne_bool_none (fin_bl I q (by simp))
    | bl j => cases ry; exact ne_bool (fin_bl I q (congrArg not dec_bl))
    | str j => obtain ⟨t', rfl⟩ := ry; exact PySem.EqMixed.ne_bool_str (fin_bl I q (by simp))
    | _ => exact absurd (show false = true from hs) Bool.false_ne_true
  | int i =>
    obtain ⟨t, rfl⟩ := rx
    cases y with
    | non => cases ry; exact PySem.EqNone.ne_int_none (fin_bl I q (by simp))
    | int j => obtain ⟨t', rfl⟩ := ry; exact ne_int (fin_bl I q (congrArg not dec_int))
    | str j => obtain ⟨t', rfl⟩ := ry; exact PySem.EqMixed.ne_int_str (fin_bl I q (by simp))
    | _ => exact absurd (show false = true from hs) Bool.false_ne_true
  | str i =>
    obtain ⟨t, rfl⟩ := rx
    cases y with
    | non => cases ry; exact PySem.EqNone.ne_str_none (fin_bl I q (by simp))
    | bl j => cases ry; exact PySem.EqMixed.ne_str_bool (fin_bl I q (by simp))
    | int j => obtain ⟨t', rfl⟩ := ry; exact PySem.EqMixed.ne_str_int (fin_bl I q (by simp))
    | str j => obtain ⟨t', rfl⟩ := ry; exact ne_str (fin_bl I q (congrArg not dec_str))
    | _ => exact absurd (show false = true from hs) Bool.false_ne_true
  | byt i =>
    obtain ⟨t, rfl⟩ := rx
    cases y with
    | byt j => obtain ⟨t', rfl⟩ := ry; exact PySem.W.ne_bytes (fin_bl I q (congrArg not dec_byt))
    | _ => exact absurd (show false = true from hs) Bool.false_ne_true
  | _ => cases y <;> exact absurd (show false = true from hs) Bool.false_ne_true

theorem op_lt : OpR X (compareOp .Lt) (rI0 fun i j => .bl (decide (i < j))) := opB0 fun _ _ _ _ _ _ _ q => lt_int q
theorem op_le : OpR X (compareOp .LtE) (rI0 fun i j => .bl (decide (i ≤ j))) := opB0 fun _ _ _ _ _ _ _ q => le_int q
theorem op_gt : OpR X (compareOp .Gt) (rI0 fun i j => .bl (decide (j < i))) := opB0 fun _ _ _ _ _ _ _ q => gt_int q
theorem op_ge : OpR X (compareOp .GtE) (rI0 fun i j => .bl (decide (j ≤ i))) := opB0 fun _ _ _ _ _ _ _ q => ge_int q
/-- is, is not of two objects that are tracked lists or instances -/
def isObj : HO → Bool
  | .lst _ => true
  | .ins _ _ _ => true
  | _ => false
theorem nomark (b : Expr) {op : CmpOp} (h : op ≠ .In := by decide) (h2 : op ≠ .NotIn := by decide) : behindInMarks op b = false := by
  have e1 : (op == CmpOp.In) = false := by cases op <;> first | rfl | exact absurd rfl h
  have e2 : (op == CmpOp.NotIn) = false := by cases op <;> first | rfl | exact absurd rfl h2
  cases b <;> simp [behindInMarks, e1, e2]
/-- a comparison as a value; hm: nomark b, or (for in, not in) by with_unfolding_all rfl -/
theorem pe_cmpR {op : CmpOp} {r : R2} (ho : OpR X (compareOp op) r) (ha : PE X a ta) (hb : PE X b tb) (hm : behindInMarks op b = false) : PE X (.Compare a [op] [b] pos) (tOp r ta tb) := by
  intro pins s σ H Q I h
  exact wpAny_Compare1 (binT ha hb I h fun v u s2 x y H2 I2 rx ry q => ho pins s2 σ H2 x y v u Q I2 rx ry q) hm
/-- a reading of a value as a test -/
def tTest (t : TE) : TT := fun σ H Q => t σ H fun x H' => ∃ k, x = .bl k ∧ Q k H'
theorem pt_cmpR {op : CmpOp} {r : R2} (ho : OpR X (compareOp op) r) (ha : PE X a ta) (hb : PE X b tb) (hm : behindInMarks op b = false) : PT X (.Compare a [op] [b] pos) (tTest (tOp r ta tb)) := by
  intro pins s σ H Q I h
  refine wpAny_isTrue_Compare1 (thn (ha pins s σ H _ I h) fun v s1 ⟨x, H1, I1, r1, q1⟩ => thn (hb pins s1 σ H1 _ I1 q1) fun u s2 ⟨y, H2, I2, r2, q2⟩ =>
    thn (ho pins s2 σ H2 x y v u _ I2 r1 r2 q2) fun c s3 ⟨z, H3, I3, r3, k, e, q3⟩ => ?_) hm
  subst e
  cases r3
  exact wpAny_truthy_bool ⟨H3, I3, q3⟩
/-- a op1 b op2 c -/
def tChain (r r' : R2) (ta tb tc : TE) : TE := fun σ H Q => ta σ H fun x H1 => tb σ H1 fun y H2 => r x y H2 fun z H3 => ∃ k, z = .bl k ∧
  (if k = true then tc σ H3 fun w' H4 => r' y w' H4 Q else Q (.bl false) H3)
theorem pt_chain {op op' : CmpOp} {r r' : R2} (ho : OpR X (compareOp op) r) (ho' : OpR X (compareOp op') r') (ha : PE X a ta) (hb : PE X b tb) (hc : PE X c tc)
    (hm : lastMarks [op, op'] [b, c] = false := by with_unfolding_all rfl) : PT X (.Compare a [op, op'] [b, c] pos) (tTest (tChain r r' ta tb tc)) := by
  intro pins s σ H Q I h
  refine isTrue_chain (thn (ha pins s σ H _ I h) fun v s1 ⟨x, H1, I1, r1, q1⟩ => test_link (thn (hb pins s1 σ H1 _ I1 q1) fun u s2 ⟨y, H2, I2, r2, q2⟩ =>
    thn (ho pins s2 σ H2 x y v u _ I2 r1 r2 q2) fun d s3 ⟨z, H3, I3, r3, k, e, q3⟩ => ?_)) hm
  subst e
  cases r3
  refine wpAny_truthy_bool ?_
  cases k with
  | false =>
    obtain ⟨k', e', q'⟩ := q3
    cases e'
    exact ite_ff ⟨H3, I3, q'⟩
  | true =>
    refine ite_tt (test_last (thn (hc pins s3 σ H3 _ I3 q3) fun w' s4 ⟨z', H4, I4, r4, q4⟩ => thn (ho' pins s4 σ H4 y z' u w' _ I4 r2 r4 q4) fun d' s5 ⟨z2, H5, I5, r5, k2, e2, q5⟩ => ?_))
    subst e2
    cases r5
    exact wpAny_truthy_bool ⟨H5, I5, q5⟩

/-! ### truth -/
/-- a value's truth by the abstract heap -/
def TruV (K : PySem.W.Frag) (x : V) (H : Hp) (k : Bool) : Prop :=
  match x with
  | .non => k = false
  | .bl b => k = b
  | .int i => k = (i != 0)
  | .str y => y.length ≤ sizeLine ∧ k = ((y.length : Int) != 0)
  | .byt y => y.size ≤ sizeLine ∧ k = ((y.size : Int) != 0)
  | .ref p => (∃ xs, SqL K H p xs ∧ k = !xs.isEmpty) ∨ (∃ xs, SqT K H p xs ∧ k = !xs.isEmpty) ∨ ∃ kvs, H p = some (.dK kvs) ∧ k = !kvs.isEmpty
  | _ => False
theorem isEmpty_kv {κ : Type} {kvs : List (κ × V)} {vs : List (κ × Value)} (r : KV kvs vs) : (!vs.isEmpty) = !kvs.isEmpty := by
  cases r <;> rfl
theorem isEmpty_of {xs : List V} {its : List Value} (r : Vals xs its) : (!its.toArray.isEmpty) = !xs.isEmpty := by
  cases r <;> simp
theorem line63 : (sizeLine : Nat) < 2 ^ 63 := by rw [sizeLine_eq]; decide
theorem tru_ok : TruR X (fun x H Q => ∃ k, TruV X.K x H k ∧ Q k H) := by
  intro pins s σ H x v Q I rx h
  obtain ⟨k, e, q⟩ := h
  have hl := line63
  have hs : sizeLine = 16777216 := sizeLine_eq
  cases x with
  | non =>
    cases rx
    have e' : k = false := e
    subst e'
    exact truthy_none ⟨H, I, q⟩
  | bl b =>
    cases rx
    have e' : k = b := e
    subst e'
    exact wpAny_truthy_bool ⟨H, I, q⟩
  | int i =>
    obtain ⟨t, rfl⟩ := rx
    have e' : k = (i != 0) := e
    subst e'
    exact PySem.P.truthy_int ⟨H, I, q⟩
  | str y =>
    obtain ⟨t, rfl⟩ := rx
    obtain ⟨hy, e'⟩ : y.length ≤ sizeLine ∧ k = ((y.length : Int) != 0) := e
    subst e'
    exact PySem.P.truthy_str (by omega) ⟨H, I.tok _, q⟩
  | byt y =>
    obtain ⟨t, rfl⟩ := rx
    obtain ⟨hy, e'⟩ : y.size ≤ sizeLine ∧ k = ((y.size : Int) != 0) := e
    subst e'
    exact PySem.W.truthy_bytes (by omega) ⟨H, I.tok _, q⟩
  | ref p =>
    cases rx
    have e' : (∃ xs, SqL X.K H p xs ∧ k = !xs.isEmpty) ∨ (∃ xs, SqT X.K H p xs ∧ k = !xs.isEmpty) ∨ ∃ kvs, H p = some (.dK kvs) ∧ k = !kvs.isEmpty := e
    rcases e' with ⟨xs, hx, e'⟩ | ⟨xs, hx, e'⟩ | ⟨kvs, hx, e'⟩
    · subst e'
      obtain ⟨its, r, pl, hz⟩ := I.list hx
      have hlen := r.length
      exact wpAny_truthy_list pl.isList (by simp only [List.size_toArray]; omega) ⟨H, I.tok _, by rw [isEmpty_of r]; exact q⟩
    · subst e'
      obtain ⟨its, r, pl, hz⟩ := I.tuple hx
      have hlen := r.length
      exact truthy_tuple pl (by simp only [List.size_toArray]; omega) ⟨H, I.tok _, by rw [isEmpty_of r]; exact q⟩
    · subst e'
      obtain ⟨hz, hS, vs, r, m⟩ : kvs.length ≤ sizeLine ∧ (p == sysModules) = false ∧ ∃ vs, KV kvs vs ∧ s.heap.DictOf (mixKind X.prog X.w) p vs := I.hok p _ hx
      have hlen : kvs.length = vs.length := Paired.length r
      exact wpAny_truthy_dict hS m (by omega) ⟨H, I.tok _, by rw [isEmpty_kv r]; exact q⟩
  | _ => exact (show False from e).elim
/-- any expression whose test is its value's truth (a name, a call, a subscript, a field ..: he by fun _ => rfl) -/
theorem pt_truth (ha : PE X a ta) (he : ∀ whole, isTrue a X.env whole = (do let v ← whole; standAt a.pos; holding [v] (truthy v))) :
    PT X a (fun σ H Q => ta σ H fun x H' => ∃ k, TruV X.K x H' k ∧ Q k H') := by
  intro pins s σ H Q I h
  exact isTrue_plain (thn (ha pins s σ H _ I h) fun v s1 ⟨x, H1, I1, r1, q1⟩ => tru_ok pins s1 σ H1 x v Q I1 r1 q1) (he _)

/-! ### strs and bytes -/
def PlainIxT (b : Expr) : Prop := ∀ o i, subscripted b false o i = operate [o, i] (getItem o i)
/-! ### scalar builtins, by CallR -/
theorem vals1 {x : V} {us : List Value} (r : Vals [x] us) : ∃ u, us = [u] ∧ RelV x u := by
  cases r with
  | cons r1 r2 => cases r2; exact ⟨_, rfl, r1⟩
theorem vals2 {x y : V} {us : List Value} (r : Vals [x, y] us) : ∃ u w', us = [u, w'] ∧ RelV x u ∧ RelV y w' := by
  cases r with
  | cons r1 r2 =>
    cases r2 with
    | cons r3 r4 => cases r4; exact ⟨_, _, rfl, r1, r3⟩
theorem call_max2 (hc : X.calm = true) : CallR X (.builtin "max") (fun xs H Q => ∃ i j, xs = [.int i, .int j] ∧ Q (.int (if j > i then j else i)) H) := by
  intro pins s σ H xs us Q I r h
  obtain ⟨i, j, rfl, q⟩ := h
  obtain ⟨u, w', rfl, ⟨t, rfl⟩, ⟨t', rfl⟩⟩ := vals2 r
  refine max_two_ints (I.ok.hd hc) fun h' tk k => ⟨_, H, I.kept k, ?_, q⟩
  by_cases hj : j > i
  · rw [if_pos hj, if_pos hj]; exact ⟨_, rfl⟩
  · rw [if_neg hj, if_neg hj]; exact ⟨_, rfl⟩
theorem call_min2 (hc : X.calm = true) : CallR X (.builtin "min") (fun xs H Q => ∃ i j, xs = [.int i, .int j] ∧ Q (.int (if j < i then j else i)) H) := by
  intro pins s σ H xs us Q I r h
  obtain ⟨i, j, rfl, q⟩ := h
  obtain ⟨u, w', rfl, ⟨t, rfl⟩, ⟨t', rfl⟩⟩ := vals2 r
  refine min_two_ints (I.ok.hd hc) fun h' tk k => ⟨_, H, I.kept k, ?_, q⟩
  by_cases hj : j < i
  · rw [if_pos hj, if_pos hj]; exact ⟨_, rfl⟩
  · rw [if_neg hj, if_neg hj]; exact ⟨_, rfl⟩
/-- len of a str, a bytes, a list, a tuple -/
def LenV (K : PySem.W.Frag) (x : V) (H : Hp) (n : Nat) : Prop :=
  match x with
  | .str y => y.length ≤ sizeLine ∧ n = y.length
  | .byt y => y.size ≤ sizeLine ∧ n = y.size
  | .ref p => (∃ xs, SqL K H p xs ∧ n = xs.length) ∨ ∃ xs, SqT K H p xs ∧ n = xs.length
  | _ => False
end
end L2

namespace L2
open PySem PySem.Spec PyProof.Rows

/-! ### an instance, its attributes a map -/
structure ObjM (h : Heap) (x dx C : Addr) (mA : Str → Option Value) : Prop where
  obj : h.get? x = some (PySem.W.instObj C dx)
  ns : h.Ns1 dx mA
  ne : dx ≠ x

theorem lookIn_ns {h : Heap} {dx : Addr} {mA : Str → Option Value} (n : h.Ns1 dx mA) : ∃ od, h.get? dx = some od ∧ ∀ name, PySem.W.lookIn name od = some (mA name) := by
  obtain ⟨o, es, ep, ho, hd, hk, _, hm⟩ := n
  refine ⟨o, ho, fun name => ?_⟩
  have e := hm name
  unfold nsFind findBy at e
  rw [← Array.find?_toList] at e
  unfold PySem.W.lookIn
  rw [hd]
  dsimp only
  split
  · rename_i y q
    rw [q] at e
    exact congrArg some e
  · rename_i q
    rw [q] at e
    have a : es.toList.any (·.refKey) = false := by
      rw [List.any_eq_false]
      intro y hy
      obtain ⟨z, t, hkey⟩ := hk y (Array.mem_toList_iff.mp hy)
      simp [DictEntry.refKey, hkey]
    have a' : ¬ es.toList.any (·.refKey) = true := by rw [a]; exact Bool.false_ne_true
    rw [if_neg a']
    exact congrArg some e

theorem ObjM.look {h : Heap} {x dx C : Addr} {mA : Str → Option Value} (I : ObjM h x dx C mA) : ∃ od, PySem.W.InstAt h x (PySem.W.instObj C dx) C (some od) ∧ ∀ name, PySem.W.lookIn name od = some (mA name) :=
  let ⟨od, ho, hl⟩ := lookIn_ns I.ns
  ⟨od, ⟨I.obj, rfl, rfl, ho⟩, hl⟩

section
variable {prog : Program} {w : World} {A : Around} {E : Value → Shared → Prop} {s : Shared} {K : PySem.W.Frag} {x dx C f : Addr} {mA : Str → Option Value} {name : Str} {v : Value}

end

/-! ### the attributes as a list of pairs -/
def putF (f : Str) (v : V) : List (Str × V) → List (Str × V)
  | [] => [(f, v)]
  | (g, x) :: r => if g = f then (g, v) :: r else (g, x) :: putF f v r
theorem RelO.some_of {v : V} {o : Option Value} (r : RelO (some v) o) : ∃ u, o = some u ∧ RelV v u := by
  cases o with
  | none => exact (show False from r).elim
  | some u => exact ⟨u, rfl, r⟩
section
variable {P : Program} {w : World} {H H' : Hp} {h h' : Heap} {a C dx : Addr} {fs fs' : List (Str × V)}
theorem ins_get (hok : HOk P w H h) (e : H a = some (.ins C dx fs)) : ∃ mA, ObjM h a dx C mA ∧ (∀ f, RelO (fs.lookup f) (mA f)) ∧ PySem.Within mA (fs.map (·.1)) ∧ fs.length ≤ 1000 ∧ H dx = some (.own a) := by
  obtain ⟨d, z, ne, ob, mA, n, r, q⟩ := (show ObjOk P w H h a (.ins C dx fs) from hok a _ e)
  exact ⟨mA, ⟨ob, n, ne⟩, r, q, z, d⟩
end

/-! ### what of the text a class must have -/
structure Cls (K : PySem.W.Frag) (C : Addr) : Prop where
  pg : PySem.W.plainGet K C Str.empty = true
  hd : PySem.W.hasDictIn K C = true
  po : PySem.W.plainOver K C = true
  sa : PySem.W.findIn K (.ref C) "__setattr__" = some (some (.builtin "object.__setattr__"))
theorem Cls.get {K : PySem.W.Frag} {C : Addr} (c : Cls K C) (f : Str) : PySem.W.plainGet K C f = true := c.pg
/-- no class of it has the name -/
def NoAttr (K : PySem.W.Frag) (C : Addr) (f : Str) : Prop := PySem.W.findIn K (.ref C) f = some none
/-- a constant of the class -/
structure Con (K : PySem.W.Frag) (C : Addr) (f : Str) (v : V) (u : Value) : Prop where
  at_ : PySem.W.findIn K (.ref C) f = some (some u)
  rel : RelV v u
  get : PySem.W.specialIn K u "__get__" = some none
  cp : PySem.W.copiedNames.contains f = false
/-- a method: a plain def of the class or of one above it -/
structure Meth (K : PySem.W.Frag) (C : Addr) (m : Str) (f : Addr) : Prop where
  at_ : PySem.W.findIn K (.ref C) m = some (some (.ref f))
  fn : PySem.W.isFn K (.ref f) = true
  kp : PySem.W.keepIn K (.ref f) = true

section
variable {X : Cx} {pins : List (Addr × Obj)} {σ : St} {H : Hp} {s : Shared} {a C dx : Addr} {fs : List (Str × V)} {f : Str} {v : V} {A : Around} {E : Value → Shared → Prop}

end

/-! ### readings and rules -/
/-- e.f, an attribute of the instance -/
def tFld (K : PySem.W.Frag) (ta : TE) (f : Str) : TE := fun σ H Q => ta σ H fun x H1 => ∃ a C dx fs v, x = .ref a ∧ H1 a = some (.ins C dx fs) ∧ Cls K C ∧ NoAttr K C f ∧ fs.lookup f = some v ∧ Q v H1
/-- e.f, a constant of the class -/
def tCon (K : PySem.W.Frag) (ta : TE) (f : Str) : TE := fun σ H Q => ta σ H fun x H1 => ∃ a C dx fs v u, x = .ref a ∧ H1 a = some (.ins C dx fs) ∧ Cls K C ∧ Con K C f v u ∧ fs.lookup f = none ∧ Q v H1
/-- e.f = value -/
def sFld (K : PySem.W.Frag) (ta tv : TE) (f : Str) : TS := fun D σ H => tv σ H fun y H1 => ta σ H1 fun x H2 => ∃ a C dx fs, x = .ref a ∧ H2 a = some (.ins C dx fs) ∧ Cls K C ∧ NoAttr K C f ∧ fs.length < 1000 ∧
  D.nx σ (upd H2 a (.ins C dx (putF f y fs)))
/-- an augmented operator on two values -/
def InOp (X : Cx) (op : Operator) (rd : V → V → Hp → VK → Prop) : Prop :=
  ∀ (pins : List (Addr × Obj)) (s : Shared) (σ : St) (H : Hp) (x y : V) (u v : Value) (Q : VK), Inv X pins σ H s → RelV x u → RelV y v → rd x y H Q → wpAny (model X.prog X.w) X.A (inplaceOp op u v) (EP X pins σ Q) X.xe s
/-- e.f op= value -/
def sFldAug (K : PySem.W.Frag) (ta tv : TE) (rd : V → V → Hp → VK → Prop) (f : Str) : TS := fun D σ H => ta σ H fun x H1 => ∃ a C dx fs v, x = .ref a ∧ H1 a = some (.ins C dx fs) ∧ Cls K C ∧ NoAttr K C f ∧ fs.lookup f = some v ∧
  tv σ H1 fun y H2 => rd v y H2 fun z H3 => ∃ dx' fs', H3 a = some (.ins C dx' fs') ∧ fs'.length < 1000 ∧ D.nx σ (upd H3 a (.ins C dx' (putF f z fs')))

section
variable {X : Cx} {o e value : Expr} {f : Str} {pos pos' tpos : Pos} {ta tv : TE}
def rAdd : V → V → Hp → VK → Prop := fun x y H Q => ∃ i j, x = .int i ∧ y = .int j ∧ Q (.int (i + j)) H
def rSub : V → V → Hp → VK → Prop := fun x y H Q => ∃ i j, x = .int i ∧ y = .int j ∧ Q (.int (i - j)) H
end

/-! ### isinstance -/
section
variable {X : Cx} {pins : List (Addr × Obj)} {σ : St} {H : Hp} {s : Shared} {A : Around} {E : Value → Shared → Prop} {Q : Value → Shared → Prop} {c : Value} {b : Bool}
/-- the type of a value, as the fragment's deciders take it; for an instance its class -/
inductive TyOf (K : PySem.W.Frag) (H : Hp) : V → Value → Prop where
  | non : TyOf K H .non (.type "NoneType")
  | bl (x : Bool) : TyOf K H (.bl x) (.type "bool")
  | int (i : Int) : TyOf K H (.int i) (.type "int")
  | str (x : Str) : TyOf K H (.str x) (.type "str")
  | flt (x : UInt64) : TyOf K H (.flt x) (.type "float")
  | lst {a : Addr} {xs : List V} (e : H a = some (.lst xs)) : TyOf K H (.ref a) (.type "list")
  | frz {a : Addr} {o : Obj} {xs : List V} (e : H a = some (.frz o (.lst xs))) : TyOf K H (.ref a) (.type "list")
  | tup {a : Addr} {xs : List V} (e : H a = some (.tup xs)) : TyOf K H (.ref a) (.type "tuple")
  | dK {a : Addr} {kvs : List (Key × V)} (e : H a = some (.dK kvs)) : TyOf K H (.ref a) (.type "dict")
  | dT {a : Addr} {kvs : List (List Key × V)} (e : H a = some (.dT kvs)) : TyOf K H (.ref a) (.type "dict")
  | ins {a C dx : Addr} {fs : List (Str × V)} (e : H a = some (.ins C dx fs)) (cl : Cls K C) (ha : PySem.W.findIn K (.ref C) "__class__" = some (some (.builtin "object.__class__")))
      (hn : PySem.W.specialIn K (.builtin "object.__class__") "__get__" = some (some (.builtin "getset_descriptor.__get__"))) (htk : PySem.W.takesIn K (.builtin "object.__class__") = some true)
      (hm : PySem.W.mroIn K C (.type "object") = some true) : TyOf K H (.ref a) (.ref C)
/-- isinstance(x, c) for one class c, a built-in or an own one: kitOne's answer -/
theorem isinst_ok {x : V} {u t : Value} (I : Inv X pins σ H s) (rx : RelV x u) (ty : TyOf X.K H x t) (e : PySem.W.kitOne X.K t c = some b) (h : ∀ tk, Q (.bool b) { s with toks := tk }) :
    wpAny (model X.prog X.w) A (call (.builtin "isinstance") [u, c]) Q E s := by
  cases ty with
  | non => cases (show u = Value.none from rx); exact PySem.W.kia_one PySem.W.kitx_none I.kIn True.intro e (fun z => nomatch z) h
  | bl y => cases (show u = Value.bool y from rx); exact PySem.W.kia_one PySem.W.kitx_bool I.kIn True.intro e (fun z => nomatch z) h
  | int i => obtain ⟨t, q⟩ := (show ∃ t, u = Value.int i t from rx); cases q; exact PySem.W.kia_one PySem.W.kitx_int I.kIn True.intro e (fun z => nomatch z) h
  | str y => obtain ⟨t, q⟩ := (show ∃ t, u = Value.str y t from rx); cases q; exact PySem.W.kia_one PySem.W.kitx_str I.kIn True.intro e (fun z => nomatch z) h
  | flt y => obtain ⟨t, q⟩ := (show ∃ t, u = Value.float y t from rx); cases q; exact PySem.W.kia_one PySem.W.kitx_float I.kIn True.intro e (fun z => nomatch z) h
  | @lst a xs ea =>
    cases (show u = Value.ref a from rx)
    obtain ⟨_, _, n, _, h1⟩ := (show ObjOk X.prog X.w H s.heap a (.lst xs) from I.hok a _ ea)
    exact PySem.W.kia_one PySem.W.kitx_list I.kIn ⟨_, h1, rfl⟩ e (fun z => nomatch z) h
  | @frz a ob xs ea =>
    cases (show u = Value.ref a from rx)
    obtain ⟨_, _, _, n, _, h1⟩ := (show ObjOk X.prog X.w H s.heap a (.frz ob (.lst xs)) from I.hok a _ ea)
    exact PySem.W.kia_one PySem.W.kitx_list I.kIn ⟨_, h1, rfl⟩ e (fun z => nomatch z) h
  | @tup a xs ea =>
    cases (show u = Value.ref a from rx)
    obtain ⟨_, _, _, p⟩ := (show ObjOk X.prog X.w H s.heap a (.tup xs) from I.hok a _ ea)
    obtain ⟨o, h1, h2, _⟩ := p
    exact PySem.W.kia_one PySem.W.kitx_tuple I.kIn ⟨o, h1, h2⟩ e (fun z => nomatch z) h
  | @dK a kvs ea =>
    cases (show u = Value.ref a from rx)
    obtain ⟨_, _, vs, _, p⟩ := (show ObjOk X.prog X.w H s.heap a (.dK kvs) from I.hok a _ ea)
    obtain ⟨o, es, ep, h1, h2, _⟩ := p
    exact PySem.W.kia_one PySem.W.kitx_dict I.kIn ⟨o, h1, h2.1⟩ e (fun z => nomatch z) h
  | @dT a kvs ea =>
    cases (show u = Value.ref a from rx)
    obtain ⟨_, _, xs, _, o, es, ep, h1, h2, _⟩ := (show ObjOk X.prog X.w H s.heap a (.dT kvs) from I.hok a _ ea)
    exact PySem.W.kia_one PySem.W.kitx_dict I.kIn ⟨o, h1, h2.1⟩ e (fun z => nomatch z) h
  | @ins a C dx fs ea cl ha hn htk hm =>
    cases (show u = Value.ref a from rx)
    obtain ⟨mA, O, _⟩ := ins_get I.hok ea
    obtain ⟨od, J, _⟩ := O.look
    exact PySem.W.kia_one (PySem.W.kitx_own (cl.get _) cl.hd ha hn htk hm) I.kIn J e (fun z => nomatch z) h
end
end L2

namespace L2
open PySem PySem.Spec PyProof.Rows

/-! ### room -/
structure Room (k : Nat) (A : Around) : Prop where
  hd : A.handled = none
  dp : A.depth + 3 * k + 5 < recursionLimit
  un : A.units + 16 * k + 200 < cLine
theorem Room.mono {j k : Nat} {A : Around} (r : Room k A) (h : j ≤ k) : Room j A := ⟨r.hd, by have := r.dp; omega, by have := r.un; omega⟩
theorem Room.deeper {k : Nat} {A : Around} (r : Room (k + 1) A) (env : Env) : Room k (A.deeper env) :=
  ⟨r.hd, by have := r.dp; show A.depth + 1 + 3 * k + 5 < _; omega, by have := r.un; show A.units + 3 + 16 * k + 200 < _; omega⟩
theorem Room.depth {k : Nat} {A : Around} (r : Room k A) : A.depth < recursionLimit := by have := r.dp; omega
theorem Room.units {k : Nat} {A : Around} (r : Room k A) : A.units + 64 < cLine := by have := r.un; omega
/-! ### argument lists and displays -/
def tNil : TA := fun _ H Q => Q [] H
def tCons (ta : TE) (tr : TA) : TA := fun σ H Q => ta σ H fun x H1 => tr σ H1 fun xs H2 => Q (x :: xs) H2
section
variable {X : Cx} {e : Expr} {es : List Expr} {te : TE} {t : TA} {pos : Pos}
theorem pa_nil : PA X [] tNil := fun _ _ _ _ H Q I h => Calls.spliced_nil ⟨[], H, I, .nil, h⟩
theorem pa_cons (ha : PE X e te) (hr : PA X es t) (hs : starEach (e :: es) X.env = (false, eval e X.env) :: starEach es X.env := by rfl) : PA X (e :: es) (tCons te t) := by
  intro pos pins s σ H Q I h
  rw [hs]
  show wpAny _ _ (spliced ((false, eval e X.env) :: backTo pos (starEach es X.env))) _ _ s
  refine Calls.spliced_cons (thn (ha pins s σ H _ I h) fun u s1 ⟨x, H1, I1, r1, q1⟩ => ?_)
  exact thn (hr pos pins s1 σ H1 _ I1 q1) fun us s2 ⟨xs, H2, I2, r2, q2⟩ => ⟨x :: xs, H2, I2, .cons r1 r2, q2⟩

/-- a tuple, a list of written items -/
def tTup (t : TA) : TE := fun σ H Q => t σ H fun xs H1 => xs.length ≤ sizeLine ∧ ∀ p, H1 p = none → Q (.ref p) (upd H1 p (.tup xs))
def tLst (t : TA) : TE := fun σ H Q => t σ H fun xs H1 => xs.length ≤ sizeLine ∧ ∀ p, H1 p = none → Q (.ref p) (upd H1 p (.lst xs))
theorem pe_tup {x1} (h : PA X es t) : PE X (.Tuple es x1 pos) (tTup t) := by
  intro pins s σ H Q I hq
  refine wpAny_Tuple_spliced (thn (h pos pins s σ H _ I hq) fun us s1 ⟨xs, H1, I1, r, z, q⟩ => ⟨by rw [← r.length]; exact z, ?_⟩)
  have hf : H1 s1.heap.objs.size = none := I1.hok.fresh (Nat.le_refl _)
  refine ⟨.ref s1.heap.objs.size, upd H1 s1.heap.objs.size (.tup xs), I1.laid (t' := s1.toks) (fun b u e => Heap.get?_push_of_some _ e) (Nat.le_refl _) ?_, rfl, q _ hf⟩
  exact ⟨z, us, r, ⟨_, Heap.get?_push_size _ rfl, rfl, _, rfl⟩⟩
theorem pe_lst (h : PA X es t) : PE X (.List es pos) (tLst t) := by
  intro pins s σ H Q I hq
  refine wpAny_List_spliced (thn (h pos pins s σ H _ I hq) fun us s1 ⟨xs, H1, I1, r, z, q⟩ => ⟨by rw [← r.length]; exact z, ?_⟩)
  have hf : H1 s1.heap.objs.size = none := I1.hok.fresh (Nat.le_refl _)
  refine ⟨.ref s1.heap.objs.size, upd H1 s1.heap.objs.size (.lst xs), I1.laid (t' := s1.toks) (fun b u e => Heap.get?_push_of_some _ e) (Nat.le_refl _) ?_, rfl, q _ hf⟩
  exact ⟨z, us, 0, r, Heap.get?_push_size _ rfl⟩
end

/-! ### what a def promises -/
/-- a def's promise: the bound arguments in the parameters' order, the heap, the wanted end, the wanted exception -/
abbrev Sp := List V → Hp → VK → XK → Prop
/-- how an exception lies behind a call (file 08 gives it): the callers' frames, abstract heap and state ahead of the call, the wish, the exception, the state -/
abbrev CXT := List Env → Hp → Shared → XK → Value → Shared → Prop

/-- the state at a call -/
structure Env0 (P : Program) (w : World) (K : PySem.W.Frag) (mg : Str → Option Value) (base : Heap) (A : Around) (outer : List Env) (s : Shared) (H : Hp) : Prop where
  frames : A.frames = some outer
  mod : Mod K mg base
  bs : ∀ b o, base.get? b = some o → s.heap.get? b = some o ∧ H b = none
  bsz : base.objs.size ≤ s.heap.objs.size
  funs : s.heap.FunFrames base outer
  frf : ∀ b ∈ frs outer, H b = none
  hok : HOk P w H s.heap
  bare : AllBare s.gens
/-- a call's end -/
def CE (outer : List Env) (P : Program) (w : World) (H : Hp) (s : Shared) (Q : VK) (u : Value) (s' : Shared) : Prop :=
  ∃ v H', s'.os = s.os ∧ AllBare s'.gens ∧ Un (frs outer) [] H H' s.heap s'.heap ∧ HOk P w H' s'.heap ∧ RelV v u ∧ Q v H'
def CR (CX : CXT) (outer : List Env) (P : Program) (w : World) (H : Hp) (s : Shared) (Q : VK) (E : XK) (r : Result) (s' : Shared) : Prop :=
  match r with
  | .ok (.ret u) => CE outer P w H s Q u s'
  | .ok _ => False
  | .error e => CX outer H s E e s'
structure FnOk (P : Program) (w : World) (K : PySem.W.Frag) (mg : Str → Option Value) (base : Heap) (CX : CXT) (k : Nat) (f : Addr) (fd : FuncData) (ps : List Str) (sp : Sp) : Prop where
  len : ∀ vs H Q E, sp vs H Q E → vs.length = ps.length
  run : ∀ (A : Around) (outer : List Env) (s : Shared) (H : Hp) (args : Args) (us : List Value) (vs : List V) (Q : VK) (E : XK), Room k A → Env0 P w K mg base A outer s H → BindsTo s fd args (ps.zip us) → Vals vs us → sp vs H Q E →
    codeAny (model P w) A (.call (.ref f) args) (CR CX outer P w H s Q E) s
section
variable {X : Cx} {pins : List (Addr × Obj)} {σ : St} {H : Hp} {s s' : Shared}
/-- from a body: what a callee wants -/
theorem Inv.env0 (I : Inv X pins σ H s) : Env0 X.prog X.w X.K X.mg X.base X.A X.stack s H :=
  ⟨I.ok.frames, I.ok.mod, I.bs, Nat.le_trans I.ok.bsz I.sz, I.stack, I.stkFree, I.hok, I.bare⟩
/-- behind a call -/
theorem Inv.after {Q : VK} {u : Value} (I : Inv X pins σ H s) (h : CE X.stack X.prog X.w H s Q u s') : EP X pins σ Q u s' := by
  obtain ⟨v, H', os, bare, un, hok, r, q⟩ := h
  obtain ⟨hh, g, d, t, os'⟩ := s'
  obtain rfl : os' = s.os := os
  exact ⟨v, H', I.call (h' := hh) (g' := g) (d' := d) (t' := t) (ch := []) un hok bare (fun b z => absurd z (by simp)), r, q⟩
end

/-! ### calls -/
/-- f(..): the written arguments, then the defaults dvs; E: what is wanted of an exception -/
def tCall (sp : Sp) (dvs : List V) (E : XK) (t : TA) : TE := fun σ H Q => t σ H fun vs H1 => sp (vs ++ dvs) H1 Q E
/-- o.m(..) of an instance of the class at C -/
def tMeth (C : Addr) (m : Str) (sp : Sp) (dvs : List V) (E : XK) (ta : TE) (t : TA) : TE := fun σ H Q => ta σ H fun x H1 => ∃ a dx fs, x = .ref a ∧ H1 a = some (.ins C dx fs) ∧ fs.lookup m = none ∧
  t σ H1 fun vs H2 => sp (x :: (vs ++ dvs)) H2 Q E
/-- C(..): a new instance and its dict, then __init__ -/
def tMake (C : Addr) (sp : Sp) (dvs : List V) (E : XK) (t : TA) : TE := fun σ H Q => t σ H fun vs H1 => ∀ x dx, H1 x = none → H1 dx = none → dx ≠ x →
  sp (.ref x :: (vs ++ dvs)) (upd (upd H1 dx (.own x)) x (.ins C dx [])) (fun v H2 => v = .non ∧ Q (.ref x) H2) E

/-- how the parameters are bound: us the positional arguments, kw the keywords' values by name, ds the defaults that fill up -/
def Binds (K : PySem.W.Frag) (fd : FuncData) (ps : List Str) (ds : List Value) : Prop :=
  ∀ (s : Shared) (us : List Value), K.In s.heap → (us ++ ds).length = ps.length → BindsTo s fd ⟨us, []⟩ (ps.zip (us ++ ds))
/-- every parameter is given -/
theorem Binds.all {K : PySem.W.Frag} {fd : FuncData} {ps : List Str} (h : ∀ us : List Value, us.length = ps.length → bindArgs fd ⟨us, []⟩ = pure (ps.zip us)) : Binds K fd ps [] := fun s us _ hl => by
  rw [List.append_nil] at hl ⊢
  exact .of_eq (h us hl)

/-- an exception of a callee reaches what this body wants of exceptions -/
def Passes (CX : CXT) (X : Cx) (E : XK) : Prop := ∀ (pins : List (Addr × Obj)) (σ : St) (H : Hp) (s : Shared) (e : Value) (s' : Shared), Inv X pins σ H s → CX X.stack H s E e s' → X.xe e s'

section
variable {X : Cx} {CX : CXT} {k : Nat} {f C : Addr} {fd : FuncData} {ps : List Str} {sp : Sp} {dvs : List V} {ds : List Value} {E : XK} {x m : Str} {p pos apos : Pos} {e o : Expr} {es : List Expr} {ta : TE} {t : TA}

/-- the callee runs -/
theorem run_fn {pins : List (Addr × Obj)} {σ : St} {H : Hp} {s : Shared} {Q : VK} {us : List Value} {vs : List V} (F : FnOk X.prog X.w X.K X.mg X.base CX k f fd ps sp) (hr : Room k X.A) (hb : Binds X.K fd ps ds) (hd : Vals dvs ds) (hx : Passes CX X E)
    (I : Inv X pins σ H s) (r : Vals vs us) (h : sp (vs ++ dvs) H Q E) : wpAny (model X.prog X.w) X.A (call (.ref f) us) (EP X pins σ Q) X.xe s := by
  have r2 : Vals (vs ++ dvs) (us ++ ds) := r.append hd
  have hl : (us ++ ds).length = ps.length := by rw [← r2.length]; exact F.len _ _ _ _ h
  refine wpAny_call (codeAny_mono (F.run X.A X.stack s H ⟨us, []⟩ (us ++ ds) (vs ++ dvs) Q E hr I.env0 (hb s us I.kIn hl) r2 h) fun r s' hq => ?_)
  cases r with
  | error e => exact hx pins σ H s e s' I hq
  | ok fl =>
    cases fl with
    | ret u => exact I.after hq
    | next => exact False.elim hq
    | brk => exact False.elim hq
    | cont => exact False.elim hq

theorem pe_call (F : FnOk X.prog X.w X.K X.mg X.base CX k f fd ps sp) (hr : Room k X.A) (hg : Gl X x) (hm : X.mg x = some (.ref f)) (hk : PySem.W.keepIn X.K (.ref f) = true) (hb : Binds X.K fd ps ds) (hd : Vals dvs ds) (hx : Passes CX X E)
    (ha : PA X (e :: es) t) (hdb : (x == ("__debug__" : Str)) = false := by decide) (he : starEach (e :: es) X.env = (false, eval e X.env) :: starEach es X.env := by rfl) (hpl : (backTo pos (starEach es X.env)).any (·.1) = false := by rfl) :
    PE X (.Call (.Name x p) (e :: es) [] pos) (tCall sp dvs E t) := by
  intro pins s σ H Q I h
  refine wpAny_Call_Name_kw (ld_glob I hg hm ?_ hdb)
  refine PySem.W.callWith_K (h₀ := X.base) I.ok.mod.kin hk (thn (ha pos pins s σ H _ I h) fun us s1 ⟨vs, H1, I1, r, q⟩ => ⟨I1.kIn, ?_⟩) he hpl
  exact run_fn F hr hb hd hx I1 r q
/-- what a class must have to be made -/
structure Mk (K : PySem.W.Frag) (C f : Addr) : Prop where
  makes : PySem.W.makesIn K C = true
  init : PySem.W.findIn K (.ref C) "__init__" = some (some (.ref f))
  fn : PySem.W.isFn K (.ref f) = true
  kp : PySem.W.keepIn K (.ref C) = true

end

/-! ### keywords -/
/-- the values of the keywords, from the left -/
def PK (X : Cx) (kws : List Keyword) (t : TA) : Prop :=
  ∀ (pos : Pos) (pins : List (Addr × Obj)) (s : Shared) (σ : St) (H : Hp) (Q : List V → Hp → Prop), Inv X pins σ H s → t σ H Q → wpAny (model X.prog X.w) X.A (evalAll ((backToKw pos (keywordEach kws X.env)).map (·.2))) (AP X pins σ Q) X.xe s
section
variable {X : Cx} {CX : CXT} {k : Nat} {f C : Addr} {fd : FuncData} {ps ks : List Str} {sp : Sp} {E : XK} {x m : Str} {p pos apos kpos : Pos} {e o : Expr} {es : List Expr} {kws : List Keyword} {te ta : TE} {t tk : TA} {nm : Option Str}
/-- how a call with keywords binds: g puts the positional values us and the keywords' values ws (names ks) in the parameters' order, defaults among them -/
structure KBinds (K : PySem.W.Frag) (fd : FuncData) (ps ks : List Str) (g : List Value → List Value → List Value) (gV : List V → List V → List V) : Prop where
  to : ∀ (s : Shared) (us ws : List Value), K.In s.heap → (g us ws).length = ps.length → BindsTo s fd ⟨us, ks.zip ws⟩ (ps.zip (g us ws))
  rel : ∀ {vs : List V} {us : List Value} {zs : List V} {ws : List Value}, Vals vs us → Vals zs ws → Vals (gV vs zs) (g us ws)
def tCallK (sp : Sp) (gV : List V → List V → List V) (E : XK) (t tk : TA) : TE := fun σ H Q => t σ H fun vs H1 => tk σ H1 fun zs H2 => sp (gV vs zs) H2 Q E
variable {g : List Value → List Value → List Value} {gV : List V → List V → List V}
end

/-! ### a def's body keeps its promise -/
/-- names: the parameters first -/
structure FnScope (N P : List Str) (sc : Scope) : Prop where
  kind : sc.kind = .function
  co : sc.isCoroutine = false
  gen : sc.isGenerator = false
  nd : N.Nodup
  pre : N.take P.length = P
  par : ∀ x ∈ P, sc.names.lookup x = some .local ∨ sc.names.lookup x = some .cell
  nofree : ∀ y ∈ sc.names, y.2 ≠ .free

theorem bindL_out {kindOf : Str → Option NameKind} {x : Str} : ∀ {binds : List (Str × Value)} {m : Str → Option Value}, (∀ v, (x, v) ∉ binds) → bindL kindOf binds m x = m x
  | [], _, _ => rfl
  | (n, v) :: r, m, h => by
    unfold bindL
    rw [bindL_out fun w hw => h w (List.mem_cons_of_mem _ hw)]
    split
    · have : x ≠ n := by rintro rfl; exact h v List.mem_cons_self
      simp [this]
    · rfl
theorem bindC_out {kindOf : Str → Option NameKind} {x : Str} : ∀ {binds : List (Str × Value)} {m : Str → Option Value}, (∀ v, (x, v) ∉ binds) → bindC kindOf binds m x = m x
  | [], _, _ => rfl
  | (n, v) :: r, m, h => by
    unfold bindC
    rw [bindC_out fun w hw => h w (List.mem_cons_of_mem _ hw)]
    split
    · rfl
    · have : x ≠ n := by rintro rfl; exact h v List.mem_cons_self
      simp [this]
theorem bindL_get {kindOf : Str → Option NameKind} {x : Str} {v : Value} : ∀ {P : List Str} {vs : List Value} {i : Nat} {m : Str → Option Value}, P.Nodup → P[i]? = some x → vs[i]? = some v → kindOf x = some .local →
    bindL kindOf (P.zip vs) m x = some v
  | [], _, _, _, _, h, _, _ => by simp at h
  | _ :: _, [], _, _, _, _, h, _ => by simp at h
  | p :: P, w :: vs, 0, m, nd, h1, h2, hk => by
    simp at h1 h2; subst h1; subst h2
    show bindL kindOf ((p, w) :: P.zip vs) m p = _
    unfold bindL
    rw [bindL_out fun v hv => (List.nodup_cons.mp nd).1 (List.of_mem_zip hv).1, if_pos hk]
    simp
  | p :: P, w :: vs, i + 1, m, nd, h1, h2, hk => by
    show bindL kindOf ((p, w) :: P.zip vs) m x = _
    unfold bindL
    exact bindL_get (i := i) (List.nodup_cons.mp nd).2 (by simpa using h1) (by simpa using h2) hk
theorem bindC_get {kindOf : Str → Option NameKind} {x : Str} {v : Value} : ∀ {P : List Str} {vs : List Value} {i : Nat} {m : Str → Option Value}, P.Nodup → P[i]? = some x → vs[i]? = some v → kindOf x ≠ some .local →
    bindC kindOf (P.zip vs) m x = some v
  | [], _, _, _, _, h, _, _ => by simp at h
  | _ :: _, [], _, _, _, _, h, _ => by simp at h
  | p :: P, w :: vs, 0, m, nd, h1, h2, hk => by
    simp at h1 h2; subst h1; subst h2
    show bindC kindOf ((p, w) :: P.zip vs) m p = _
    unfold bindC
    rw [bindC_out fun v hv => (List.nodup_cons.mp nd).1 (List.of_mem_zip hv).1, if_neg hk]
    simp
  | p :: P, w :: vs, i + 1, m, nd, h1, h2, hk => by
    show bindC kindOf ((p, w) :: P.zip vs) m x = _
    unfold bindC
    exact bindC_get (i := i) (List.nodup_cons.mp nd).2 (by simpa using h1) (by simpa using h2) hk

/-- the names' values at the entry -/
def start (N : List Str) (vs : List V) : St := vs.map some ++ List.replicate (N.length - vs.length) none

/-- the context of a def's body, at its entry; an exception leaves the frame, then lies as CX says -/
def cxOf (CX : CXT) (P : Program) (w : World) (K : PySem.W.Frag) (mg : Str → Option Value) (base : Heap) (N : List Str) (qual : Str) (scope : Scope) (f : Addr) (cd : Value) (A : Around) (outer : List Env) (s : Shared) (H : Hp) (E : XK) : Cx where
  prog := P
  w := w
  K := K
  mg := mg
  base := base
  A := A.deeper (envOfC qual scope s.heap.objs.size f cd)
  N := N
  s₀ := s
  H₀ := H
  env := envOfC qual scope s.heap.objs.size f cd
  outer := outer
  stack := envOfC qual scope s.heap.objs.size f cd :: outer
  ex := []
  calm := true
  fn := fun _ => true
  pn := []
  xe := fun e s' => wpAny (model P w) (A.deeper (envOfC qual scope s.heap.objs.size f cd)) (leaving (envOfC qual scope s.heap.objs.size f cd) e) (fun _ s'' => CX outer H s E e s'') (fun e' s'' => CX outer H s E e' s'') s'

theorem cell_has {sc : Scope} {n : Nat} {x : Str} (h : sc.names.lookup x = some .cell) : ∃ c, (cellsFrom n sc.names []).lookup x = some c := by
  have q := PySem.W.cellsFrom_some sc.names n [] (.inl h)
  exact Option.isSome_iff_exists.mp q

theorem inv_start {CX : CXT} {P : Program} {w : World} {K : PySem.W.Frag} {mg : Str → Option Value} {base : Heap} {N ps : List Str} {qual : Str} {scope : Scope} {f : Addr} {cd : Value} {A : Around} {outer : List Env} {s s1 : Shared} {H : Hp} {E : XK} {us : List Value} {vs : List V}
    (S : FnScope N ps scope) (hd : A.handled = none) (e0 : Env0 P w K mg base A outer s H) (hl : vs.length = ps.length) (r : Vals vs us)
    (x : InCallC s s.heap.objs.size (bindL (envOfC qual scope s.heap.objs.size f cd).kindOf (ps.zip us) fun _ => none) (cellsFrom (s.heap.objs.size + 1) scope.names []) (bindC (envOfC qual scope s.heap.objs.size f cd).kindOf (ps.zip us) fun _ => none) s1) :
    Inv (cxOf CX P w K mg base N qual scope f cd A outer s H E) [] (start N vs) H s1 := by
  have hpl : ps.length ≤ N.length := by have := congrArg List.length S.pre; rw [List.length_take] at this; omega
  obtain ⟨h1, tk, rfl, hk⟩ := x.done
  have noA : ∀ b : Addr, b ∉ (cxOf CX P w K mg base N qual scope f cd A outer s H E).ex := fun b z => absurd (show b ∈ ([] : List Addr) from z) (by simp)
  refine ⟨⟨e0.mod, S.kind, rfl, rfl, Nat.le_refl _, fun y z c h1 h2 => ?_, fun y hy => ?_, fun y c _ h => ?_, fun _ => hd, Around.frames_deeper e0.frames, .inr ⟨rfl, rfl⟩, fun b z => absurd z (noA b), e0.bs, e0.bsz, fun b _ _ => noA b, fun b z => absurd z (noA b), e0.funs, e0.frf⟩,
    rfl, e0.bare, Un.kept hk, ⟨_, x.toInCall.ns, fun i y v h1 h2 h3 => ?_⟩, fun y c h => ⟨_, x.cell y c h⟩, e0.hok.fresh (Nat.le_refl _), fun y c h => ?_, fun p hp => absurd (show p ∈ ([] : List (Addr × Obj)) from hp) (by simp), e0.hok.kept hk, ?_⟩
  · exact name_of_addr x.apart (PySem.mem_of_lookup h1) (PySem.mem_of_lookup h2)
  · have hy : scope.names.lookup y = some .cell ∨ scope.names.lookup y = some .free := hy
    rcases hy with hy | hy
    · exact cell_has hy
    · exact absurd rfl (S.nofree _ (PySem.mem_of_lookup hy))
  · exact Nat.le_of_lt (x.above y c (PySem.mem_of_lookup h))
  · have hi : i < vs.length := by
      unfold start at h2
      by_cases hi : i < vs.length
      · exact hi
      · rw [List.getElem?_append_right (by simpa using hi)] at h2
        rw [List.getElem?_replicate] at h2
        split at h2 <;> cases h2
    have ha : vs[i]? = some v := by
      unfold start at h2
      rw [List.getElem?_append_left (by simpa using hi), List.getElem?_map] at h2
      cases e : vs[i]? with
      | none => rw [e] at h2; cases h2
      | some a => rw [e] at h2; cases h2; rfl
    obtain ⟨u, hu, rv⟩ := r.get ha
    have hp : ps[i]? = some y := by
      rw [← S.pre, List.getElem?_take_of_lt (by omega)]; exact h1
    have ndP : ps.Nodup := by rw [← S.pre]; exact S.nd.sublist (List.take_sublist _ _)
    refine ⟨u, rv, ?_⟩
    rcases S.par y (List.mem_of_getElem? hp) with k | k
    · exact .inl ⟨k, bindL_get ndP hp hu k⟩
    · obtain ⟨c, e⟩ := cell_has (n := s.heap.objs.size + 1) k
      refine .inr ⟨.inl k, c, e, ?_⟩
      have q := x.cell y c e
      rw [bindC_get ndP hp hu (by show scope.names.lookup y ≠ _; rw [k]; decide)] at q
      exact q
  · exact e0.hok.fresh (Nat.le_of_lt (x.above y c (PySem.mem_of_lookup h)))
  · unfold start
    show _ = N.length
    rw [List.length_append, List.length_map, List.length_replicate]
    omega

/-- THE RULE: a def (or a method) of the text, by its body. The body's reading t is chosen for each entry; it is run at the parameters' values -/
theorem fn_of {CX : CXT} {P : Program} {w : World} {K : PySem.W.Frag} {mg : Str → Option Value} {base : Heap} {k : Nat} {f : Addr} {name qual : Str} {params : Arguments} {body : List Stmt} {scope : Scope} {dV kV doc pm cdv ct oc : Value} {an od : Option Addr}
    {osl : Array (Option Value)} {N ps : List Str} {sp : Sp} (lk : K.lookup f = some ⟨oc, od, .func (PySem.W.fnOf name qual params body scope dV kV doc pm an cdv ct), osl⟩) (hcd : PySem.W.codeIn K cdv qual = true) (S : FnScope N ps scope)
    (len : ∀ vs H Q E, sp vs H Q E → vs.length = ps.length)
    (hbody : ∀ (A : Around) (outer : List Env) (s : Shared) (H : Hp) (vs : List V) (Q : VK) (E : XK), Room k (A.deeper (envOfC qual scope s.heap.objs.size f cdv)) → sp vs H Q E →
      ∃ t, PSs (cxOf CX P w K mg base N qual scope f cdv A outer s H E) body t ∧ t { nx := fun _ H' => Q .non H', rt := Q } (start N vs) H) :
    FnOk P w K mg base CX (k + 1) f (PySem.W.fnOf name qual params body scope dV kV doc pm an cdv ct) ps sp := by
  refine ⟨len, fun A outer s H args us vs Q E hr e0 hb r hsp => ?_⟩
  have hl := len _ _ _ _ hsp
  have KX : K.In s.heap := e0.mod.kin.keeps fun b o e => (e0.bs b o e).1
  have lim : s.heap.NoLimit := e0.mod.nolimit.keeps fun b o e => (e0.bs b o e).1
  have hkind : ∀ y ∈ ps.zip us, scope.names.lookup y.1 = some .local ∨ (scope.names.lookup y.1 = some .cell ∧ ((cellsFrom (s.heap.objs.size + 1) scope.names []).lookup y.1).isSome = true) := fun ⟨n, v⟩ hy => by
    rcases S.par n (List.of_mem_zip hy).1 with q | q
    · exact .inl q
    · exact .inr ⟨q, PySem.W.cellsFrom_some _ _ _ (.inl q)⟩
  refine codeAny_call_function hr.depth (KX _ _ lk) rfl S.co S.gen rfl (PySem.W.codeRec_of KX hcd) (hb _ _ _ _ ?_)
  refine wpAny_newFunctionEnv_cells S.kind hkind fun env he s1 x => ?_
  subst he
  refine ⟨lim.keeps x.toInCall.keep, codeAny_func ?_⟩
  obtain ⟨t, ht, hq⟩ := hbody A outer s H vs Q E (hr.deeper _) hsp
  have I : Inv (cxOf CX P w K mg base N qual scope f cdv A outer s H E) [] (start N vs) H s1 := inv_start S hr.hd e0 hl r x
  refine wpAny_mono (ht [] s1 (start N vs) H _ I hq) (fun fl s' hs => ?_) fun e s' hs => hs
  have fin : ∀ {σ' : St} {H' : Hp} {v : V} {u : Value}, Inv (cxOf CX P w K mg base N qual scope f cdv A outer s H E) [] σ' H' s' → RelV v u → Q v H' → CE outer P w H s Q u s' :=
    fun {σ' H' v u} J rv q => ⟨v, H', J.os, J.bare, J.base, J.hok, rv, q⟩
  cases fl with
  | ret u =>
    obtain ⟨v, σ', H', J, rv, q⟩ := hs
    exact fin J rv q
  | next =>
    obtain ⟨σ', H', J, q⟩ := hs
    exact fin (v := V.non) (u := Value.none) J rfl q
  | brk =>
    obtain ⟨_, _, _, q⟩ := hs
    exact False.elim q
  | cont =>
    obtain ⟨_, _, _, q⟩ := hs
    exact False.elim q
end L2

namespace L2
open PySem PySem.Spec PyProof.Rows
section
variable {X : Cx} {x : Str} {p pos : Pos} {e : Expr} {es : List Expr} {t : TA} {id T : String} {r : List V → Hp → VK → Prop}

def tCB (r : List V → Hp → VK → Prop) (t : TA) : TE := fun σ H Q => t σ H fun vs H1 => r vs H1 Q
/-- f(e, ..), f a built-in function -/
theorem pe_callB (hc : CallR X (.builtin id) r) (hg : Gl X x) (hm : X.mg x = none) (hv : bootBuiltins x = some (.builtin id)) (ha : PA X (e :: es) t) (hn : x ≠ "__name__" := by decide) (hdb : (x == ("__debug__" : Str)) = false := by decide)
    (he : starEach (e :: es) X.env = (false, eval e X.env) :: starEach es X.env := by rfl) (hpl : (backTo pos (starEach es X.env)).any (·.1) = false := by rfl) : PE X (.Call (.Name x p) (e :: es) [] pos) (tCB r t) := by
  intro pins s σ H Q I h
  refine wpAny_Call_Name_kw (ld_blt I hg hm hv ?_ hn hdb)
  exact PyProof.Rows.callWith_builtin1 (thn (ha pos pins s σ H _ I h) fun us s1 ⟨vs, H1, I1, r1, q1⟩ => hc pins s1 σ H1 vs us Q I1 r1 q1) he hpl
/-- T(e, ..), T a built-in type -/
theorem pe_callTy (hc : CallR X (.type T) r) (hg : Gl X x) (hm : X.mg x = none) (hv : bootBuiltins x = some (.type T)) (ha : PA X (e :: es) t) (hn : x ≠ "__name__" := by decide) (hdb : (x == ("__debug__" : Str)) = false := by decide)
    (he : starEach (e :: es) X.env = (false, eval e X.env) :: starEach es X.env := by rfl) (hpl : (backTo pos (starEach es X.env)).any (·.1) = false := by rfl) : PE X (.Call (.Name x p) (e :: es) [] pos) (tCB r t) := by
  intro pins s σ H Q I h
  refine wpAny_Call_Name_kw (ld_blt I hg hm hv ?_ hn hdb)
  exact PyProof.Rows.callWith_type1 (thn (ha pos pins s σ H _ I h) fun us s1 ⟨vs, H1, I1, r1, q1⟩ => hc pins s1 σ H1 vs us Q I1 r1 q1) he hpl
end
end L2

namespace HT
open PySem PyProof.Rows

/-- t < u of tuples of ints -/
def lexLt : List Int → List Int → Bool
  | [], [] => false
  | [], _ :: _ => true
  | _ :: _, [] => false
  | x :: xs, y :: ys => if x = y then lexLt xs ys else decide (x < y)
section
open PySem.SeqAt
open PySem.AutoSeq1 (wpAny_loadPart')
open PySem.MeetsSeq PySem.MeetsSeq2 PySem.MeetsSeq3

end

section
variable {prog : Program} {w : World} {A : Around} {E : Value → Shared → Prop} {s : Shared}

/-! ### t[a:b], not the whole -/
/-- a slice's bound as a place among n (d where it is left out) -/
def sIx (n d : Nat) : Option Int → Nat
  | none => d
  | some v => if v < 0 then (v + (n : Int)).toNat else min v.toNat n
theorem sIx_none (n d : Nat) : sIx n d none = d := rfl
theorem sIx_nat (n d k : Nat) : sIx n d (some (k : Int)) = min k n := by
  show (if (k : Int) < 0 then ((k : Int) + (n : Int)).toNat else min (k : Int).toNat n) = min k n
  rw [if_neg (by omega), Int.toNat_natCast]
theorem sIx_le (n d : Nat) (hd : d ≤ n) (o : Option Int) : sIx n d o ≤ n := by
  cases o with
  | none => exact hd
  | some v =>
    show (if v < 0 then (v + (n : Int)).toNat else min v.toNat n) ≤ n
    by_cases hv : v < 0
    · rw [if_pos hv]; omega
    · rw [if_neg hv]; exact Nat.min_le_right _ _
theorem clip_eq (v : Int) (n d : Nat) : (if v < 0 then max (v + (n : Int)) 0 else min v (n : Int)) = ((sIx n d (some v) : Nat) : Int) := by
  show (if v < 0 then max (v + (n : Int)) 0 else min v (n : Int)) = (((if v < 0 then (v + (n : Int)).toNat else min v.toNat n) : Nat) : Int)
  by_cases hv : v < 0
  · simp only [if_pos hv]; omega
  · simp only [if_neg hv]; omega
theorem adjust_gen (lo hi : Option Int) (n : Nat) : Builtin.Slice.sliceAdjust lo hi 1 (n : Int) = (((sIx n 0 lo : Nat) : Int), ((sIx n n hi : Nat) : Int)) := by
  have h1 : ¬ ((1 : Int) < 0) := by omega
  unfold Builtin.Slice.sliceAdjust
  simp only [h1, if_false]
  refine Prod.ext ?_ ?_
  · cases lo with
    | none => rfl
    | some v => exact clip_eq v n 0
  · cases hi with
    | none => rfl
    | some v => exact clip_eq v n n
theorem places_gen (i j : Nat) : Builtin.Slice.slicePlaces (i : Int) (j : Int) 1 = j - i := by
  unfold Builtin.Slice.slicePlaces
  have h1 : (1 : Int) > 0 := by omega
  simp only [h1, if_true, Int.ediv_one]
  split <;> omega
theorem slicePart_ {v : Value} {o : Option Int} {Q : Option Int → Shared → Prop} (p : IsPart v o) (h : Q o s) : wpAny (model prog w) A (Builtin.Slice.slicePartIndex v) Q E s := by
  cases p with
  | none => exact slicePart_none h
  | int i t => exact slicePart_int h
theorem sliceApplied_gen {sl : Addr} {vl vu : Value} {lo hi : Option Int} {n : Nat} {Q : Int × Int × Nat → Shared → Prop} (hs : s.heap.IsSliceOf sl vl vu .none) (pl : IsPart vl lo) (pu : IsPart vu hi)
    (h : Q (((sIx n 0 lo : Nat) : Int), 1, sIx n n hi - sIx n 0 lo) s) : wpAny (model prog w) A (Builtin.Slice.sliceApplied (.ref sl) (pure (n : Int))) Q E s := by
  obtain ⟨os, hos, hcs, hds⟩ := id hs
  unfold Builtin.Slice.sliceApplied Builtin.Slice.sliceFields
  refine wpAny_bind (wpAny_bind (wpAny_field hos hds (x := vl) rfl (wpAny_bind (wpAny_field hos hds (x := vu) rfl (wpAny_bind (wpAny_field hos hds (x := .none) rfl (wpAny_pure ?_)))))))
  refine wpAny_bind (slicePart_none ?_)
  show wpAny _ _ (if ((1 : Int) == 0) = true then _ else _) _ _ s
  rw [if_neg (by decide)]
  refine wpAny_bind (slicePart_ pl (wpAny_bind (slicePart_ pu (wpAny_bind (wpAny_pure ?_)))))
  show wpAny _ _ (match Builtin.Slice.sliceAdjust lo hi 1 (n : Int) with | (lo, hi) => pure (lo, (1 : Int), Builtin.Slice.slicePlaces lo hi 1)) _ _ s
  rw [adjust_gen lo hi n]
  show wpAny _ _ (pure (((sIx n 0 lo : Nat) : Int), (1 : Int), Builtin.Slice.slicePlaces ((sIx n 0 lo : Nat) : Int) ((sIx n n hi : Nat) : Int) 1)) _ _ s
  rw [places_gen]
  exact wpAny_pure h
theorem pick_gen (xs : Array Value) (i k : Nat) : ((List.range k).filterMap fun (m : Nat) => xs[((i : Int) + (m : Int) * 1).toNat]?).toArray = ((xs.toList.drop i).take k).toArray := by
  have e : (fun (m : Nat) => xs[((i : Int) + (m : Int) * 1).toNat]?) = fun m => xs[i + m]? := by
    funext m
    have : ((i : Int) + (m : Int) * 1).toNat = i + m := by omega
    rw [this]
  rw [e]
  have := pick_run xs i k
  rw [List.filterMap_map] at this
  have e2 : ((fun x => xs[x]?) ∘ fun x => i + x) = fun m => xs[i + m]? := rfl
  rw [e2] at this
  rw [this]

theorem getItem_tuple_cut {t sl : Addr} {items : Array Value} {vl vu : Value} {lo hi : Option Int} {Q : Value → Shared → Prop} (ht : IsTup s.heap t items) (hs : s.heap.IsSliceOf sl vl vu .none) (pl : IsPart vl lo) (pu : IsPart vu hi)
    (hw : ¬ (sIx items.size 0 lo = 0 ∧ sIx items.size items.size hi = items.size))
    (h : Q (.ref s.heap.objs.size) { s with heap := s.heap.push { cls := .type "tuple", data := .seq ((items.toList.drop (sIx items.size 0 lo)).take (sIx items.size items.size hi - sIx items.size 0 lo)).toArray } })
    (hsz : items.size ≤ sizeLine) : wpAny (model prog w) A (getItem (.ref t) (.ref sl)) Q E s := by
  have htake : sizeOk (.seq ((items.toList.drop (sIx items.size 0 lo)).take (sIx items.size items.size hi - sIx items.size 0 lo)).toArray) := by
    show ((items.toList.drop (sIx items.size 0 lo)).take (sIx items.size items.size hi - sIx items.size 0 lo)).toArray.size ≤ sizeLine
    rw [List.size_toArray, List.length_take, List.length_drop, Array.length_toList]
    omega
  have hj : sIx items.size items.size hi ≤ items.size := sIx_le _ _ (Nat.le_refl _) hi
  obtain ⟨os, hos, hcs, hds⟩ := id hs
  have hTs : s.TypeIs (.ref sl) "slice" := ⟨os, hos, hcs⟩
  unfold getItem
  try with_reducible refine wpAny_holding ?_
  first | refine wpAny_bind (wpAny_pure ?_) | skip
  refine wpAny_bind (wpAny_sequenceKey ht.typeIs (by decide) ?_)
  refine wpAny_bind (wpAny_callSpecial?_slot (name := Str.ofString "__getitem__") ht.typeIs PyProof.Rows.slot_tuple_getitem
    (wpAny_call_entry PyProof.Rows.slot_tuple_getitem ht.typeIs entry_tuple_getitem ?_ (args_tuple_getitem _ _)))
  show wpAny _ _ (Builtin.Tuple.tupleItemsOf (.ref t) >>= _) _ _ s
  refine wpAny_bind (tupleItemsOf_ ht ?_)
  refine wpAny_bind (wpAny_typeOf hTs ?_)
  rw [if_pos (by decide)]
  refine wpAny_bind (sliceApplied_gen hs pl pu ?_)
  have hno : ¬ ((((sIx items.size 0 lo : Nat) : Int) == 0 && (1 : Int) == 1 && (sIx items.size items.size hi - sIx items.size 0 lo) == items.size) = true) := by
    intro q
    rw [Bool.and_eq_true, Bool.and_eq_true] at q
    have q1 : ((sIx items.size 0 lo : Nat) : Int) = 0 := eq_of_beq q.1.1
    have q2 : sIx items.size items.size hi - sIx items.size 0 lo = items.size := eq_of_beq q.2
    exact hw ⟨by omega, by omega⟩
  show wpAny _ _ (if (((sIx items.size 0 lo : Nat) : Int) == 0 && (1 : Int) == 1 && (sIx items.size items.size hi - sIx items.size 0 lo) == items.size) = true then _ else _) _ _ s
  rw [if_neg hno, pick_gen]
  first
    | exact wpAny_bind (m := Builtin.Tuple.tupleExact _) (wpAny_newObj_type (wpAny_pure ⟨_, rfl, wpAny_pure h⟩) htake)
    | exact wpAny_bind (m := Builtin.Tuple.tupleExact _) (wpAny_newObj_type (wpAny_bind (wpAny_pure (wpAny_pure ⟨_, rfl, wpAny_pure h⟩))) htake)
    | exact wpAny_bind (wpAny_bind (m := Builtin.Tuple.tupleExact _) (wpAny_newObj_type (wpAny_pure (wpAny_pure ⟨_, rfl, wpAny_pure h⟩)) htake))
    | exact wpAny_bind (wpAny_bind (m := Builtin.Tuple.tupleExact _) (wpAny_newObj_type (wpAny_pure ⟨_, rfl, wpAny_pure h⟩) htake))
end
end HT

namespace L2
open PySem PySem.Spec PyProof.Rows

/-! ### the parts of a slice -/
abbrev TO := St → Hp → (Option Int → Hp → Prop) → Prop
/-- a slice's part (left out, or an int) -/
def PO (X : Cx) (e : Option Expr) (t : TO) : Prop :=
  ∀ (pins : List (Addr × Obj)) (s : Shared) (σ : St) (H : Hp) (Q : Option Int → Hp → Prop), Inv X pins σ H s → t σ H Q →
    wpAny (model X.prog X.w) X.A (evalPart e X.env) (fun u s' => ∃ o H', Inv X pins σ H' s' ∧ IsPart u o ∧ Q o H') X.xe s
def tNoPart : TO := fun _ H Q => Q none H
def tPart (t : TE) : TO := fun σ H Q => t σ H fun x H1 => ∃ i, x = .int i ∧ Q (some i) H1

section
variable {X : Cx} {e : Expr} {te : TE} {lo hi : Option Expr} {tl th : TO} {pos p2 : Pos}

theorem po_none : PO X none tNoPart := by
  intro pins s σ H Q I h
  rw [evalPart_none]
  exact wpAny_pure ⟨none, H, I, .none, h⟩
theorem po_some (h : PE X e te) : PO X (some e) (tPart te) := by
  intro pins s σ H Q I hw
  rw [evalPart_some]
  refine thn (h pins s σ H _ I hw) fun u s1 ⟨x, H1, I1, r1, q1⟩ => ?_
  obtain ⟨i, rfl, q⟩ := q1
  obtain ⟨t, rfl⟩ := r1
  exact ⟨some i, H1, I1, .int i t, q⟩

/-- what a slice of a value is, by values: the slice object stands at sl -/
def SlR (X : Cx) (r : V → Option Int → Option Int → Hp → VK → Prop) : Prop :=
  ∀ (pins : List (Addr × Obj)) (s : Shared) (σ : St) (H : Hp) (x : V) (v vl vu : Value) (lo hi : Option Int) (sl : Addr) (Q : VK), Inv X pins σ H s → RelV x v → s.heap.IsSliceOf sl vl vu .none → IsPart vl lo → IsPart vu hi → r x lo hi H Q →
    ∃ T id, typeLookup (.type T) "__getitem__" = pure (some (.builtin id)) ∧ s.TypeIs v T ∧ wpAny (model X.prog X.w) X.A (getItem v (.ref sl)) (EP X pins σ Q) X.xe s
def tSl (r : V → Option Int → Option Int → Hp → VK → Prop) (te : TE) (tl th : TO) : TE := fun σ H Q => te σ H fun x H1 => tl σ H1 fun l H2 => th σ H2 fun u H3 => r x l u H3 Q
/-- a[lo:hi], any a -/
theorem pe_slice {r : V → Option Int → Option Int → Hp → VK → Prop} (hr : SlR X r) (he : PE X e te) (hl : PO X lo tl) (hu : PO X hi th) : PE X (.Subscript e (.Slice lo hi none p2) pos) (tSl r te tl th) := by
  intro pins s σ H Q I h
  refine Subscript_ (thn (he pins s σ H _ I h) fun v s1 ⟨x, H1, I1, r1, q1⟩ => ?_)
  refine wpAny_Slice (thn (hl pins s1 σ H1 _ I1 q1) fun vl s2 ⟨l, H2, I2, pl, q2⟩ => thn (hu pins s2 σ H2 _ I2 q2) fun vu s3 ⟨u, H3, I3, pu, q3⟩ => ?_)
  rw [evalPart_none]
  refine wpAny_pure ?_
  have I4 : Inv X pins σ H3 { s3 with heap := s3.heap.push { cls := .type "slice", data := .fields #[vl, vu, .none] } } := I3.kept (t' := s3.toks) fun b ob q => Heap.get?_push_of_some _ q
  obtain ⟨T, id, hT, ht, hg⟩ := hr pins { s3 with heap := s3.heap.push { cls := .type "slice", data := .fields #[vl, vu, .none] } } σ H3 x v vl vu l u s3.heap.objs.size Q I4 r1 (Heap.IsSliceOf.new ..) pl pu q3
  show wpAny (model X.prog X.w) X.A (subscriptTail e (.Slice lo hi none p2) v (.ref s3.heap.objs.size)) (EP X pins σ Q) X.xe { s3 with heap := s3.heap.push { cls := .type "slice", data := .fields #[vl, vu, .none] } }
  exact tail_any (ops := [.ref s3.heap.objs.size, v]) ht hT hg (by with_unfolding_all rfl)

/-- the items of xs[lo:hi] -/
def cutV (xs : List V) (lo hi : Option Int) : List V := (xs.drop (HT.sIx xs.length 0 lo)).take (HT.sIx xs.length xs.length hi - HT.sIx xs.length 0 lo)
theorem cutV_length (xs : List V) (lo hi : Option Int) : (cutV xs lo hi).length ≤ xs.length := by
  unfold cutV
  rw [List.length_take, List.length_drop]
  omega
/-- t[lo:hi], not the whole of it (the whole would be t itself) -/
def rSlT (K : PySem.W.Frag) : V → Option Int → Option Int → Hp → VK → Prop := fun x lo hi H Q => ∃ a xs, x = .ref a ∧ SqT K H a xs ∧
  ¬ (HT.sIx xs.length 0 lo = 0 ∧ HT.sIx xs.length xs.length hi = xs.length) ∧ ∀ p, H p = none → Q (.ref p) (upd H p (.tup (cutV xs lo hi)))
theorem sl_tup : SlR X (rSlT X.K) := by
  intro pins s σ H x v vl vu lo hi sl Q I rx hs pl pu h
  obtain ⟨a, xs, rfl, hx, hw, q⟩ := h
  cases rx
  obtain ⟨its, r, ht, hz⟩ := I.tuple hx
  have hlen : its.toArray.size = xs.length := by rw [List.size_toArray]; exact r.length.symm
  refine ⟨"tuple", _, PyProof.Rows.slot_tuple_getitem.lookup, ht.typeIs, ?_⟩
  refine HT.getItem_tuple_cut ht hs pl pu (by rw [hlen]; exact hw) ?_ (by rw [hlen]; exact hz)
  rw [hlen]
  refine ⟨.ref s.heap.objs.size, _, I.laid (t' := s.toks) (o := .tup (cutV xs lo hi)) (fun b ob q => Heap.get?_push_of_some _ q) (Nat.le_refl _) ?_, rfl, q _ (I.hok.fresh (Nat.le_refl _))⟩
  exact ⟨Nat.le_trans (cutV_length xs lo hi) hz, _, (r.drop (HT.sIx xs.length 0 lo)).take (HT.sIx xs.length xs.length hi - HT.sIx xs.length 0 lo), IsTup.new _ _⟩

/-! ### t < u, t + u -/
def rLtT (K : PySem.W.Frag) : R2 := fun x y H Q => ∃ a b ns ms, x = .ref a ∧ y = .ref b ∧ SqT K H a (ns.map V.int) ∧ SqT K H b (ms.map V.int) ∧ Q (.bl (HT.lexLt ns ms)) H
/-- t + u, t not empty: u empty gives t itself -/
def rCatT (K : PySem.W.Frag) : R2 := fun x y H Q => ∃ a b xs ys, x = .ref a ∧ y = .ref b ∧ SqT K H a xs ∧ SqT K H b ys ∧ xs ≠ [] ∧ xs.length + ys.length ≤ sizeLine ∧
  (ys = [] → Q (.ref a) H) ∧ (ys ≠ [] → ∀ p, H p = none → Q (.ref p) (upd H p (.tup (xs ++ ys))))
end
end L2

namespace L2
open PySem PySem.Spec PyProof.Rows

/-! ### places -/
/-- the place that an index of any sign means -/
def ixN (n : Nat) (i : Int) : Option Nat := if 0 ≤ i then (if i < n then some i.toNat else none) else if -(n : Int) ≤ i then some (i + n).toNat else none
def atI {α : Type} (xs : List α) (i : Int) : Option α := (ixN xs.length i).bind fun j => xs[j]?
theorem ixN_seq {n : Nat} {i : Int} {j : Nat} (h : ixN n i = some j) : seqIndex? i n = some j ∧ j < n ∧ -(n : Int) ≤ i ∧ i < n := by
  unfold ixN at h
  by_cases h0 : 0 ≤ i
  · rw [if_pos h0] at h
    by_cases h1 : i < n
    · rw [if_pos h1] at h
      have e : i.toNat = j := Option.some.inj h
      exact ⟨by rw [seqIndex_of h0 h1, e], by omega, by omega, h1⟩
    · rw [if_neg h1] at h; cases h
  · rw [if_neg h0] at h
    by_cases h1 : -(n : Int) ≤ i
    · rw [if_pos h1] at h
      have e : (i + n).toNat = j := Option.some.inj h
      exact ⟨by rw [seqIndex_neg (by omega) h1, e], by omega, h1, by omega⟩
    · rw [if_neg h1] at h; cases h
theorem atI_get {α : Type} {xs : List α} {i : Int} {v : α} (h : atI xs i = some v) : ∃ j, seqIndex? i xs.length = some j ∧ xs[j]? = some v ∧ j < xs.length ∧ -(xs.length : Int) ≤ i ∧ i < xs.length := by
  unfold atI at h
  cases e : ixN xs.length i with
  | none => rw [e] at h; cases h
  | some j =>
    rw [e] at h
    obtain ⟨h1, h2, h3, h4⟩ := ixN_seq e
    exact ⟨j, h1, h, h2, h3, h4⟩
theorem atI_nat {α : Type} {xs : List α} {j : Nat} {v : α} (h : xs[j]? = some v) : atI xs (j : Int) = some v := by
  have hj : j < xs.length := (List.getElem?_eq_some_iff.mp h).1
  have e : ixN xs.length (j : Int) = some j := by
    unfold ixN
    rw [if_pos (by omega), if_pos (by omega)]; simp
  unfold atI; rw [e]; exact h
theorem atI_last {α : Type} (xs : List α) (v : α) : atI (xs ++ [v]) (-1) = some v := by
  have hl : (xs ++ [v]).length = xs.length + 1 := by simp
  have e : ixN (xs ++ [v]).length (-1) = some xs.length := by
    unfold ixN
    rw [hl, if_neg (by decide), if_pos (by omega)]
    congr 1
    omega
  unfold atI
  rw [e]
  show (xs ++ [v])[xs.length]? = some v
  simp

/-! ### what may be subscripted -/
/-- what stands as an index of a plain subscript -/
def PlainIx (b : Expr) : Prop := ∀ o i, subscripted b false o i = operate [o, i] (getItem o i)
/-- a subscript by values -/
def IxR (X : Cx) (r : R2) : Prop :=
  ∀ (value slice : Expr) (pins : List (Addr × Obj)) (s : Shared) (σ : St) (H : Hp) (x y : V) (v u : Value) (Q : VK), Inv X pins σ H s → RelV x v → RelV y u → r x y H Q →
    subscripted slice false v u = operate [v, u] (getItem v u) → wpAny (model X.prog X.w) X.A (subscriptTail value slice v u) (EP X pins σ Q) X.xe s
/-- a call of a builtin's method by values: the receiver, the arguments -/
def MtR (X : Cx) (id : String) (r : V → List V → Hp → VK → Prop) : Prop :=
  ∀ (pins : List (Addr × Obj)) (s : Shared) (σ : St) (H : Hp) (x : V) (xs : List V) (v : Value) (us : List Value) (Q : VK), Inv X pins σ H s → RelV x v → Vals xs us → r x xs H Q →
    wpAny (model X.prog X.w) X.A (call (.builtin id) (v :: us)) (EP X pins σ Q) X.xe s
section
variable {X : Cx} {a b : Expr} {ta tb : TE} {pos : Pos}
/-- a[b] -/
theorem pe_ix {r : R2} (hr : IxR X r) (ha : PE X a ta) (hb : PE X b tb) (hs : PlainIx b) : PE X (.Subscript a b pos) (tOp r ta tb) := by
  intro pins s σ H Q I h
  exact Subscript_ (binT ha hb I h fun v u s2 x y H2 I2 rx ry q => hr a b pins s2 σ H2 x y v u Q I2 rx ry q (hs _ _))

def rIxL (K : PySem.W.Frag) : R2 := fun x y H Q => ∃ p xs i v, x = .ref p ∧ y = .int i ∧ SqL K H p xs ∧ atI xs i = some v ∧ Q v H
def rIxT (K : PySem.W.Frag) : R2 := fun x y H Q => ∃ p xs i v, x = .ref p ∧ y = .int i ∧ SqT K H p xs ∧ atI xs i = some v ∧ Q v H
def rIxS : R2 := fun x y H Q => ∃ z i c, x = .str z ∧ y = .int i ∧ z.length ≤ sizeLine ∧ atI z.cps.toList i = some c ∧ Q (.str ⟨#[c]⟩) H
theorem ix_list : IxR X (rIxL X.K) := by
  intro value slice pins s σ H x y v u Q I rx ry h hs
  obtain ⟨p, xs, i, z, rfl, rfl, hq, he, q⟩ := h
  cases rx
  obtain ⟨t, rfl⟩ := ry
  obtain ⟨its, r, pl, hz⟩ := I.list hq
  obtain ⟨j, h1, h2, h3, h4, h5⟩ := atI_get he
  obtain ⟨w, ew, rw'⟩ := r.get h2
  have hl := r.length
  have hn := line63
  have fin : EP X pins σ Q w s := ⟨z, H, I, rw', q⟩
  by_cases h0 : 0 ≤ i
  · have hj : i.toNat = j := by
      rw [seqIndex_of h0 h5] at h1
      exact Option.some.inj h1
    exact item_listR pl.isList h0 (by omega) (by rw [hj]; simpa using ew) fin hs
  · have hj : (i + (its.toArray.size : Int)).toNat = j := by
      rw [seqIndex_neg (by omega) h4] at h1
      rw [List.size_toArray, ← hl]
      exact Option.some.inj h1
    exact subscriptTail_builtinR (x := w) pl.isList.typeIs slot_list_getitem.lookup
      (wpAny_getItem_list_neg (Q := fun r s' => r = w ∧ EP X pins σ Q r s') pl.isList (by omega) (by rw [List.size_toArray] <;> omega) (by omega) (by rw [hj]; simpa using ew) ⟨rfl, fin⟩) hs
theorem ix_tup : IxR X (rIxT X.K) := by
  intro value slice pins s σ H x y v u Q I rx ry h hs
  obtain ⟨p, xs, i, z, rfl, rfl, hq, he, q⟩ := h
  cases rx
  obtain ⟨t, rfl⟩ := ry
  obtain ⟨its, r, pl, hz⟩ := I.tuple hq
  obtain ⟨j, h1, h2, h3, h4, h5⟩ := atI_get he
  obtain ⟨w, ew, rw'⟩ := r.get h2
  have hl := r.length
  have hn := line63
  have fin : EP X pins σ Q w s := ⟨z, H, I, rw', q⟩
  exact subscriptTail_builtinR (x := w) pl.typeIs slot_tuple_getitem.lookup
    (getItem_tuple (j := j) (Q := fun r s' => r = w ∧ EP X pins σ Q r s') pl (by omega) (by omega) (by rw [List.size_toArray, ← hl]; exact h1) (by simpa using ew) ⟨rfl, fin⟩) hs
/-- list, tuple or str -/
def rIx (K : PySem.W.Frag) : R2 := fun x y H Q => rIxL K x y H Q ∨ rIxT K x y H Q ∨ rIxS x y H Q
/-! ### xs[i] = v, any sign -/
/-- the list's object behind a store -/
theorem mapSeq_set (its : List Value) (n j : Nat) (u : Value) : Obj.mapSeq (·.setIfInBounds j u) { cls := .type "list", data := .seq its.toArray n } = { cls := .type "list", data := .seq (its.set j u).toArray n } := by
  simp [Obj.mapSeq]
theorem Inv.lst {pins : List (Addr × Obj)} {σ : St} {H : Hp} {s : Shared} {p : Addr} {xs : List V} (I : Inv X pins σ H s) (h : H p = some (.lst xs)) :
    ∃ (its : List Value) (n : Nat), Vals xs its ∧ s.heap.get? p = some { cls := .type "list", data := .seq its.toArray n } ∧ xs.length ≤ sizeLine := by
  obtain ⟨z, its, n, r, e⟩ := I.hok p _ h
  exact ⟨its, n, r, e, z⟩
/-- the list at p is written by an update of its object -/
theorem Inv.lstUpd {pins : List (Addr × Obj)} {σ : St} {H : Hp} {s : Shared} {p : Addr} {xs ys : List V} {its its' : List Value} {n n' : Nat} {f : Obj → Obj} (I : Inv X pins σ H s) (h : H p = some (.lst xs))
    (ho : s.heap.get? p = some { cls := .type "list", data := .seq its.toArray n }) (hf : f { cls := .type "list", data := .seq its.toArray n } = { cls := .type "list", data := .seq its'.toArray n' }) (r : Vals ys its') (hz : ys.length ≤ sizeLine) (t : Nat) :
    Inv X pins σ (upd H p (.lst ys)) { s with heap := s.heap.update p f, toks := t } := by
  have e : (s.heap.update p f).get? p = some { cls := .type "list", data := .seq its'.toArray n' } := by
    rw [Heap.get?_update_self f ho (by rw [hf] <;> rfl), hf]
  refine I.write (x := p) (e := p) (by rw [h]; trivial) (.inl rfl) (fun b u hb q => (Heap.get?_update_other _ _ (Ne.symm hb)).trans q) ⟨_, e⟩ ?_
  exact ⟨hz, its', n', r, e⟩
def rSetL : V → V → V → Hp → (Hp → Prop) → Prop := fun o i v H Q => ∃ p xs k j, o = .ref p ∧ i = .int k ∧ H p = some (.lst xs) ∧ ixN xs.length k = some j ∧ Q (upd H p (.lst (xs.set j v)))
theorem set_list : PSet X rSetL := by
  intro pins s σ H o i v ov iv u Q I ro ri rv h
  obtain ⟨p, xs, k, j, rfl, rfl, hp, hj, q⟩ := h
  cases ro
  obtain ⟨t, rfl⟩ := ri
  obtain ⟨its, n, r, ho, hz⟩ := I.lst hp
  obtain ⟨h1, h2, h3, h4⟩ := ixN_seq hj
  have hl := r.length
  have hn := line63
  have I' : Inv X pins σ (upd H p (.lst (xs.set j v))) { s with heap := s.heap.update p (Obj.mapSeq (·.setIfInBounds j u)) } :=
    I.lstUpd hp ho (mapSeq_set its n j u) (r.set rv j) (by rw [List.length_set]; exact hz) s.toks
  by_cases h0 : 0 ≤ k
  · have hk : k.toNat = j := by
      rw [seqIndex_of h0 h4] at h1
      exact Option.some.inj h1
    exact PySem.W.ki_setAt ho h0 (by omega) (by rw [List.size_toArray, ← hl]; exact h4) (by rw [hk]; exact ⟨_, I', q⟩)
  · have hk : (k + (its.toArray.size : Int)).toNat = j := by
      rw [seqIndex_neg (by omega) h3] at h1
      rw [List.size_toArray, ← hl]
      exact Option.some.inj h1
    exact PySem.W.ki_setBack ho (by omega) (by rw [List.size_toArray, ← hl]; exact h3) (by omega) (by rw [hk]; exact ⟨_, I', q⟩)

/-! ### slices -/
theorem slice_bounds (lo hi : Option Int) (n : Nat) : (sliceBounds lo hi none n).1 = ((HT.sIx n 0 lo : Nat) : Int) ∧ (sliceBounds lo hi none n).2.1 = ((HT.sIx n n hi : Nat) : Int) ∧ (sliceBounds lo hi none n).2.2 = 1 := by
  refine ⟨?_, ?_, rfl⟩
  · cases lo with
    | none => simp [sliceBounds, HT.sIx]
    | some i =>
      simp only [sliceBounds, HT.sIx, Option.getD_none, show (1 : Int) > 0 by decide, if_true]
      by_cases h : i < 0
      · simp only [h, if_true] <;> omega
      · simp only [h, if_false] <;> omega
  · cases hi with
    | none => simp [sliceBounds, HT.sIx]
    | some i =>
      simp only [sliceBounds, HT.sIx, Option.getD_none, show (1 : Int) > 0 by decide, if_true]
      by_cases h : i < 0
      · simp only [h, if_true] <;> omega
      · simp only [h, if_false] <;> omega
theorem slicePick_cut (its : List Value) (lo hi : Option Int) : slicePick its.toArray lo hi none = ((its.drop (HT.sIx its.length 0 lo)).take (HT.sIx its.length its.length hi - HT.sIx its.length 0 lo)).toArray := by
  obtain ⟨h1, h2, h3⟩ := slice_bounds lo hi its.toArray.size
  unfold slicePick
  rw [h1, h2, h3]
  simp only [sliceRange_one, pick_run, List.size_toArray] <;> rfl
/-- xs[lo:hi] of a list: a new list -/
def rSlL (K : PySem.W.Frag) : V → Option Int → Option Int → Hp → VK → Prop := fun x lo hi H Q => ∃ a xs, x = .ref a ∧ SqL K H a xs ∧ ∀ p, H p = none → Q (.ref p) (upd H p (.lst (cutV xs lo hi)))
theorem sl_list : SlR X (rSlL X.K) := by
  intro pins s σ H x v vl vu lo hi sl Q I rx hs pl pu h
  obtain ⟨a, xs, rfl, hx, q⟩ := h
  cases rx
  obtain ⟨its, r, ht, hz⟩ := I.list hx
  have hlen := r.length
  refine ⟨"list", _, slot_list_getitem.lookup, ht.isList.typeIs, ?_⟩
  refine wpAny_getItem_list_slice ht.isList hs pl pu .none (by simp) ?_ (by rw [List.size_toArray] <;> omega)
  rw [slicePick_cut, ← hlen]
  refine ⟨.ref s.heap.objs.size, _, I.laid (t' := s.toks) (o := .lst (cutV xs lo hi)) (fun b ob q => Heap.get?_push_of_some _ q) (Nat.le_refl _) ?_, rfl, q _ (I.hok.fresh (Nat.le_refl _))⟩
  exact ⟨Nat.le_trans (cutV_length xs lo hi) hz, _, 0, (r.drop (HT.sIx xs.length 0 lo)).take (HT.sIx xs.length xs.length hi - HT.sIx xs.length 0 lo), Heap.get?_push_size _ rfl⟩

/-! ### in, not in: flat items -/
def flatV : V → Bool
  | .non => true
  | .bl _ => true
  | .int _ => true
  | .str _ => true
  | _ => false
/-- == of flat values -/
def eqV : V → V → Bool
  | .non, .non => true
  | .bl a, .bl b => a == b
  | .bl a, .int b => (if a then 1 else 0) == b
  | .int a, .bl b => a == (if b then 1 else 0)
  | .int a, .int b => a == b
  | .str a, .str b => a == b
  | _, _ => false
theorem eqAt_V {A : Around} {s : Shared} {y x : V} {u v : Value} (ry : RelV y u) (rx : RelV x v) (fy : flatV y = true) (fx : flatV x = true) : SeqAt.EqAt A s u v (eqV y x) := by
  cases y with
  | non =>
    cases ry
    cases x with
    | non => cases rx; exact SeqAt.EqAt.same _
    | bl b => cases rx; exact SeqAt.EqAt.none_bool b
    | int b => obtain ⟨t, rfl⟩ := rx; exact SeqAt.EqAt.none_int b t
    | str b => obtain ⟨t, rfl⟩ := rx; exact SeqAt.EqAt.none_str b t
    | _ => exact absurd (show false = true from fx) Bool.false_ne_true
  | bl a =>
    cases ry
    cases x with
    | non => cases rx; exact SeqAt.EqAt.bool_none a
    | bl b => cases rx; exact SeqAt.EqAt.bool_bool a b
    | int b => obtain ⟨t, rfl⟩ := rx; exact SeqAt.EqAt.bool_int a b t
    | str b => obtain ⟨t, rfl⟩ := rx; exact SeqAt.EqAt.bool_str a b t
    | _ => exact absurd (show false = true from fx) Bool.false_ne_true
  | int a =>
    obtain ⟨t', rfl⟩ := ry
    cases x with
    | non => cases rx; exact SeqAt.EqAt.int_none a t'
    | bl b => cases rx; exact SeqAt.EqAt.int_bool a t' b
    | int b => obtain ⟨t, rfl⟩ := rx; exact SeqAt.EqAt.int_int a t' b t
    | str b => obtain ⟨t, rfl⟩ := rx; exact SeqAt.EqAt.int_str a t' b t
    | _ => exact absurd (show false = true from fx) Bool.false_ne_true
  | str a =>
    obtain ⟨t', rfl⟩ := ry
    cases x with
    | non => cases rx; exact SeqAt.EqAt.str_none a t'
    | bl b => cases rx; exact SeqAt.EqAt.str_bool a t' b
    | int b => obtain ⟨t, rfl⟩ := rx; exact SeqAt.EqAt.str_int a t' b t
    | str b => obtain ⟨t, rfl⟩ := rx; exact SeqAt.EqAt.str_str a t' b t
    | _ => exact absurd (show false = true from fx) Bool.false_ne_true
  | _ => exact absurd (show false = true from fy) Bool.false_ne_true
/-- the items' answers, read off the values (a value's own answer does not lean on its token) -/
def eqU (x : V) (u : Value) : Bool := match u with
  | .none => eqV .non x
  | .bool b => eqV (.bl b) x
  | .int i _ => eqV (.int i) x
  | .str z _ => eqV (.str z) x
  | _ => false
theorem eqU_of {x y : V} {u : Value} (r : RelV y u) (f : flatV y = true) : eqU x u = eqV y x := by
  cases y with
  | non => cases r; rfl
  | bl b => cases r; rfl
  | int i => obtain ⟨t, rfl⟩ := r; rfl
  | str z => obtain ⟨t, rfl⟩ := r; rfl
  | _ => exact absurd (show false = true from f) Bool.false_ne_true
theorem any_eqU {x : V} : ∀ {xs : List V} {us : List Value}, Vals xs us → xs.all flatV = true → us.any (eqU x) = xs.any fun y => eqV y x
  | _, _, .nil, _ => rfl
  | y :: xs, u :: us, .cons r t, f => by
    rw [List.all_cons, Bool.and_eq_true] at f
    rw [List.any_cons, List.any_cons, eqU_of r f.1, any_eqU t f.2]
theorem mem_eqAt {A : Around} {s : Shared} {x : V} {v : Value} (rx : RelV x v) (fx : flatV x = true) : ∀ {xs : List V} {us : List Value}, Vals xs us → xs.all flatV = true → ∀ u ∈ us, SeqAt.EqAt A s u v (eqU x u)
  | _, _, .nil, _ => fun u hu => by cases hu
  | y :: xs, u :: us, .cons r t, f => fun u' hu => by
    rw [List.all_cons, Bool.and_eq_true] at f
    rcases List.mem_cons.mp hu with rfl | hu
    · rw [eqU_of r f.1]; exact eqAt_V r rx f.1 fx
    · exact mem_eqAt rx fx t f.2 u' hu
def inV (x : V) (xs : List V) : Bool := xs.any fun y => eqV y x
/-- x in a list or tuple of flat items -/
def rIn (K : PySem.W.Frag) (neg : Bool) : R2 := fun x y H Q => ∃ p xs, y = .ref p ∧ (SqL K H p xs ∨ SqT K H p xs) ∧ flatV x = true ∧ xs.all flatV = true ∧ Q (.bl (if neg then !inV x xs else inV x xs)) H
theorem op_in_seq : OpR X (compareOp .In) (rIn X.K false) := by
  intro pins s σ H x y v u Q I rx ry h
  obtain ⟨p, xs, rfl, hq, fx, fs, q⟩ := h
  cases ry
  rcases hq with hq | hq
  · obtain ⟨its, r, pl, hz⟩ := I.list hq
    refine SeqAt.in_listAt (eqU x) pl.isList (fun w hw => mem_eqAt rx fx r fs w (by simpa using hw)) ⟨.bl _, H, I, rfl, ?_⟩
    rw [show its.toArray.any (eqU x) = its.any (eqU x) by simp, any_eqU r fs]
    exact q
  · obtain ⟨its, r, pl, hz⟩ := I.tuple hq
    refine SeqAt.in_tupleAt (eqU x) pl (fun w hw => mem_eqAt rx fx r fs w (by simpa using hw)) ⟨.bl _, H, I, rfl, ?_⟩
    rw [show its.toArray.any (eqU x) = its.any (eqU x) by simp, any_eqU r fs]
    exact q
/-! ### len, list(x), tuple(x) of any list or tuple that is read -/
theorem call_len_seq : CallR X (.builtin "len") (fun xs H Q => ∃ p ys, xs = [.ref p] ∧ (SqL X.K H p ys ∨ SqT X.K H p ys) ∧ Q (.int ys.length) H) := by
  intro pins s σ H xs us Q I r h
  obtain ⟨p, ys, rfl, hq, q⟩ := h
  obtain ⟨u, rfl, rx⟩ := vals1 r
  cases rx
  have hn := line63
  rcases hq with hq | hq
  · obtain ⟨its, r', pl, hz⟩ := I.list hq
    have hlen := r'.length
    exact Calls.call_len_list pl.isList (by simp only [List.size_toArray] <;> omega) ⟨.int ys.length, H, I.tok _, ⟨s.toks + 1, by rw [List.size_toArray, hlen]⟩, q⟩
  · obtain ⟨its, r', pl, hz⟩ := I.tuple hq
    have hlen := r'.length
    exact len_tuple pl (by simp only [List.size_toArray] <;> omega) ⟨.int ys.length, H, I.tok _, ⟨s.toks + 1, by rw [List.size_toArray, hlen]⟩, q⟩
theorem call_list_of : CallR X (.type "list") (fun xs H Q => ∃ p ys, xs = [.ref p] ∧ (SqL X.K H p ys ∨ SqT X.K H p ys) ∧ ∀ l, H l = none → Q (.ref l) (upd H l (.lst ys))) := by
  intro pins s σ H xs us Q I r h
  obtain ⟨p, ys, rfl, hq, q⟩ := h
  obtain ⟨u, rfl, rx⟩ := vals1 r
  cases rx
  have fin : ∀ (its : List Value), Vals ys its → ys.length ≤ sizeLine → ∀ (h' : Heap) (c' : Nat), (∀ b o', s.heap.get? b = some o' → h'.get? b = some o') →
      h'.get? s.heap.objs.size = some { cls := .type "list", dict := none, data := .seq its.toArray c', slots := #[] } → EP X pins σ Q (.ref s.heap.objs.size) { s with heap := h' } := fun its r' hz h' c' kp e =>
    ⟨.ref s.heap.objs.size, _, I.laid (t' := s.toks) kp (Nat.le_refl _) (show ObjOk X.prog X.w _ h' _ (.lst ys) from ⟨hz, its, c', r', e⟩), rfl, q _ (I.hok.fresh (Nat.le_refl _))⟩
  rcases hq with hq | hq
  · obtain ⟨its, r', pl, hz⟩ := I.list hq
    have hlen := r'.length
    obtain ⟨o, ho, hc, n, hd⟩ := pl.isList
    exact call_list_seq p (.inl rfl) ho hc hd (fun h' c' kp e => fin its r' hz h' c' kp e) (by simp only [List.size_toArray] <;> omega)
  · obtain ⟨its, r', pl, hz⟩ := I.tuple hq
    have hlen := r'.length
    obtain ⟨o, ho, hc, n, hd⟩ := pl
    exact call_list_seq p (.inr rfl) ho hc hd (fun h' c' kp e => fin its r' hz h' c' kp e) (by simp only [List.size_toArray] <;> omega)
/-! ### the call of a builtin's method: o.m(..) -/
/-- the value is of that builtin type -/
def tyV (K : PySem.W.Frag) (T : String) (x : V) (H : Hp) : Prop := match x with
  | .str _ => T = "str"
  | .int _ => T = "int"
  | .ref p => (T = "list" ∧ ∃ xs, SqL K H p xs) ∨ (T = "tuple" ∧ ∃ o, K.lookup p = some o ∧ o.cls = .type "tuple" ∧ o.dict = none) ∨
      (T = "dict" ∧ ((∃ kvs, H p = some (.dK kvs)) ∨ ∃ kvs, H p = some (.dT kvs))) ∨ (T = "set" ∧ ∃ S n, H p = some (.set S n))
  | _ => False
theorem tyV_is {pins : List (Addr × Obj)} {σ : St} {H : Hp} {s : Shared} {T : String} {x : V} {v : Value} (I : Inv X pins σ H s) (r : RelV x v) (ty : tyV X.K T x H) :
    s.TypeIs v T ∧ ∀ a, v = .ref a → ∃ ob, s.heap.get? a = some ob ∧ ob.dict = none := by
  cases x with
  | str z =>
    obtain ⟨t, rfl⟩ := r
    cases (show T = "str" from ty)
    exact ⟨typeIs_str s z t, fun _ e => nomatch e⟩
  | int i =>
    obtain ⟨t, rfl⟩ := r
    cases (show T = "int" from ty)
    exact ⟨typeIs_int s i t, fun _ e => nomatch e⟩
  | ref p =>
    cases r
    rcases ty with ⟨rfl, xs, hq⟩ | ⟨rfl, o, hk, hc, hd⟩ | ⟨rfl, hk⟩ | ⟨rfl, S, n, hk⟩
    · obtain ⟨its, _, pl, _⟩ := I.list hq
      refine ⟨pl.isList.typeIs, fun a e => ?_⟩
      cases e
      obtain ⟨o, n, e, c, hd, _⟩ := pl
      exact ⟨o, e, hd⟩
    · refine ⟨⟨o, I.kIn p o hk, hc⟩, fun a e => ?_⟩
      cases e
      exact ⟨o, I.kIn _ o hk, hd⟩
    · have z : ∃ o, s.heap.get? p = some o ∧ o.ExactDict := by
        rcases hk with ⟨kvs, hk⟩ | ⟨kvs, hk⟩
        · obtain ⟨_, _, _, _, o, _, _, e, ex, _⟩ := I.hok p _ hk
          exact ⟨o, e, ex⟩
        · obtain ⟨_, _, _, _, o, _, _, e, ex, _⟩ := I.hok p _ hk
          exact ⟨o, e, ex⟩
      obtain ⟨o, e, ex⟩ := z
      refine ⟨⟨o, e, ex.1⟩, fun a e2 => ?_⟩
      cases e2
      exact ⟨o, e, ex.2.1⟩
    · obtain ⟨o, _, _, _, e, ex, _⟩ := I.hok p _ hk
      refine ⟨⟨o, e, ex.1⟩, fun a e2 => ?_⟩
      cases e2
      exact ⟨o, e, ex.2.1⟩
  | _ => exact False.elim ty
def tBM0 (K : PySem.W.Frag) (T : String) (r : V → List V → Hp → VK → Prop) (to : TE) : TE := fun σ H Q => to σ H fun x H1 => tyV K T x H1 ∧ r x [] H1 Q
def tBM (K : PySem.W.Frag) (T : String) (r : V → List V → Hp → VK → Prop) (to : TE) (t : TA) : TE := fun σ H Q => to σ H fun x H1 => tyV K T x H1 ∧ t σ H1 fun xs H2 => r x xs H2 Q
variable {o e : Expr} {es : List Expr} {to : TE} {t : TA} {name : Str} {apos cpos : Pos} {T id : String} {r : V → List V → Hp → VK → Prop}
theorem pe_bm (pa : PlainAttrs T) (slot : Slot T name id) (hty : typeOf (.builtin id) = pure (.type "method_descriptor")) (hm : MtR X id r) (ho : PE X o to) (ha : PA X (e :: es) t)
    (hbase : attributeBase o name X.env (eval o X.env) = eval o X.env := by rfl)
    (hfew : ((backTo cpos (starEach (e :: es) X.env)).all (fun x => !x.1) && (backToKw cpos (keywordEach [] X.env)).all (fun x => x.1.isSome)
      && decide ((e :: es).length + ([] : List Keyword).length + (if ([] : List Keyword).isEmpty then 0 else 1) < 30)) = true := by rfl)
    (hline : (apos.endLine == cpos.line) = true := by rfl) (hs : starEach (e :: es) X.env = (false, eval e X.env) :: starEach es X.env := by rfl) (hplain : (backTo cpos (starEach es X.env)).any (·.1) = false := by rfl) :
    PE X (.Call (.Attribute o name apos) (e :: es) [] cpos) (tBM X.K T r to t) := by
  intro pins s σ H Q I h
  refine wpAny_Call_method_late hbase hfew hline rfl (thn (ho pins s σ H _ I h) fun v s1 ⟨x, H1, I1, r1, ty, q1⟩ => ?_)
  obtain ⟨h1, h2⟩ := tyV_is I1 r1 ty
  refine ⟨T, id, pa, slot, hty, h1, h2, ?_⟩
  have hA := ha cpos pins s1 σ H1 _ I1 q1
  rw [hs] at hA ⊢
  refine Calls.callWith_builtin (by show (false || (backTo cpos (starEach es X.env)).any (·.1)) = false; rw [hplain] <;> rfl) (Calls.evalArgs_plain ?_)
  exact thn hA fun us s2 ⟨vs, H2, I2, r2, q2⟩ => hm pins s2 σ H2 x vs v us Q I2 r1 r2 q2
/- xs.append(e), list.index on a module's tuple .. are MtR facts of 06m -/
end
end L2

namespace L2
open PySem PySem.Spec PyProof.Rows

def MtM (X : Cx) (id : String) (r : V → List V → Hp → VK → Prop) : Prop :=
  ∀ (pins : List (Addr × Obj)) (s : Shared) (σ : St) (H : Hp) (x : V) (xs : List V) (v : Value) (us : List Value) (Q : VK), Inv X pins σ H s → RelV x v → Vals xs us → r x xs H Q →
    wpAny (model X.prog X.w) X.A (call (.builtin id) (v :: us)) (EP X pins σ Q) X.xe s

/-! ### lists of values -/
theorem Vals.one : ∀ {x : V} {us : List Value}, Vals [x] us → ∃ u, us = [u] ∧ RelV x u
  | _, _, .cons r .nil => ⟨_, rfl, r⟩
theorem Vals.two : ∀ {x y : V} {us : List Value}, Vals [x, y] us → ∃ u v, us = [u, v] ∧ RelV x u ∧ RelV y v
  | _, _, _, .cons r (.cons q .nil) => ⟨_, _, rfl, r, q⟩
section
variable {X : Cx} {pins : List (Addr × Obj)} {σ : St} {H : Hp} {s : Shared} {l b : Addr} {xs ys zs : List V}

/-! ### the two steps: a tracked list is rewritten, a new list is laid -/
theorem Inv.lset {its its' : List Value} {n : Nat} {f : Array Value → Array Value} {t' : Nat} (I : Inv X pins σ H s) (hH : H l = some (.lst xs))
    (e : s.heap.get? l = some { cls := .type "list", data := .seq its.toArray n }) (hf : f its.toArray = its'.toArray) (hv : Vals ys its') (hz : ys.length ≤ sizeLine) :
    Inv X pins σ (upd H l (.lst ys)) { s with heap := s.heap.update l (Obj.mapSeq f), toks := t' } := by
  have q := PySem.IsL.update e f
  rw [hf] at q
  refine I.write (x := l) (e := l) (by rw [hH]; exact trivial) (.inl rfl) (fun b' u hb hu => (Heap.get?_update_other s.heap (Obj.mapSeq f) (Ne.symm hb)).trans hu) ⟨_, q⟩ ?_
  exact ⟨hz, its', _, hv, q⟩
theorem Inv.lnew {its : List Value} {t' : Nat} (I : Inv X pins σ H s) (hv : Vals ys its) (hz : ys.length ≤ sizeLine) :
    Inv X pins σ (upd H s.heap.objs.size (.lst ys)) { s with heap := s.heap.push { cls := .type "list", data := .seq its.toArray }, toks := t' } :=
  I.laid (fun _ _ q => Heap.get?_push_of_some _ q) (Nat.le_refl _) ⟨hz, its, 0, hv, Heap.get?_push_size _ rfl⟩
theorem Inv.fresh (I : Inv X pins σ H s) : H s.heap.objs.size = none := I.hok.fresh (Nat.le_refl _)
theorem Inv.lstM (I : Inv X pins σ H s) (hH : H l = some (.lst xs)) : xs.length ≤ sizeLine ∧ ∃ (its : List Value) (n : Nat), Vals xs its ∧ xs.length = its.length ∧ s.heap.get? l = some { cls := .type "list", data := .seq its.toArray n } := by
  obtain ⟨z, its, n, r, e⟩ := I.hok l _ hH
  exact ⟨z, its, n, r, r.length, e⟩

theorem notLongL {n : Nat} (h : n ≤ sizeLine) : Builtin.List.listTooLong n = false := by
  unfold Builtin.List.listTooLong
  exact decide_eq_false (by omega)
end

section
variable {X : Cx}

/-! ### methods -/
def rAppend : V → List V → Hp → VK → Prop := fun x vs H Q => ∃ l xs y, x = .ref l ∧ vs = [y] ∧ H l = some (.lst xs) ∧ xs.length < sizeLine ∧ Q .non (upd H l (.lst (xs ++ [y])))
theorem mt_append : MtM X "list.append" rAppend := by
  intro pins s σ H x vs v us Q I rx rv h
  obtain ⟨l, xs, y, rfl, rfl, hH, hz, q⟩ := h
  cases rx
  obtain ⟨u, rfl, ru⟩ := rv.one
  obtain ⟨z, its, n, r, hl, e⟩ := I.lstM hH
  refine call_meets F.slot_list_append ⟨_, e, rfl⟩ F.entry_list_append (F.args_list_append_2 _ _) (PySem.list_append l its.toArray n u (by rw [List.size_toArray]; omega)) ⟨e, ?_⟩
  refine ⟨.non, _, I.lset (its' := its ++ [u]) hH e (by simp) (r.append (.cons ru .nil)) ?_, rfl, q⟩
  rw [List.length_append, List.length_singleton]
  omega

def rExtend : V → List V → Hp → VK → Prop := fun x vs H Q => ∃ l b xs zs, x = .ref l ∧ vs = [.ref b] ∧ H l = some (.lst xs) ∧ H b = some (.lst zs) ∧ xs.length + zs.length ≤ sizeLine ∧ Q .non (upd H l (.lst (xs ++ zs)))
def rPop : V → List V → Hp → VK → Prop := fun x vs H Q => ∃ l xs y, x = .ref l ∧ vs = [] ∧ H l = some (.lst xs) ∧ xs[xs.length - 1]? = some y ∧ Q y (upd H l (.lst xs.dropLast))
def rPopAt : V → List V → Hp → VK → Prop := fun x vs H Q => ∃ l xs i k y, x = .ref l ∧ vs = [.int i] ∧ H l = some (.lst xs) ∧ -(2 ^ 63) ≤ i ∧ i < 2 ^ 63 ∧ seqIndex? i xs.length = some k ∧ xs[k]? = some y ∧ Q y (upd H l (.lst (xs.eraseIdx k)))
def rReverse : V → List V → Hp → VK → Prop := fun x vs H Q => ∃ l xs, x = .ref l ∧ vs = [] ∧ H l = some (.lst xs) ∧ Q .non (upd H l (.lst xs.reverse))
def rClear : V → List V → Hp → VK → Prop := fun x vs H Q => ∃ l xs, x = .ref l ∧ vs = [] ∧ H l = some (.lst xs) ∧ Q .non (upd H l (.lst []))
/-! ### list + list, list += list, list * int -/
def rCat : R2 := fun x y H Q => ∃ l b xs zs, x = .ref l ∧ y = .ref b ∧ H l = some (.lst xs) ∧ H b = some (.lst zs) ∧ xs.length + zs.length ≤ sizeLine ∧ ∀ p, H p = none → Q (.ref p) (upd H p (.lst (xs ++ zs)))
theorem op_cat : OpR X (binaryOp .Add) rCat := by
  intro pins s σ H x y v u Q I rx ry h
  obtain ⟨l, b, xs, zs, rfl, rfl, hH, hB, hz, q⟩ := h
  cases rx
  cases ry
  obtain ⟨z, its, n, r, hl, e⟩ := I.lstM hH
  obtain ⟨z2, its2, n2, r2, hl2, e2⟩ := I.lstM hB
  refine PySem.P.add_list e e2 ?_ (by rw [List.size_toArray, List.size_toArray]; omega)
  have ea : its.toArray ++ its2.toArray = (its ++ its2).toArray := by simp
  rw [ea]
  exact ⟨.ref _, _, I.lnew (t' := s.toks) (r.append r2) (by rw [List.length_append]; omega), rfl, q _ I.fresh⟩
/-- a list times an int (a negative one is nothing) -/
def rRep : R2 := fun x y H Q => ∃ l k xs, x = .ref l ∧ y = .int k ∧ H l = some (.lst xs) ∧ -(2 ^ 63) ≤ k ∧ k < 2 ^ 63 ∧ xs.length * k.toNat ≤ sizeLine ∧
  ∀ p, H p = none → Q (.ref p) (upd H p (.lst (List.replicate k.toNat xs).flatten))
/-! ### del xs[i] -/
end

/-! ### xs[a:b] = ys -/
section
variable {prog : Program} {w : World} {A : Around} {E : Value → Shared → Prop} {s : Shared}
end

section
variable {X : Cx}
end
end L2

namespace Att
open PySem PySem.W PySem.Calls PyProof.Rows

/-! ### the script -/
theorem ints_of_wellAll {P : Params} {h : Heap} : ∀ (ns : List Int) (vs : List Value), WellAll P h vs (ns.map WData.int) → IntsAre vs ns := by
  intro ns
  induction ns with
  | nil =>
    intro vs w
    rw [List.map_nil] at w
    cases w
    exact .nil
  | cons n ns ih =>
    intro vs w
    rw [List.map_cons] at w
    cases w with
    | cons a b =>
      cases a
      exact .cons _ _ (ih _ b)

theorem script_of {l : OpenLaw} {n : Nat} (hn : l.most = some n) {P : Params} {h : Heap} {args : List WData} {vals : List Value}
    (hpre : l.row.toRowW.claim.pre args = true) (hwl : WellAll P h vals args) :
    ∃ a vs ns, vals = [Value.ref a] ∧ args = [WData.list (ns.map WData.int)] ∧ h.get? a = some { cls := .type "list", data := .seq vs.toArray } ∧ IntsAre vs ns ∧ ns.length ≤ n := by
  have hsh : WShape.hasAll [] args [.list .int] = true := (pre_splitW hpre).1
  have hc : l.pre.holds [] { args := args } = true := (pre_splitW hpre).2
  obtain ⟨d, r, rfl, h1, h2⟩ := hasAllW_cons hsh
  obtain rfl := hasAllW_nil h2
  obtain ⟨xs, rfl, h3⟩ := hasW_list h1
  obtain ⟨ns, rfl⟩ := items_int h3
  have hlen : ns.length ≤ n := by
    unfold OpenLaw.pre at hc
    have h4 : (WTm.not (.lt (.lit (.int (n : Int))) (.len (.arg 0)))).holds [] { args := [.list (ns.map .int)] } = true := by
      have h4 := (holds_andW hc).1
      rw [hn] at h4
      exact h4
    have h5 := condW_of h4 (w_not (w_lt w_lit (w_len_list (w_arg rfl))))
    rw [List.length_map] at h5
    refine Nat.le_of_not_lt fun q => ?_
    have q' : (n : Int) < ((ns.length : Nat) : Int) := by omega
    first
      | (rw [decide_eq_true q'] at h5; exact absurd h5 (by decide))
      | (simp at h5; omega)
  cases hwl with
  | cons w1 w2 =>
    cases w2
    cases w1 with
    | list ho hall => exact ⟨_, _, ns, rfl, rfl, ho, ints_of_wellAll ns _ hall, hlen⟩

theorem post_true (l : OpenLaw) (args : List WData) : l.row.toRowW.claim.post args (.bool true) args = true :=
  postW_of (r := l.row.toRowW) (X := (true == true))
    (show WShape.has [] (.bool true) .bool = true by first | rfl | decide | simp [WShape.has, WShape.arms, WShape.armsAll])
    (show (WTm.eq .res (.lit (.bool true))).value [] { args := args, res := some (.bool true), after := args } = some (.bool (true == true)) from w_eq_bool (w_res rfl) w_lit) rfl

/-! ### the attachment: holds_open's last premise (the goal 'hc' behind k_head) from a wpAny of the law's body -/
/-- the same from a codeAny of the CALL (for a layer whose function contracts speak of calls) -/
theorem attach_call {l : OpenLaw} {n : Nat} {q : Program} {loose : List Str} {XP : (Str → Option Value) → Heap → Prop} {YP : World → Heap → Prop} {d : DefRec}
    (hn : l.most = some n) (hdf : d.params.defaults = [])
    (call : ∀ (w : World) (s₀ s₁ : Shared) (mg mb : Str → Option Value) (fa : Addr) (o : Obj) (pm cd doc : Value) (a : Addr) (vs : List Value) (ns : List Int),
      Ground q loose [] XP w s₀ mg mb s₁.heap → YP w s₁.heap →
      s₁.heap.get? fa = some o → o.data = .func (docDef d.name d.params d.body d.scope pm cd doc) → s₁.heap.CodeRec cd d.name → mg d.name = some (.ref fa) →
      s₁.heap.get? a = some { cls := .type "list", data := .seq vs.toArray } → IntsAre vs ns → ns.length ≤ n → s₁.gens = #[] →
      codeAny (model l.prog w) callerA (.call (.ref fa) ⟨[.ref a], []⟩) (fun r s' => r = .ok (.ret (.bool true)) ∧ OldK s₁.heap s'.heap ∧ s'.os = s₁.os ∧ AllBare s'.gens) s₁) :
    WalkO q loose XP YP l.row.toRowW d [] (fun f vs => PySem.call f vs) := by
  intro w s₀ s₁ mg mb G Y fa o pm cd doc dV kV ho hd hcd hD hmg hg args vals as hpre hlay hrd hwl hlo
  obtain rfl : dV = .none := Dflts.none hD hdf
  obtain rfl : kV = .none := Dflts.noKw hD
  obtain ⟨a, vs, ns, rfl, rfl, hobj, hints, hlen⟩ := script_of hn hpre hwl
  refine enter_call (codeAny_mono (call w s₀ s₁ mg mb fa o pm cd doc a vs ns G Y ho (fd_plain hd) hcd hmg hobj hints hlen hg) fun r s' hq => ?_)
  obtain ⟨rfl, h2, h3, h4⟩ := hq
  exact ⟨.inl ⟨.bool true, .bool true, [], rfl, fun _ => rfl, .bool true, post_true l _, fun _ => ⟨List.Pairwise.nil, fun _ hm => (nomatch hm)⟩⟩, h2, h3, h4⟩

/-! ### rules over ANY heap (no ledger) from facts about the written part K: the library's own take a ledger (News) for what they write -/
section
variable {prog : Program} {w : World} {A : Around} {E : Value → Shared → Prop} {s : Shared} {K : Frag}

/-! the whole heap as the ledger: makes every rule that writes through a ledger a rule over any heap -/
def noObjs (h : Heap) : Heap := { h with objs := #[] }
def ledger (h : Heap) (L d : Addr) : List (Addr × Obj) := (List.range h.objs.size).filterMap fun a => if a = L ∨ a = d then none else (h.get? a).map fun o => (a, o)
end
end Att

namespace L2
open PySem PySem.Spec PyProof.Rows

theorem vals_ints : ∀ {vs : List Value} {ns : List Int}, IntsAre vs ns → Vals (ns.map V.int) vs
  | _, _, .nil => .nil
  | _, _, .cons n t h => .cons ⟨t, rfl⟩ (vals_ints h)

/-- nothing is tracked but the script, known to the object (or it is an object of the module) -/
def Only (H : Hp) : Prop := ∀ b, H b = none ∨ ∃ o xs, H b = some (.frz o (.lst xs))

/-- THE HEAD: the law's promise, at the heap behind the top. F, the promise of the law's def, may use that base is part of the heap (so K.In base, base.Ns mainGlobals mg stand in Mod) -/
theorem law_call {P : Program} {w : World} {K : PySem.W.Frag} {mg mb : Str → Option Value} {CX : CXT} {k : Nat} {fa a : Addr} {fd : FuncData} {x : Str} {sp : Sp} {s₁ : Shared} {vs : List Value} {ns : List Int}
    (KX : K.In s₁.heap) (hns : s₁.heap.Ns mainGlobals mg) (hb : s₁.heap.Ns builtinsNs mb) (hbb : ∀ x : Str, x ≠ "__name__" → mb x = bootBuiltins x) (hlim : s₁.heap.NoLimit) (hg : s₁.gens = #[])
    (ha : s₁.heap.get? a = some { cls := .type "list", data := .seq vs.toArray }) (hi : IntsAre vs ns) (hl : ns.length ≤ sizeLine) (hr : Room k callerA)
    (F : ∀ base : Heap, K.In base → base.Ns mainGlobals mg → FnOk P w K mg base CX k fa fd [x] sp) (hbind : ∀ (s : Shared) (u : Value), BindsTo s fd ⟨[u], []⟩ [(x, u)])
    (hsp : ∀ H : Hp, Only H → SqL K H a (ns.map V.int) → sp [.ref a] H (fun v _ => v = .bl true) fun _ _ _ => False)
    (hCX : ∀ H e s', CX [] H s₁ (fun _ _ _ => False) e s' → False) :
    codeAny (model P w) callerA (.call (.ref fa) ⟨[.ref a], []⟩) (fun r s' => r = .ok (.ret (.bool true)) ∧ OldK s₁.heap s'.heap ∧ s'.os = s₁.os ∧ AllBare s'.gens) s₁ := by
  have rv := vals_ints hi
  have lenV := hi.length
  -- from an abstract heap in which nothing but the script may be tracked
  have core : ∀ H : Hp, Only H → SqL K H a (ns.map V.int) → HOk P w H s₁.heap → (∀ b, H b ≠ none → b = a) → (H a ≠ none → K.lookup a = none) →
      codeAny (model P w) callerA (.call (.ref fa) ⟨[.ref a], []⟩) (fun r s' => r = .ok (.ret (.bool true)) ∧ OldK s₁.heap s'.heap ∧ s'.os = s₁.os ∧ AllBare s'.gens) s₁ := by
    intro H hO hS hok hA hK
    have base_of : ∀ {b : Addr} {o : Obj}, s₁.heap.get? b = some o → H b = none → (hidT s₁.heap H).get? b = some o := fun e n => hidT_get e n
    have noA : ∀ {b : Addr} {o : Obj} {es : Array DictEntry} {ep : Nat}, s₁.heap.get? b = some o → o.data = .dict es ep → H b = none := fun {b o es ep} e d => by
      cases q : H b with
      | none => rfl
      | some u =>
        have e' : b = a := hA b (by rw [q]; simp)
        subst e'
        rw [ha] at e; cases e
        have d' : Data.seq vs.toArray _ = Data.dict es ep := d
        cases d'
    have nsK : ∀ {b : Addr} {m : Str → Option Value}, s₁.heap.Ns b m → (hidT s₁.heap H).Ns b m := fun {b m} ⟨o, es, ep, e, d, r⟩ => ⟨o, es, ep, base_of e (noA e d), d, r⟩
    have hKb : K.In (hidT s₁.heap H) := fun b o e => base_of (KX b o e) (by
      cases q : H b with
      | none => rfl
      | some u =>
        have e' : b = a := hA b (by rw [q]; simp)
        subst e'
        rw [hK (by rw [q]; simp)] at e; cases e)
    have hM : Mod K mg (hidT s₁.heap H) := ⟨hKb, nsK hns, ⟨mb, nsK hb, hbb⟩, let ⟨mc, h1, h2⟩ := hlim; ⟨mc, nsK h1, h2⟩⟩
    have e0 : Env0 P w K mg (hidT s₁.heap H) callerA [] s₁ H := ⟨rfl, hM, fun b o e => of_hidT e, Nat.le_of_eq (hidT_size _ _), trivial, fun b hb => absurd (show b ∈ ([] : List Addr) from hb) (by simp), hok, .of_eq hg⟩
    refine codeAny_mono ((F _ hKb (nsK hns)).run callerA [] s₁ H ⟨[.ref a], []⟩ [.ref a] [.ref a] _ _ hr e0 (hbind s₁ (.ref a)) (.cons rfl .nil) (hsp H hO hS)) fun r s' h => ?_
    cases r with
    | error e => exact (hCX H e s' h).elim
    | ok fl =>
      cases fl with
      | next => exact False.elim h
      | brk => exact False.elim h
      | cont => exact False.elim h
      | ret u =>
        obtain ⟨v, H', os, bare, un, hok', r', q⟩ := h
        have q' : v = .bl true := q
        subst q'
        obtain rfl : u = Value.bool true := r'
        refine ⟨rfl, OldK.of_keep fun b o e => ?_, os, bare⟩
        cases q : H b with
        | none => exact un.keep b o e q (by intro z; exact absurd (show b ∈ ([] : List Addr) from z) (by simp)) (by simp)
        | some u =>
          rcases hO b with z | ⟨ob, xs, z⟩
          · rw [q] at z; cases z
          · have z2 := un.frzs b ob _ z
            obtain ⟨e1, _⟩ := hok b _ z
            obtain ⟨e2, _⟩ := hok' b _ z2
            rw [e] at e1; cases e1
            exact e2
  cases hk : K.lookup a with
  | some o =>
    -- the script is one of the module's own objects
    have e := KX a o hk
    rw [ha] at e
    cases e
    refine core (fun _ => none) (fun _ => .inl rfl) (.inr ⟨_, vs.toArray, _, hk, rfl, rfl, rfl, by rw [List.size_toArray, lenV]; exact hl, by simpa using rv⟩) (fun b u z => by have z' : (none : Option HO) = some u := z; cases z') (fun b z => absurd rfl z) fun z => absurd rfl z
  | none =>
    refine core (fun b => if b = a then some (.frz { cls := .type "list", data := .seq vs.toArray } (.lst (ns.map V.int))) else none) (fun b => ?_) (.inl (.inr ⟨{ cls := .type "list", data := .seq vs.toArray }, if_pos rfl⟩)) (fun b u z => ?_) (fun b z => ?_) fun _ => hk
    · by_cases hb : b = a
      · exact .inr ⟨_, _, if_pos hb⟩
      · exact .inl (if_neg hb)
    · by_cases hb : b = a
      · have z' := (if_pos hb).symm.trans z
        cases z'
        subst hb
        exact ⟨ha, by rw [List.length_map]; exact hl, vs, _, rv, ha⟩
      · have z' := (if_neg hb).symm.trans z
        cases z'
    · by_cases hb : b = a
      · exact hb
      · exact absurd (if_neg hb) z
end L2

namespace L2
open PySem PySem.Spec PyProof.Rows

abbrev KOf {K : PySem.W.Frag} {h : Heap} (_ : K.In h) : PySem.W.Frag := K

/-- the goal that k_head leaves (case hc), from the law's promise. F gives the function object fd (K's own) once, then the promise over every base -/
theorem walk_of {l : PySem.W.OpenLaw} {n k : Nat} {q : Program} {loose : List Str} {XP : (Str → Option Value) → Heap → Prop} {YP : World → Heap → Prop} {d : DefRec} {K : Params → PySem.W.Frag} {CX : World → CXT} {sp : World → Sp} {x : Str}
    (hn : l.most = some n) (hn2 : n ≤ sizeLine) (hdf : d.params.defaults = []) (hr : Room k callerA)
    (hY : ∀ (w : World) (h : Heap), YP w h → (K w.params).In h)
    (F : ∀ (w : World) (mg : Str → Option Value) (fa : Addr) (h : Heap), (K w.params).In h → h.Ns mainGlobals mg → mg d.name = some (.ref fa) →
      ∃ fd : FuncData, (∀ (s : Shared) (u : Value), BindsTo s fd ⟨[u], []⟩ [(x, u)]) ∧
        ∀ base : Heap, (K w.params).In base → base.Ns mainGlobals mg → FnOk l.prog w (K w.params) mg base (CX w) k fa fd [x] (sp w))
    (hsp : ∀ (w : World) (H : Hp) (a : Addr) (ns : List Int), ns.length ≤ n → Only H → SqL (K w.params) H a (ns.map V.int) → sp w [.ref a] H (fun v _ => v = .bl true) fun _ _ _ => False)
    (hCX : ∀ (w : World) (H : Hp) (s : Shared) (e : Value) (s' : Shared), CX w [] H s (fun _ _ _ => False) e s' → False) :
    PySem.W.WalkO q loose XP YP l.row.toRowW d [] (fun f vs => PySem.call f vs) := by
  refine Att.attach_call hn hdf fun w s₀ s₁ mg mb fa o pm cd doc a vs ns G Y ho hd hcd hmg hobj hints hlen hg => ?_
  have KX := hY w _ Y
  obtain ⟨fd, hb, hF⟩ := F w mg fa _ KX G.T.g hmg
  exact law_call KX G.T.g G.T.b G.T.builtins G.T.nolimit hg hobj hints (Nat.le_trans hlen hn2) hr hF hb (fun H hO hS => hsp w H a ns hlen hO hS) fun H e s' => hCX w H s₁ e s'
end L2

/- THE LAST THEOREM (shape; LID, My.* are yours):
   My.Adr: a structure of the addresses that your layer names (classes, functions); My.Txt K t: a structure (Prop) of the equations over K;
   My.txt_mk : {K} {implicit addresses ..} (e1 : nsIn K mainGlobals "law" = some (some (.ref f))) (e2 : K.lookup f = some ⟨oc, od, .func (fnOf "law" "law" params body scope dV kV doc pm an cdv ct), sl⟩) (e3 : codeIn K cdv "law" = true) .. : ∃ t, My.Txt K t

set_option maxRecDepth 100000 in
set_option maxHeartbeats 0 in
theorem PySem.Challenge.cw_LID_holds : PySem.Challenge.rw_LID.Holds := by
  w_on; o_law; k_head; (case hw => w_witness2)
  k_fill
  refine L2.walk_of (l := PySem.Challenge.rw_LID) (n := 63) (k := 40) (x := "script") (CX := fun w => ..) (sp := fun _ => My.sp_law) rfl (by decide) rfl ⟨rfl, by decide, by decide⟩ (fun w h Y => PySem.W.kIn_of Y) ?F ?S ?C
  case F =>
    intro w mg fa h KX G hmg
    have T : ∃ t, My.Txt (L2.KOf KX) t := by
      dsimp only [L2.KOf]                          -- K must stand as «<heap const> w.params» for k_is
      refine' My.txt_mk ?e1 ?e2 ?e3 ..
      (case e1 => PySem.W.k_is)                    -- in the order: a name -> its address -> its object -> its parts
      (case e2 => PySem.W.k_is)
      ..
    obtain ⟨t, T⟩ := T
    have e0 := hmg.symm.trans (PySem.W.mg_of KX G T.law)
    cases e0                                       -- fa is the law's own address
    exact ⟨_, fun s u => .of_eq rfl, fun base kb nb => My.law_fn T kb nb⟩     -- if «.of_eq rfl» comes too early: refine' ⟨_, ?b, fun base kb nb => My.law_fn T kb nb⟩; exact fun s u => .of_eq rfl
  case S => exact fun w H a ns hl hO hS => ..
  case C => exact ..
(the tactic k_is has no namespace: write k_is) -/

/-! SHORT WORDS over the layer: a def of the text, its body, what a loop and a test want. -/
namespace L2
open PySem PySem.Spec PyProof.Rows

/-! ### the text by places -/
/-- the j-th statement of a class's body -/
def inClass (s : Stmt) (j : Nat) : Stmt := match s with
  | .ClassDef _ _ _ body _ _ _ _ _ _ _ => body.getD j (.Pass ⟨0, 0, 0, 0⟩)
  | _ => .Pass ⟨0, 0, 0, 0⟩
def defArgs (s : Stmt) : Arguments := match s with
  | .FunctionDef _ a _ _ _ _ _ _ _ _ => a
  | _ => { posonlyargs := [], args := [], vararg := none, kwonlyargs := [], kw_defaults := [], kwarg := none, defaults := [] }
def defBody (s : Stmt) : List Stmt := match s with
  | .FunctionDef _ _ b _ _ _ _ _ _ _ => b
  | _ => []
def defScope (s : Stmt) : Scope := match s with
  | .FunctionDef _ _ _ _ _ _ sc _ _ _ => sc
  | _ => { kind := .function, names := [], isGenerator := false, isCoroutine := false }

/-! ### no exception leaves a def -/
abbrev CX0 : CXT := fun _ _ _ _ _ _ => False
abbrev E0 : XK := fun _ _ _ => False
theorem pass0 {X : Cx} : Passes CX0 X E0 := fun _ _ _ _ _ _ _ h => h.elim

/-! ### a def (or method) of the text as it stands behind the top -/
structure Fun (K : PySem.W.Frag) (x qual : Str) (st : Stmt) (f : Addr) (fd : FuncData) : Prop where
  ex : ∃ (oc : Value) (od : Option Addr) (kV doc pm : Value) (an : Option Addr) (cdv ct : Value) (osl : Array (Option Value)),
    fd = PySem.W.fnOf x qual (defArgs st) (defBody st) (defScope st) .none kV doc pm an cdv ct ∧ K.lookup f = some ⟨oc, od, .func fd, osl⟩ ∧ PySem.W.codeIn K cdv qual = true
  kp : PySem.W.keepIn K (.ref f) = true
section
variable {P : Program} {w : World} {K : PySem.W.Frag} {mg : Str → Option Value} {base : Heap}
/-- THE RULE for a def: its body as a term of rules, and the reading of that term -/
theorem Fun.ok {x qual : Str} {st : Stmt} {f : Addr} {fd : FuncData} {N ps : List Str} {k : Nat} {sp : Sp} (F : Fun K x qual st f fd) (S : FnScope N ps (defScope st)) (len : ∀ vs H Q E, sp vs H Q E → vs.length = ps.length)
    (hbody : ∀ (cdv : Value) (A : Around) (outer : List Env) (s : Shared) (H : Hp) (vs : List V) (Q : VK) (E : XK), Room k (A.deeper (envOfC qual (defScope st) s.heap.objs.size f cdv)) → sp vs H Q E →
      ∃ t, PSs (cxOf CX0 P w K mg base N qual (defScope st) f cdv A outer s H E).nox (defBody st) t ∧ t { nx := fun _ H' => Q .non H', rt := Q } (start N vs) H) : FnOk P w K mg base CX0 (k + 1) f fd ps sp := by
  obtain ⟨oc, od, kV, doc, pm, an, cdv, ct, osl, rfl, lk, hcd⟩ := F.ex
  refine fn_of lk hcd S len fun A outer s H vs Q E hr hsp => ?_
  obtain ⟨t, h, q⟩ := hbody cdv A outer s H vs Q E hr hsp
  exact ⟨t, h.nox, q⟩
/-- how its arguments bind (no defaults): h is «fun _ _ _ _ _ _ us hl => match us, hl with | [_, _], _ => rfl», one _ a parameter -/
theorem Fun.binds {x qual : Str} {st : Stmt} {f : Addr} {fd : FuncData} {ps : List Str} (F : Fun K x qual st f fd)
    (h : ∀ (kV doc pm : Value) (an : Option Addr) (cdv ct : Value) (us : List Value), us.length = ps.length → bindArgs (PySem.W.fnOf x qual (defArgs st) (defBody st) (defScope st) .none kV doc pm an cdv ct) ⟨us, []⟩ = pure (ps.zip us)) : Binds K fd ps [] := by
  obtain ⟨oc, od, kV, doc, pm, an, cdv, ct, osl, rfl, lk, hcd⟩ := F.ex
  exact .all (h kV doc pm an cdv ct)
theorem fun_mk {x qual : Str} {st : Stmt} {f : Addr} {oc : Value} {od an : Option Addr} {osl : Array (Option Value)} {kV doc pm cdv ct : Value} (l : K.lookup f = some ⟨oc, od, .func (PySem.W.fnOf x qual (defArgs st) (defBody st) (defScope st) .none kV doc pm an cdv ct), osl⟩)
    (c : PySem.W.codeIn K cdv qual = true) (k : PySem.W.keepIn K (.ref f) = true) : Fun K x qual st f (PySem.W.fnOf x qual (defArgs st) (defBody st) (defScope st) .none kV doc pm an cdv ct) := ⟨⟨oc, od, kV, doc, pm, an, cdv, ct, osl, rfl, l, c⟩, k⟩
end
/-! ### expressions in short: the name that stands in the i-th slot -/
section
variable {X : Cx}
theorem pv (i : Nat) {x : Str} {pos : Pos} (hN : X.N[i]? = some x := by rfl) (hv : Vis X.env.scope x := by first | exact Or.inl rfl | exact Or.inr (Or.inl rfl) | exact Or.inr (Or.inr rfl)) (hd : (x == ("__debug__" : Str)) = false := by decide)
    (hcd : (x == ("__classdict__" : Str)) = false := by decide) : PE X (.Name x pos) (tVar i) := pe_var hN hv hd hcd
end

/-! ### tests -/
theorem iteF {A B : Prop} (h : B) : if false = true then A else B := by
  rw [if_neg Bool.false_ne_true]
  exact h
theorem iteT {A B : Prop} (h : A) : if true = true then A else B := by
  rw [if_pos rfl]
  exact h
theorem ite2 {c A B : Prop} [Decidable c] (h1 : c → A) (h2 : ¬ c → B) : if c then A else B := by
  by_cases h : c
  · rw [if_pos h]
    exact h1 h
  · rw [if_neg h]
    exact h2 h
/-! ### heaps -/
/-- all that was tracked is as it was -/
def Same (H H' : Hp) : Prop := ∀ b o, H b = some o → H' b = some o
theorem Same.refl (H : Hp) : Same H H := fun _ _ h => h
theorem Same.trans {H H1 H2 : Hp} (a : Same H H1) (b : Same H1 H2) : Same H H2 := fun c o h => b c o (a c o h)
theorem Same.free {H H' : Hp} (e : Same H H') {l : Addr} (h : H' l = Option.none) : H l = Option.none := by
  cases q : H l with
  | none => rfl
  | some o =>
    rw [e l o q] at h
    cases h
theorem Same.seq {K : PySem.W.Frag} {H H' : Hp} {a : Addr} {xs : List V} (e : Same H H') (h : SqL K H a xs) : SqL K H' a xs := by
  rcases h with (h | ⟨o, h⟩) | h
  · exact .inl (.inl (e _ _ h))
  · exact .inl (.inr ⟨o, e _ _ h⟩)
  · exact .inr h

end L2
namespace L2
open PySem PySem.Spec PyProof.Rows

/-! ### a list comprehension with one clause, as a block of its own -/
section
variable {prog : Program} {w : World} {A : Around} {R : Result → Shared → Prop} {s : Shared}
theorem compLoop_own {elt target iter : Expr} {ifs : List Expr} {scope : Scope} {pos : Pos} {it acc : Value} {env : Env} (I : Nat → Shared → Prop)
    (turn : ∀ n s, I n s → wpAny (model prog w) A (pyNext it) (fun r s1 => match r with
      | none => R (.ok .next) s1
      | some v => wpAny (model prog w) A (letOwnedTupleGo target it v) (fun _ s1' => wpAny (model prog w) A (assign target env v) (fun _ s2 =>
          wpAny (model prog w) A (forIn ifs true fun c r => if r = true then do let ok ← isTrue c env (eval c env); pure (ForInStep.yield ok) else pure (ForInStep.yield r)) (fun ok s3 =>
            if ok = true then wpAny (model prog w) A (eval elt env) (fun x s4 =>
              wpAny (model prog w) A (call (.builtin "list.append") [acc, x]) (fun _ s5 => ∃ m, m < n ∧ I m s5) (fun _ _ => False) s4) (fun _ _ => False) s3
            else ∃ m, m < n ∧ I m s3) (fun _ _ => False) s2) (fun _ _ => False) s1') (fun _ _ => False) s1) (fun _ _ => False) s)
    (n : Nat) (h : I n s) :
    codeAny (model prog w) A (.compLoop (.ListComp elt [⟨target, iter, ifs, 0⟩] scope pos) 0 it acc env) R s := by
  have ff : ∀ {E : Value → Shared → Prop}, ∀ (x : Value) (s : Shared), (fun (_ : Value) (_ : Shared) => False) x s → E x s := fun _ _ z => False.elim z
  refine codeAny_loop rfl I (fun n s hI => ?_) n h
  show wpAny _ A ((compTurn (.ListComp elt [⟨target, iter, ifs, 0⟩] scope pos) 0 it acc env).onRaise (fun x => do noteFrame x env; theTreesLotGoes x)) _ _ s
  refine wpAny_noted ?_
  rw [compTurn_list]
  refine wpAny_bind (wpAny_standAt (wpAny_bind (wpAny_mono (turn n s hI) (fun r s1 h1 => ?_) ff)))
  cases r with
  | none => exact wpAny_pure h1
  | some v =>
    refine wpAny_bind (wpAny_mono h1 (fun _ s1' h1' => ?_) ff)
    refine wpAny_bind (wpAny_mono h1' (fun _ s2 h2 => wpAny_bind (wpAny_mono h2 (fun ok s3 h3 => ?_) ff)) ff)
    cases ok with
    | false => exact wpAny_pure ⟨rfl, h3⟩
    | true =>
      exact wpAny_bind (wpAny_bind (wpAny_mono h3 (fun x s4 h4 => wpAny_bind (wpAny_mono h4 (fun _ s5 h5 => wpAny_pure (wpAny_pure ⟨rfl, h5⟩)) ff)) ff))
end

/-- the block's context: own names first, then the free ones; fp: the iterator's records -/
def Cx.comp (X : Cx) (scope : Scope) (cl : List (Str × Addr)) (N : List Str) (C : Addr) (s : Shared) (H : Hp) (fp : List Addr) : Cx :=
  { X with N := N, s₀ := s, H₀ := H, env := compEnvC scope cl C X.env, outer := X.stack, ex := fp, fn := fun _ => false, pn := [], xe := fun _ _ => False }

/-- the tests of a clause -/
def PIfs (X : Cx) (ifs : List Expr) (t : TT) : Prop :=
  ∀ (pins : List (Addr × Obj)) (s : Shared) (σ : St) (H : Hp) (Q : Bool → Hp → Prop), Inv X pins σ H s → t σ H Q →
    wpAny (model X.prog X.w) X.A (forIn ifs true fun c r => if r = true then do let ok ← isTrue c X.env (eval c X.env); pure (ForInStep.yield ok) else pure (ForInStep.yield r)) (TP X pins σ Q) X.xe s
def tYes : TT := fun _ H Q => Q true H
theorem pifs_nil {X : Cx} : PIfs X [] tYes := fun _ _ _ H _ I h => wpAny_tests_nil ⟨H, I, h⟩
theorem pifs_one {X : Cx} {c : Expr} {t : TT} (h : PT X c t) : PIfs X [c] t := fun pins s σ H Q I hw => wpAny_tests_one (h pins s σ H Q I hw)

/-- the free names: y stands at place j of the outer names -/
structure CompScope (X : Cx) (scope : Scope) (cl : List (Str × Addr)) (own : List Str) (fr : List (Str × Nat)) : Prop where
  clos : closureFor scope X.env = pure cl
  nocell : ∀ y ∈ scope.names, y.2 ≠ .cell
  kind : scope.kind = .function
  names : ∀ y ∈ scope.names, y.2 = .local → scope.names.lookup y.1 = some .local
  cls : ∀ y c, cl.lookup y = some c → X.env.cells.lookup y = some c
  has : ∀ y, ((relabel scope X.env).names.lookup y = some .cell ∨ (relabel scope X.env).names.lookup y = some .free) → ∃ c, cl.lookup y = some c
  free : ∀ p ∈ fr, X.N[p.2]? = some p.1 ∧ (X.env.kindOf p.1 = some .cell ∨ X.env.kindOf p.1 = some .free) ∧ ((relabel scope X.env).names.lookup p.1 = some .cell ∨ (relabel scope X.env).names.lookup p.1 = some .free)

/-- the block's names ahead of a turn -/
def compSt (own : List Str) (fr : List (Str × Nat)) (σ : St) : St := own.map (fun _ => none) ++ fr.map fun p => (σ[p.2]?).join

/-- what stood stands (the slots of the free names) -/
def keepSt : St → St → Prop
  | [], [] => True
  | none :: r, _ :: r' => keepSt r r'
  | some v :: r, some v' :: r' => v = v' ∧ keepSt r r'
  | _, _ => False
theorem keepSt_get : ∀ {a b : St}, keepSt a b → ∀ (i : Nat) (v : V), a[i]? = some (some v) → b[i]? = some (some v)
  | [], [], _, i, v, h => by simp at h
  | [], _ :: _, z, _, _, _ => z.elim
  | none :: r, [], z, _, _, _ => z.elim
  | some _ :: r, [], z, _, _, _ => z.elim
  | some _ :: r, none :: _, z, _, _, _ => z.elim
  | none :: r, _ :: r', z, 0, v, h => by simp at h
  | none :: r, _ :: r', z, i + 1, v, h => by
    have := keepSt_get (a := r) (b := r') z i v (by simpa using h)
    simpa using this
  | some x :: r, some x' :: r', z, 0, v, h => by
    obtain ⟨e, _⟩ := z
    subst e
    simpa using h
  | some x :: r, some x' :: r', z, i + 1, v, h => by
    have := keepSt_get (a := r) (b := r') z.2 i v (by simpa using h)
    simpa using this
/-- the reading: W by the turn, a measure, the items so far, the heap -/
def CompTurns (J : It) (D : Addr) (g : TG) (tc : TT) (te : TE) (σ0 : St) (W : Nat → Nat → List V → Hp → Prop) (R : Hp → Prop) : Prop :=
  ∀ i m ys H2, W i m ys H2 → (J.stop i H2 ∧ R H2) ∨ (J.go i H2 ∧ ∃ N : List V → Hp → Prop, (∀ ys' H', N ys' H' → ∃ m', m' < m ∧ W (i + 1) m' ys' H') ∧ ∀ x H3, J.yld i H2 x H3 → g x σ0 H3 fun σ4 H4 => keepSt σ0 σ4 ∧ tc σ4 H4 fun b H5 =>
    if b = true then te σ4 H5 fun y H6 => H6 D = some (.lst ys) ∧ ys.length < sizeLine ∧ N (ys ++ [y]) (upd H6 D (.lst (ys ++ [y])))
    else N ys H5)
def tComp (wi : TI) (g : TG) (tc : TT) (te : TE) (own : List Str) (fr : List (Str × Nat)) : TE := fun σ H Q => wi σ H fun J H1 => ∀ D, H1 D = none →
  ∃ W : Nat → Nat → List V → Hp → Prop, (∃ m, W 0 m [] (upd H1 D (.lst []))) ∧ CompTurns J D g tc te (compSt own fr σ) W fun H2 => Q (.ref D) H2

section
variable {X : Cx} {target iter elt : Expr} {ifs : List Expr} {scope : Scope} {cl : List (Str × Addr)} {own : List Str} {fr : List (Str × Nat)} {pos : Pos} {wi : TI} {g : TG} {tc : TT} {te : TE}

theorem Inv.sub_pins {pins pins' : List (Addr × Obj)} {σ : St} {H : Hp} {s : Shared} (I : Inv X pins σ H s) (h : ∀ p ∈ pins', p ∈ pins) : Inv X pins' σ H s := I.pins_of fun p hp => I.pin p (List.mem_append_right _ (h p hp))

theorem comp_ok {pins : List (Addr × Obj)} {σ : St} {H : Hp} {s : Shared} {C : Addr} {fp : List Addr} (S : CompScope X scope cl own fr) (I : Inv X pins σ H s) (hf : ∀ b ∈ fp, FpOk X pins H b) (hC : s.heap.objs.size ≤ C) (hfl : ∀ b ∈ fp, b < s.heap.objs.size) :
    (X.comp scope cl (own ++ fr.map (·.1)) C s H fp).Ok := by
  refine ⟨I.ok.mod, ?_, I.ok.glob, I.ok.blt, hC, fun x y c h1 h2 => I.ok.inj x y c (S.cls x c h1) (S.cls y c h2), S.has, fun x c z => absurd z (by simp [Cx.comp]), I.ok.hd, I.ok.frames, .inl rfl,
    fun b hb => ⟨Nat.ne_of_lt (Nat.lt_of_lt_of_le (hfl b hb) hC), fun x c h => (hf b hb).2.2.2.2.1 x c (S.cls x c h)⟩, I.bs, Nat.le_trans I.ok.bsz I.sz, fun b o e hb => ?_, fun b hb z => ?_, I.stack, I.stkFree⟩
  · show (relabel scope X.env).kind = .function
    exact S.kind
  · rcases (hf b hb).2.2.2.1 with z | z
    · exact I.ok.noex b o e z
    · exact absurd (Nat.lt_of_lt_of_le (Heap.lt_size e) (Nat.le_trans I.ok.bsz z)) (Nat.lt_irrefl _)
  · rcases List.mem_cons.mp (I.stkSub b z) with q | q
    · exact (hf b hb).2.1 q
    · exact (hf b hb).2.2.1 q

theorem compSt_len (own : List Str) (fr : List (Str × Nat)) (σ : St) : (compSt own fr σ).length = (own ++ fr.map (·.1)).length := by
  unfold compSt
  simp

/-- the block, from the iterator on -/
theorem comp_block {pins : List (Addr × Obj)} {σ : St} {H : Hp} {s : Shared} {it : Addr} {fp : List Addr} {tn : Nat → Heap → Prop} {J : It} {E : Value → Shared → Prop} {RR : Value → Addr → Result → Shared → Prop} {Rf : Addr → Hp → Prop}
    (hc : X.calm = true) (S : CompScope X scope cl own fr) (I : Inv X pins σ H s) (T : Turn X.prog X.w X.K target J fp it tn) (st : tn 0 s.heap) (hf : ∀ b ∈ fp, FpOk X pins H b)
    (hg : ∀ C s H fp, PG (X.comp scope cl (own ++ fr.map (·.1)) C s H fp) target g) (ht : ∀ C s H fp, PIfs (X.comp scope cl (own ++ fr.map (·.1)) C s H fp) ifs tc) (he : ∀ C s H fp, PE (X.comp scope cl (own ++ fr.map (·.1)) C s H fp) elt te)
    (hw : ∀ D, H D = none → ∃ W : Nat → Nat → List V → Hp → Prop, (∃ m, W 0 m [] (upd H D (.lst []))) ∧ CompTurns J D g tc te (compSt own fr σ) W (Rf D))
    (hRR : ∀ D C s' H', s.heap.objs.size ≤ C → C ≠ D → (∃ m, s'.heap.Ns C m) → H' C = none → Un (frs X.stack) fp H H' s.heap s'.heap → HOk X.prog X.w H' s'.heap → AllBare s'.gens → s'.os = s.os → Rf D H' → RR (.ref D) C (.ok .next) s') :
    wpAny (model X.prog X.w) X.A (newList []) (fun acc s3 => wpAny (model X.prog X.w) X.A (newFunctionEnv scope X.env.globals cl [] X.env.qual none .none (some X.env)) (fun cenv s4 =>
      codeAny (model X.prog X.w) X.A (.compStart (.ListComp elt [⟨target, iter, ifs, 0⟩] scope pos) 0 (.ref it) acc { cenv with scope := relabel scope X.env }) (RR acc cenv.locals) s4) E s3) E s := by
  have hfl : ∀ b ∈ fp, b < s.heap.objs.size := fun b hb => by
    obtain ⟨o, e, _⟩ := T.obj 0 s.heap st b hb
    exact Heap.lt_size e
  have hD : H s.heap.objs.size = none := I.fresh
  obtain ⟨W, ⟨m0, w0⟩, turns⟩ := hw s.heap.objs.size hD
  have I1 : Inv X pins σ (upd H s.heap.objs.size (.lst [])) { s with heap := s.heap.push { cls := .type "list", data := .seq ([] : List Value).toArray }, toks := s.toks } := I.lnew .nil (Nat.zero_le _)
  refine wpAny_newObj_type (wpAny_newFunctionEnv S.nocell (by intro y hy; simp at hy) (fun h1 hns1 hsb1 => ?_) S.kind)
  dsimp only at hns1 hsb1 ⊢
  generalize hH2 : s.heap.push { cls := .type "list", dict := none, data := .seq ([] : List Value).toArray } = H2 at hns1 hsb1 ⊢ I1
  have hCs : H2.objs.size = s.heap.objs.size + 1 := by rw [← hH2, Heap.size_push]
  have hCle : s.heap.objs.size ≤ H2.objs.size := by omega
  have hDC : s.heap.objs.size ≠ H2.objs.size := by omega
  have up1 : ∀ b o, H2.get? b = some o → h1.get? b = some o := fun b o e => hsb1.extBut b o (Nat.ne_of_lt (Heap.lt_size e)) (Heap.get?_push_of_some _ e)
  have up : ∀ b o, s.heap.get? b = some o → h1.get? b = some o := fun b o e => up1 b o (hH2 ▸ Heap.get?_push_of_some _ e)
  have okY := comp_ok (C := H2.objs.size) S I hf hCle hfl
  -- the block's invariant at the start
  have I0 : ∀ tk, Inv (X.comp scope cl (own ++ fr.map (·.1)) H2.objs.size s H fp) [] (compSt own fr σ) (upd H s.heap.objs.size (.lst [])) { s with heap := h1, toks := tk } := by
    intro tk
    have hok1 : HOk X.prog X.w (upd H s.heap.objs.size (.lst [])) h1 := I1.hok.kept up1
    refine ⟨okY, rfl, I.bare, ⟨fun b o e n _ _ => up b o e, fun b o e n _ _ => ⟨o.slots, up b o e⟩, fun b o e n _ => ?_, fun b o e _ => ⟨o, up b o e⟩, fun b xs q => ?_, fun b o u q => ?_, fun b ps q => ⟨#[], ?_⟩⟩,
      ⟨_, hns1, fun i x v e1 e2 e3 => ?_⟩, fun x c e => ?_, ?_, fun x c e => ?_, fun p hp => ?_, hok1, compSt_len own fr σ⟩
    · have e' : s.heap.get? b = some o := e
      show upd H s.heap.objs.size (.lst []) b = none
      rw [upd_ne (Nat.ne_of_lt (Heap.lt_size e'))]; exact n
    · rw [upd_ne (ne_of_none q hD)]; exact q
    · rw [upd_ne (ne_of_none q hD)]; exact q
    · have q' : H b = some (.tbl ps) := q
      rw [upd_ne (ne_of_none q' hD), q']; simp
    · -- the free names
      have e2' : (compSt own fr σ)[i]? = some (some v) := e2
      have e1' : (own ++ fr.map (·.1))[i]? = some x := e1
      unfold compSt at e2'
      by_cases hi : i < own.length
      · rw [List.getElem?_append_left (by simpa using hi), List.getElem?_map] at e2'
        cases q : own[i]? with
        | none => rw [q] at e2'; cases e2'
        | some y => rw [q] at e2'; cases e2'
      · rw [List.getElem?_append_right (by simpa using hi), List.length_map, List.getElem?_map] at e2'
        rw [List.getElem?_append_right (by omega), List.getElem?_map] at e1'
        cases q : fr[i - own.length]? with
        | none => rw [q] at e2'; cases e2'
        | some p =>
          rw [q] at e1' e2'
          have ex : p.1 = x := Option.some.inj e1'
          have ev : (σ[p.2]?).join = some v := Option.some.inj e2'
          have ev' : σ[p.2]? = some (some v) := by
            cases z : σ[p.2]? with
            | none => rw [z] at ev; cases ev
            | some o => rw [z] at ev; cases o with
              | none => cases ev
              | some v' => have : v' = v := Option.some.inj ev; rw [this]
          obtain ⟨f1, f2, f3⟩ := S.free p (List.mem_of_getElem? q)
          subst ex
          obtain ⟨m, hn, hl⟩ := I.loc
          have vis : Vis X.env.scope p.1 := by
            rcases f2 with f2 | f2
            · exact .inr (.inl f2)
            · exact .inr (.inr f2)
          obtain ⟨u, ru, lk⟩ := hl p.2 p.1 v f1 ev' vis
          refine ⟨u, ru, ?_⟩
          rcases lk with ⟨k, _⟩ | ⟨k, c, e, z⟩
          · rcases f2 with f2 | f2 <;> (rw [f2] at k; cases k)
          · obtain ⟨c', hc'⟩ := S.has p.1 f3
            have e' := S.cls _ _ hc'
            rw [e] at e'; cases e'
            obtain ⟨oc, ho, hd⟩ := z
            exact .inr ⟨f3, c, hc', ⟨oc, up _ _ ho, hd⟩⟩
    · obtain ⟨v, oc, ho, hd⟩ := I.cell x c (S.cls x c e)
      exact ⟨v, oc, up _ _ ho, hd⟩
    · show upd H s.heap.objs.size (.lst []) H2.objs.size = none
      rw [upd_ne (Ne.symm hDC)]
      exact I.hok.fresh hCle
    · obtain ⟨v, z⟩ := I.cell x c (S.cls x c e)
      show upd H s.heap.objs.size (.lst []) c = none
      rw [upd_ne (Nat.ne_of_lt z.lt)]
      exact I.freeC x c (S.cls x c e)
    · exact absurd (show p ∈ ([] : List (Addr × Obj)) from hp) (by simp)
  have fpf : ∀ b ∈ fp, upd H s.heap.objs.size (.lst []) b = none := fun b hb => by rw [upd_ne (Nat.ne_of_lt (hfl b hb))]; exact (hf b hb).1
  have st1 : tn 0 h1 := T.keep 0 _ _ st fun b hb o e => up b o e
  have stat : ∀ {H' : Hp}, (∀ b ∈ fp, H' b = none) → ∀ b ∈ fp, FpOk (X.comp scope cl (own ++ fr.map (·.1)) H2.objs.size s H fp) [] H' b := fun hn b hb =>
    ⟨hn b hb, (okY.exf b hb).1, okY.exfs b hb, .inl hb, (okY.exf b hb).2, fun p hp => absurd (show p ∈ ([] : List (Addr × Obj)) from hp) (by simp)⟩
  have loop : ∀ s3 : Shared, (∃ tk, s3 = { s with heap := h1, toks := tk }) →
      codeAny (model X.prog X.w) X.A (.compLoop (.ListComp elt [⟨target, iter, ifs, 0⟩] scope pos) 0 (.ref it) (.ref s.heap.objs.size) (compEnvC scope cl H2.objs.size X.env)) (RR (.ref s.heap.objs.size) H2.objs.size) s3 := by
    rintro s3 ⟨tk, rfl⟩
    refine compLoop_own (fun n s' => ∃ i ys H', Inv (X.comp scope cl (own ++ fr.map (·.1)) H2.objs.size s H fp) [] (compSt own fr σ) H' s' ∧ tn i s'.heap ∧ (∀ b ∈ fp, H' b = none) ∧ W i n ys H') ?_ m0 ⟨0, [], _, I0 tk, st1, fpf, w0⟩
    rintro n s4 ⟨i, ys, H4, I4, st4, fr4, w4⟩
    rcases turns i n ys H4 w4 with ⟨stop, q⟩ | ⟨go, N, hN, step⟩
    · refine thn (T.done (X.comp scope cl (own ++ fr.map (·.1)) H2.objs.size s H fp) rfl rfl rfl hc i [] s4 _ H4 _ I4 (stat fr4) st4 stop) fun r s5 ⟨hr, I5⟩ => ?_
      subst hr
      exact hRR _ _ s5 H4 hCle (Ne.symm hDC) ⟨_, I5.loc.choose_spec.1⟩ I5.free I5.base I5.hok I5.bare I5.os q
    · refine thn (T.item (X.comp scope cl (own ++ fr.map (·.1)) H2.objs.size s H fp) rfl rfl rfl hc i [] s4 _ H4 _ I4 (stat fr4) st4 go) fun r s5 ⟨u, hr, h5⟩ => ?_
      subst hr
      refine thn h5 fun _ s6 ⟨x, H6, I6, r6, y6, st6, fr6⟩ => ?_
      have I6' := I6.pinned (stat fr6) (T.obj _ _ st6)
      refine thn (hg H2.objs.size s H fp _ s6 _ H6 x u _ I6' r6 (step x H6 y6)) fun _ s7 ⟨σ7, H7, I7, k7, q7⟩ => ?_
      refine thn (ht H2.objs.size s H fp _ s7 σ7 H7 _ I7 q7) fun ok s8 ⟨H8, I8, q8⟩ => ?_
      have again : ∀ {s9 : Shared} {σ9 : St} {H9 : Hp} {zs : List V}, Inv (X.comp scope cl (own ++ fr.map (·.1)) H2.objs.size s H fp) ([] ++ pinsAt fp s6.heap) σ9 H9 s9 → (∀ (i : Nat) v, (compSt own fr σ)[i]? = some (some v) → σ9[i]? = some (some v)) → (∃ m', m' < n ∧ W (i + 1) m' zs H9) →
          ∃ m, m < n ∧ ∃ i ys H', Inv (X.comp scope cl (own ++ fr.map (·.1)) H2.objs.size s H fp) [] (compSt own fr σ) H' s9 ∧ tn i s9.heap ∧ (∀ b ∈ fp, H' b = none) ∧ W i m ys H' := by
        intro s9 σ9 H9 zs I9 hσ ⟨m', hm, w9⟩
        refine ⟨m', hm, i + 1, zs, H9, (I9.sub_pins (fun p hp => absurd (show p ∈ ([] : List (Addr × Obj)) from hp) (by simp))).weak ?_ hσ, T.keep _ _ _ st6 fun b hb o e => (I9.pin (b, o) (List.mem_append_right _ (List.mem_append_right _ (mem_pinsAt hb e)))).1, fun b hb => ?_, w9⟩
        · rw [I9.len]; exact compSt_len own fr σ
        · obtain ⟨o, e, d⟩ := T.obj _ _ st6 b hb
          exact (I9.pin (b, o) (List.mem_append_right _ (List.mem_append_right _ (mem_pinsAt hb e)))).2.1
      cases ok with
      | false => exact (if_neg Bool.false_ne_true).mpr (again I8 (keepSt_get k7) (hN _ _ ((if_neg Bool.false_ne_true).mp q8)))
      | true =>
        refine (if_pos rfl).mpr ?_
        have q8' := (if_pos rfl).mp q8
        refine thn (he H2.objs.size s H fp _ s8 σ7 H8 _ I8 q8') fun y s9 ⟨yv, H9, I9, r9, hD9, hz, q9⟩ => ?_
        refine thn (mt_append _ s9 σ7 H9 (.ref s.heap.objs.size) [yv] (.ref s.heap.objs.size) [y] (fun _ H' => H' = upd H9 s.heap.objs.size (.lst (ys ++ [yv]))) I9 rfl (.cons r9 .nil) ⟨_, ys, yv, rfl, rfl, hD9, hz, rfl⟩) fun _ s10 ⟨_, H10, I10, _, e10⟩ => ?_
        subst e10
        exact again I10 (keepSt_get k7) (hN _ _ q9)
  exact codeAny_compStart_list (loop _ ⟨_, rfl⟩) (T.self _ 0 _ _ _ st1 (loop _ ⟨_, rfl⟩))

theorem comp_after {pins : List (Addr × Obj)} {σ : St} {H H' : Hp} {s s' : Shared} {fp : List Addr} (I : Inv X pins σ H s) (hf : ∀ b ∈ fp, FpOk X pins H b) (un : Un (frs X.stack) fp H H' s.heap s'.heap)
    (hok : HOk X.prog X.w H' s'.heap) (bare : AllBare s'.gens) (os : s'.os = s.os) : Inv X pins σ H' s' :=
  I.call' os un hok bare fun b hb => ⟨(hf b hb).2.2.2.1, (hf b hb).2.1, (hf b hb).2.2.2.2.1, (hf b hb).2.2.2.2.2⟩
theorem comp_let {pins : List (Addr × Obj)} {σ σ' : St} {H H' : Hp} {s s' : Shared} {C : Addr} {h' : Heap} (I : Inv X pins σ H s) (hC : s.heap.objs.size ≤ C) (hn : H' C = none) (I' : Inv X pins σ' H' s') (sb : Heap.SameBut C s'.heap h') :
    Inv X pins σ' H' { s' with heap := h' } := by
  obtain ⟨f0, f1, f2, f3, f4, f5⟩ := I.fpOk hC hn
  exact I'.turned (t' := s'.toks) (fun b o hb e => (sb.2 b hb).trans e) f0 f1 f3 f4 f5

/-- [elt for target in iter if ..] as a value -/
theorem pe_comp (hc : X.calm = true) (S : CompScope X scope cl own fr) (hi : PI X target iter wi)
    (hg : ∀ C s H fp, PG (X.comp scope cl (own ++ fr.map (·.1)) C s H fp) target g) (ht : ∀ C s H fp, PIfs (X.comp scope cl (own ++ fr.map (·.1)) C s H fp) ifs tc) (he : ∀ C s H fp, PE (X.comp scope cl (own ++ fr.map (·.1)) C s H fp) elt te)
    (hs : ∀ x, foldedSetIterable iter X.env x = pure x := by intro _; rfl) : PE X (.ListComp elt [⟨target, iter, ifs, 0⟩] scope pos) (tComp wi g tc te own fr) := by
  intro pins s σ H Q I h
  rw [eval_ListComp]
  refine wpAny_comprehension_free (use := none) rfl hs S.clos S.kind S.names (thn (hi pins s σ H _ I h) fun v s1 h1 => thn h1 fun itv s2 h2 => ?_)
  obtain ⟨it, fp, tn, J, H2, e, I2, T, st2, f2, hw⟩ := h2
  subst e
  refine comp_block (RR := fun acc C => compPost (model X.prog X.w) X.A X.xe none (EP X pins σ Q) acc C) hc S I2 T st2 f2 hg ht he hw ?_
  rintro D C s' H' hC hDC ⟨m, hn⟩ hCf un hok bare os q
  refine ⟨m, hn, fun h' hs' => ⟨.ref D, H', ?_, rfl, q⟩⟩
  exact comp_let (C := C) (σ := σ) I2 hC hCf (comp_after I2 f2 un hok bare os) hs'

/-- y = [elt for target in iter if ..] -/
theorem ps_comp {i : Nat} {y : Str} {py spos : Pos} (hN : X.N.Nodup) (hi' : X.N[i]? = some y) (hx : Loc X.env.scope y) (hc : X.calm = true) (S : CompScope X scope cl own fr) (hi : PI X target iter wi)
    (hg : ∀ C s H fp, PG (X.comp scope cl (own ++ fr.map (·.1)) C s H fp) target g) (ht : ∀ C s H fp, PIfs (X.comp scope cl (own ++ fr.map (·.1)) C s H fp) ifs tc) (he : ∀ C s H fp, PE (X.comp scope cl (own ++ fr.map (·.1)) C s H fp) elt te)
    (hf : X.fn y = true ∨ X.env.scope.names.lookup y = some .local := by first | exact .inl rfl | exact .inr rfl | assumption)
    (hsw : swapsWith (.ListComp elt [⟨target, iter, ifs, 0⟩] scope pos) (some (.Name y py)) spos.line X.env = pure true := by rfl)
    (hs : ∀ x, foldedSetIterable iter X.env x = pure x := by intro _; rfl) : PS X (.Assign [.Name y py] (.ListComp elt [⟨target, iter, ifs, 0⟩] scope pos) spos) (tAsg (tComp wi g tc te own fr) (gName i)) := by
  intro pins s σ H Dn I h
  rw [exec_Assign_Name_used _ _ _ _ hsw]
  refine wpAny_bind (wpAny_standAt (wpAny_bind ?_))
  show wpAny _ X.A (do let _ ← comprehension (.ListComp elt [⟨target, iter, ifs, 0⟩] scope pos) scope X.env _ (newList []) false (eval iter X.env) (some (assign (.Name y py) X.env))) _ _ s
  refine wpAny_bind (wpAny_mono (wpAny_comprehension_free (use := some (assign (.Name y py) X.env)) (Q := fun _ s' => SP X pins Dn .next s') rfl hs S.clos S.kind S.names (thn (hi pins s σ H _ I h) fun v s1 h1 => thn h1 fun itv s2 h2 => ?_))
    (fun _ s' hq => wpAny_pure (wpAny_pure hq)) fun _ _ e => e)
  obtain ⟨it, fp, tn, J, H2, e, I2, T, st2, f2, hw⟩ := h2
  subst e
  refine comp_block (RR := fun acc C => compPost (model X.prog X.w) X.A X.xe (some (assign (.Name y py) X.env)) (fun _ s' => SP X pins Dn .next s') acc C) hc S I2 T st2 f2 hg ht he hw ?_
  rintro D C s' H' hC hDC ⟨m, hn⟩ hCf un hok bare os q
  have I3 : Inv X pins σ H' s' := comp_after I2 f2 un hok bare os
  show wpAny _ X.A (assign (.Name y py) X.env (.ref D)) _ _ s'
  refine wpAny_assign_Name (store_ok2 I3 hN hi' hx (v := .ref D) rfl (fun s4 I4 ⟨a, hsa, ha⟩ => ?_) hf)
  have hCa : C ≠ a := by
    rcases ha with z | z
    · rw [z]; exact Nat.ne_of_gt (Nat.lt_of_lt_of_le I2.lt hC)
    · obtain ⟨v, q⟩ := I2.cell y a z
      exact Nat.ne_of_gt (Nat.lt_of_lt_of_le q.lt hC)
  refine ⟨m, hn.sameBut hsa hCa, fun h' hs' => ⟨_, H', comp_let (C := C) (σ := σ) I2 hC hCf I4 hs', q⟩⟩
end

/-! ### the forms one uses -/
theorem comp_list {K : PySem.W.Frag} {a D : Addr} {xs : List V} {g : TG} {tc : TT} {te : TE} {σ0 : St} {R : Hp → Prop} {H1 : Hp} (Pv : Nat → List V → Hp → Prop) (h0 : Pv 0 [] (upd H1 D (.lst []))) (hl : ∀ i ys H, i ≤ xs.length → Pv i ys H → SqL K H a xs)
    (hs : ∀ i x ys H, xs[i]? = some x → Pv i ys H → g x σ0 H fun σ4 H4 => keepSt σ0 σ4 ∧ tc σ4 H4 fun b H5 => if b = true then te σ4 H5 fun y H6 => H6 D = some (.lst ys) ∧ ys.length < sizeLine ∧ Pv (i + 1) (ys ++ [y]) (upd H6 D (.lst (ys ++ [y]))) else Pv (i + 1) ys H5)
    (hd : ∀ ys H, Pv xs.length ys H → R H) : ∃ W : Nat → Nat → List V → Hp → Prop, (∃ m, W 0 m [] (upd H1 D (.lst []))) ∧ CompTurns (Itl K a) D g tc te σ0 W R := by
  refine ⟨fun i m ys H => m = xs.length - i ∧ i ≤ xs.length ∧ Pv i ys H, ⟨_, rfl, Nat.zero_le _, h0⟩, ?_⟩
  rintro i m ys H ⟨rfl, hi, p⟩
  have q := hl i ys H hi p
  by_cases hlt : i < xs.length
  · refine .inr ⟨⟨xs, xs[i], q, by simp [hlt]⟩, Pv (i + 1), fun ys' H' p' => ⟨xs.length - (i + 1), by omega, rfl, hlt, p'⟩, fun x H' y => ?_⟩
    obtain ⟨e, y⟩ := y
    subst e
    exact hs i x ys _ (y xs q) p
  · have e : i = xs.length := by omega
    subst e
    exact .inl ⟨⟨xs, q, Nat.le_refl _⟩, hd ys H p⟩
theorem comp_range {lo : Int} {n : Nat} {D : Addr} {g : TG} {tc : TT} {te : TE} {σ0 : St} {R : Hp → Prop} {H1 : Hp} (Pv : Nat → List V → Hp → Prop) (h0 : Pv 0 [] (upd H1 D (.lst [])))
    (hs : ∀ i ys H, i < n → Pv i ys H → g (.int (lo + i)) σ0 H fun σ4 H4 => keepSt σ0 σ4 ∧ tc σ4 H4 fun b H5 => if b = true then te σ4 H5 fun y H6 => H6 D = some (.lst ys) ∧ ys.length < sizeLine ∧ Pv (i + 1) (ys ++ [y]) (upd H6 D (.lst (ys ++ [y]))) else Pv (i + 1) ys H5)
    (hd : ∀ ys H, Pv n ys H → R H) : ∃ W : Nat → Nat → List V → Hp → Prop, (∃ m, W 0 m [] (upd H1 D (.lst []))) ∧ CompTurns (Itr lo n) D g tc te σ0 W R := by
  refine ⟨fun i m ys H => m = n - i ∧ i ≤ n ∧ Pv i ys H, ⟨_, rfl, Nat.zero_le _, h0⟩, ?_⟩
  rintro i m ys H ⟨rfl, hi, p⟩
  by_cases hlt : i < n
  · refine .inr ⟨hlt, Pv (i + 1), fun ys' H' p' => ⟨n - (i + 1), by omega, rfl, hlt, p'⟩, fun x H' y => ?_⟩
    obtain ⟨e, y⟩ := y
    subst e y
    exact hs i ys _ hlt p
  · have e : i = n := by omega
    subst e
    exact .inl ⟨Nat.le_refl _, hd ys H p⟩
/-- a block without free names -/
theorem compScope_plain {X : Cx} {scope : Scope} {own : List Str} (hf : ∀ y ∈ scope.names, y.2 ≠ .free) (hc : ∀ y ∈ scope.names, y.2 ≠ .cell) (hk : scope.kind = .function) (hn : ∀ y ∈ scope.names, y.2 = .local → scope.names.lookup y.1 = some .local) : CompScope X scope [] own [] := by
  have rel : (relabel scope X.env).names = scope.names := by
    unfold relabel
    dsimp only
    refine (List.map_congr_left fun p hp => ?_).trans (List.map_id _)
    obtain ⟨n, k⟩ := p
    have : (k == NameKind.free) = false := by
      have := hf _ hp
      cases k <;> first | rfl | exact absurd rfl this
    simp [this]
  refine ⟨closureFor_none hf, hc, hk, hn, fun y c h => by simp at h, fun y h => ?_, fun p hp => by simp at hp⟩
  rw [rel] at h
  rcases h with h | h
  · exact absurd rfl (hc _ (PySem.mem_of_lookup h))
  · exact absurd rfl (hf _ (PySem.mem_of_lookup h))
end L2
namespace L2
open PySem PySem.Spec PyProof.Rows

/-! ### own exception classes -/
/-- an exception object of the class at C stands at a -/
def IsExc (a C : Addr) (h : Heap) : Prop := ∃ ob vs, h.get? a = some ob ∧ ob.cls = .ref C ∧ ob.data = .fields vs
def excO (a C : Addr) : HO := .ext (IsExc a C)
/-- an exception that flies towards the frames of `outer` -/
def Flies (P : Program) (w : World) (outer : List Env) (H H' : Hp) (s : Shared) (a C : Addr) (s' : Shared) : Prop :=
  ∃ (t : Addr) (B : Heap), s'.os = s.os ∧ AllBare s'.gens ∧ Un (frs outer) [] H H' s.heap s'.heap ∧ HOk P w H' s'.heap ∧ Heap.FlyingW B outer a (.ref C) (.ref t) s'.heap ∧
    (∀ b o, s'.heap.get? b = some o → H' b ≠ none → B.get? b = some o) ∧ (∀ b o0 o, s.heap.get? b = some o0 → s'.heap.get? b = some o → b ∉ frs outer → B.get? b = some o)
def CXr (P : Program) (w : World) : CXT := fun outer H s E e s' => ∃ (a C : Addr) (H' : Hp), e = .ref a ∧ Flies P w outer H H' s a C s' ∧ E (.ref C) none H'

section
variable {X : Cx} {pins : List (Addr × Obj)} {σ : St} {H : Hp} {s : Shared}
/-- what a raise in this body comes to -/
def RaisesTo (X : Cx) (E : XK) : Prop := ∀ (pins : List (Addr × Obj)) (σ : St) (H : Hp) (s : Shared) (h' : Heap) (a C : Addr) (vs : List Value), Inv X pins σ H s → Heap.MadeExcOf s.heap h' a (.ref C) vs → E (.ref C) none H → X.xe (.ref a) { s with heap := h' }

end
end L2
namespace L2
open PySem PySem.Spec PyProof.Rows

abbrev bmVE : List Value := [.type "ValueError", .type "Exception", .type "BaseException", .type "object"]
/-- a class of the text that stands under ValueError, straight or over others of the text -/
abbrev ExcC (K : PySem.W.Frag) (C : Addr) : Prop := PySem.W.excIn K C bmVE "ValueError.__new__" = true
theorem exc_get {K : PySem.W.Frag} {h : Heap} {C : Addr} (KX : K.In h) (ex : ExcC K C) : ∃ mro' ns' mN', (∃ nm' qn' bs' hd' sn' sub' ab' col' dd' j0 j1 j2 j3 j5,
    h.get? C = some (excClassObj nm' qn' C ns' bs' mro' hd' sn' sub' ab' col' dd' j0 j1 j2 j3 j5 "ValueError.__new__")) ∧ h.Ns ns' mN' ∧ mN' "__init__" = none ∧ OwnTail h bmVE mro' := by
  have ex' := ex
  unfold ExcC PySem.W.excIn at ex'
  split at ex'
  · rename_i dd' cd' sl' lk
    have lk' := KX _ _ lk
    split at ex'
    · rename_i C' rest' j0 j1 j2 j3 n' j5 hm hs
      rw [Bool.and_eq_true, Bool.and_eq_true, Bool.and_eq_true, Bool.and_eq_true, Bool.and_eq_true, beq_iff_eq, beq_iff_eq, beq_iff_eq] at ex'
      obtain ⟨⟨⟨⟨⟨z1, z2⟩, z3⟩, z4⟩, z5⟩, z6⟩ := ex'
      have z3' : cd'.hasDel = false := by simpa using z3
      subst z1 z2
      cases cd' with
      | mk a1 a2 a3 a4 a5 a6 a7 a8 a9 a10 a11 =>
        have hm' : a3 = .ref C' :: rest' := hm
        have h11 : a11 = false := z3'
        subst hm' h11
        have es : sl' = #[j0, j1, j2, j3, some (.builtin "ValueError.__new__"), j5] := by
          cases sl' with
          | mk l => exact congrArg Array.mk hs
        subst es
        exact ⟨rest', a4, _, ⟨_, _, _, _, _, _, _, _, _, _, _, _, _, _, lk'⟩, .of_isNs (PySem.W.isNs_of_in KX z5), PySem.W.nsMap_none_of_in KX z5 z6, PySem.W.tail_of_in KX z4⟩
    · cases ex'
  · cases ex'

section
variable {X : Cx}
/-- raise C(e, ..) in a def's own body -/
def tRaise (C : Addr) (E : XK) (t : TA) : TS := fun _ σ H => t σ H fun vs H1 => vs.length ≤ sizeLine ∧ E (.ref C) none H1
/-! ### try: one call; except W as n: a suite -/
/-- within an except suite -/
def Cx.inExc (X : Cx) (a : Addr) : Cx := { X with A := X.A.mark (some (.ref a)), calm := false, xe := fun _ _ => False }
variable {pins : List (Addr × Obj)} {σ : St} {H : Hp} {s : Shared}
end
end L2
namespace L2
open PySem PySem.Spec PyProof.Rows

theorem exc_type {M : Model} {h : Heap} {a C : Addr} (hx : IsExc a C h) : PySem.W.Looks M h (typeOf (.ref a)) (.ref C) := by
  obtain ⟨ob, vs, e, c, d⟩ := hx
  exact c ▸ (PySem.W.Looks.ld e).andThen .now
section
variable {X : Cx} {k : Nat} {f : Addr} {fd : FuncData} {ps : List Str} {sp : Sp} {dvs : List V} {ds : List Value} {fx : Str} {fp cpos bpos np hpos pos : Pos} {e : Expr} {es : List Expr} {t : TA}

/-- what the handler's suite is asked -/
def Caught (K : PySem.W.Frag) (W : Addr) (i : Nat) (ts : TS) (D : Ends) (σ : St) : XK := fun cls _ H2 => ∃ C, cls = .ref C ∧ PySem.W.kitCls K (.ref C) (.ref W) = some true ∧
  ∀ a, H2 a = none → ts { nx := fun σ' H' => D.nx (σ'.set i none) H', rt := D.rt, bk := fun σ' H' => D.bk (σ'.set i none) H', ct := fun σ' H' => D.ct (σ'.set i none) H' } (σ.set i (some (.ref a))) (upd H2 a (excO a C))

def tTry (K : PySem.W.Frag) (W : Addr) (i : Nat) (sp : Sp) (dvs : List V) (t : TA) (ts : TS) : TS := fun D σ H => t σ H fun vs H1 => sp (vs ++ dvs) H1 (fun _ H2 => D.nx σ H2) (Caught K W i ts D σ)
end
end L2
namespace L2
open PySem PySem.Spec PyProof.Rows
theorem exc_class {K : PySem.W.Frag} {prog : Program} {w : World} {A : Around} {E : Value → Shared → Prop} {Q : Option Value → Shared → Prop} {s : Shared} {a C : Addr} (KX : K.In s.heap) (hx : IsExc a C s.heap)
    (hga : PySem.W.findIn K (.ref C) "__getattribute__" = some (some (.builtin "BaseException.__getattribute__"))) (hnga : PySem.W.findIn K (.ref C) "__getattr__" = some none)
    (hcl : PySem.W.findIn K (.ref C) "__class__" = some (some (.builtin "object.__class__"))) (hm : PySem.W.mroIn K C (.type "object") = some true) (hB : PySem.W.subIn K (.ref C) (.type "BaseException") = some true)
    (h : Q (some (.ref C)) { s with toks := s.toks + 1 }) : wpAny (model prog w) A (getAttr? (.ref a) "__class__") Q E s := by
  have L0 := exc_type (M := model prog w) hx
  have L1 := PySem.W.looks_findIn (M := model prog w) KX hga
  have L2 := PySem.W.looks_findIn (M := model prog w) KX hnga
  have L3 := PySem.W.looks_findIn (M := model prog w) KX hcl
  have L4 := PySem.W.looks_subIn (M := model prog w) KX hB
  obtain ⟨h0, g, d, t, os⟩ := s
  have f3 := PySem.F.attr_ValueError.ga.bind (.ref a)
  unfold getAttr? getAttrBy? getAttrBy
  refine wpAny_bind (wpAny_mkText (wpAny_bind (wpAny_attempt (wpAny_holding (wpAny_bind (L0.at (wpAny_bind (L1.at ?_))))))))
  dsimp only
  have hx2 : (onTheHeap (Value.ref C) && Value.builtin "BaseException.__getattribute__" == Value.builtin "object.__getattribute__") = false := by
    have z : (Value.builtin "BaseException.__getattribute__" == Value.builtin "object.__getattribute__") = false := by decide +kernel
    rw [z, Bool.and_false]
  rw [hx2]
  simp only [Bool.false_eq_true, if_false]
  unfold getAttrByItsOwn
  repeat (any_goals (first | assumption | with_reducible refine L0.at ?_ | with_reducible refine L2.at ?_ | wp_step))
  have hsp : splitId "BaseException.__getattribute__" = some ("BaseException", "__getattribute__") := by decide +kernel
  have hkd : builtinKind "BaseException.__getattribute__" = some .slot := by decide +kernel
  have har := PySem.F.args_bexc_ga (.ref a) (.str (Str.ofString "__class__") t)
  refine codeAny_call_builtin PySem.F.attr_ValueError.ga.plain PySem.F.entry_bexc_ga ?_
  show wpAny _ _ (checkBuiltinCall "BaseException.__getattribute__" ⟨[.ref a, .str (Str.ofString "__class__") t], []⟩) _ _ _
  simp only [checkBuiltinCall, hkd, hsp]
  refine wpAny_bind ?_
  unfold isInstance
  have f5 := PySem.F.typeOf_object_class
  have f6 := PySem.F.slot_gs_get.lookup
  have f7 := PySem.F.slot_gs_set.lookup
  have hT5 : (⟨h0, g, d, t + 1, os⟩ : Shared).TypeIs (.builtin "object.__class__") "getset_descriptor" := PySem.F.typeOf_object_class
  refine wpAny_bind (L0.at (L4.at ?_))
  repeat (any_goals (first | assumption | with_reducible refine L0.at ?_ | with_reducible refine L3.at ?_ | wp_step))
  have Lo : PySem.W.Looks (model prog w) h0 (isSubtype (.ref C) (.type (".".intercalate ("object.__class__".cutAt '.').dropLast))) true := by
    rw [PySem.F.owner_object_class]
    exact PySem.W.looks_mroIn KX hm
  have hT6 : (⟨h0, g, d, t + 1, os⟩ : Shared).TypeIs (.builtin "object.__class__") "getset_descriptor" := PySem.F.typeOf_object_class
  refine codeAny_call_builtin PySem.F.slot_gs_get.plain PySem.F.entry_gs_get (PySem.F.slot_gs_get.check _ _ _ _ _ _ _ _ hT6 (PySem.F.args_gs_get _ _ _) ?_)
  repeat (any_goals (first | assumption | with_reducible refine L0.at ?_ | with_reducible refine Lo.at ?_ | wp_step))
  refine ⟨Code.quiet_builtin _ (by decide +kernel), codeAny_builtin PySem.F.entry_object_class ?_⟩
  repeat (any_goals (first | assumption | with_reducible refine L0.at ?_ | wp_step))
end L2
namespace L2
open PySem PySem.Spec PyProof.Rows

/-- what isinstance asks of an exception class of the text -/
structure ExcK (K : PySem.W.Frag) (C : Addr) : Prop where
  ex : ExcC K C
  ga : PySem.W.findIn K (.ref C) "__getattribute__" = some (some (.builtin "BaseException.__getattribute__"))
  nga : PySem.W.findIn K (.ref C) "__getattr__" = some none
  cl : PySem.W.findIn K (.ref C) "__class__" = some (some (.builtin "object.__class__"))
  ob : PySem.W.mroIn K C (.type "object") = some true
  be : PySem.W.subIn K (.ref C) (.type "BaseException") = some true
theorem kitx_exc {K : PySem.W.Frag} {a C : Addr} (k : ExcK K C) : PySem.W.KitX K (.ref a) (.ref C) (IsExc a C) where
  ty := fun _ _ _ p => exc_type p
  it := fun M h KX _ => by
    obtain ⟨_, _, _, ⟨_, _, _, _, _, _, _, _, _, _, _, _, _, _, hC⟩, _⟩ := exc_get KX k.ex
    intro A Q E s kk q
    unfold isType loadHead
    exact wpAny_bind (wpAny_loadPart (kk _ _ hC) (wpAny_pure q))
  ne := fun h tp dd its n sl KX htp => by
    obtain ⟨_, _, _, ⟨_, _, _, _, _, _, _, _, _, _, _, _, _, _, hC⟩, _⟩ := exc_get KX k.ex
    refine Bool.eq_false_iff.mpr fun q => ?_
    have e : C = tp := Value.ref.inj (beq_iff_eq.mp q)
    rw [← e, hC] at htp
    have z := congrArg Obj.data (Option.some.inj htp)
    unfold excClassObj at z
    cases z
  ca := fun KX p q => exc_class KX p k.ga k.nga k.cl k.ob k.be q

def clsVal : V → Value
  | .ty n => .type n
  | .ref a => .ref a
  | _ => .none
def isCls : V → Bool
  | .ty _ => true
  | .ref _ => true
  | _ => false
theorem RelV.cls {c : V} {u : Value} (r : RelV c u) (h : isCls c = true) : u = clsVal c := by
  cases c with
  | ty n => exact r
  | ref a => exact r
  | _ => cases h
theorem Vals.cls : ∀ {cs : List V} {us : List Value}, Vals cs us → cs.all isCls = true → us = cs.map clsVal
  | _, _, .nil, _ => rfl
  | _, _, .cons r t, h => by
    rw [List.all_cons, Bool.and_eq_true] at h
    rw [List.map_cons, r.cls h.1, Vals.cls t h.2]
/-- isinstance(x, c), x a plain value; isinstance(e, c), e an exception of the text; isinstance(e, (c, ..)) -/
def rIsi (K : PySem.W.Frag) : List V → Hp → VK → Prop := fun xs H Q => ∃ x c b, xs = [x, c] ∧ Q (.bl b) H ∧
  ((∃ t, TyOf K H x t ∧ isCls c = true ∧ PySem.W.kitOne K t (clsVal c) = some b) ∨
   (∃ a C, x = .ref a ∧ H a = some (excO a C) ∧ ExcK K C ∧ isCls c = true ∧ PySem.W.kitOne K (.ref C) (clsVal c) = some b) ∨
   (∃ a C tp cs, x = .ref a ∧ H a = some (excO a C) ∧ ExcK K C ∧ c = .ref tp ∧ H tp = some (.tup cs) ∧ cs.all isCls = true ∧ PySem.W.kitAny K (.ref C) (cs.map clsVal) = some b))
theorem call_isi {X : Cx} : CallR X (.builtin "isinstance") (rIsi X.K) := by
  intro pins s σ H xs us Q I rv h
  obtain ⟨x, c, b, rfl, q, h⟩ := h
  obtain ⟨u, cv, rfl, ru, rc⟩ := rv.two
  have fin : ∀ tk, EP X pins σ Q (.bool b) { s with toks := tk } := fun tk => ⟨.bl b, H, I.tok tk, rfl, q⟩
  rcases h with ⟨t, ty, hc, e⟩ | ⟨a, C, rfl, ha, k, hc, e⟩ | ⟨a, C, tp, cs, rfl, ha, k, rfl, ht, hc, e⟩
  · rw [rc.cls hc]
    exact isinst_ok I ru ty e fin
  · rw [rc.cls hc]
    cases (show u = Value.ref a from ru)
    obtain ⟨p, _⟩ := I.hok a _ ha
    exact PySem.W.kia_one (kitx_exc k) I.kIn p e (fun z => nomatch z) fin
  · cases (show u = Value.ref a from ru)
    cases (show cv = Value.ref tp from rc)
    obtain ⟨p, _⟩ := I.hok a _ ha
    obtain ⟨_, its, r, o, eo, co, n, dn⟩ := I.hok tp _ ht
    obtain ⟨ocl, odi, oda, osl⟩ := o
    cases (show ocl = .type "tuple" from co)
    cases (show oda = .seq its.toArray n from dn)
    exact PySem.W.kia_tup (its := its) (kitx_exc k) I.kIn p eo (by rw [r.cls hc]; exact e) (fun z => nomatch z) fin

/-! ### == and != of data: ints, bools, None, texts, lists and tuples of such -/
mutual
inductive DatV (K : PySem.W.Frag) (H : Hp) : V → PyData → Prop
  | non : DatV K H .non .none
  | bl (b : Bool) : DatV K H (.bl b) (.bool b)
  | int (i : Int) : DatV K H (.int i) (.int i)
  | str (x : Str) : DatV K H (.str x) (.str x)
  | lst {a : Addr} {xs : List V} {ds : List PyData} : SqL K H a xs → DatVs K H xs ds → DatV K H (.ref a) (.list ds)
  | tup {a : Addr} {xs : List V} {ds : List PyData} : SqT K H a xs → DatVs K H xs ds → DatV K H (.ref a) (.tuple ds)
inductive DatVs (K : PySem.W.Frag) (H : Hp) : List V → List PyData → Prop
  | nil : DatVs K H [] []
  | cons {x : V} {d : PyData} {xs : List V} {ds : List PyData} : DatV K H x d → DatVs K H xs ds → DatVs K H (x :: xs) (d :: ds)
end
section
variable {X : Cx} {pins : List (Addr × Obj)} {σ : St} {H : Hp} {s : Shared}
mutual
theorem DatV.reads (I : Inv X pins σ H s) : ∀ {x : V} {d : PyData} {u : Value}, DatV X.K H x d → RelV x u → ∃ as, Reads s.heap u d as
  | _, _, _, .non, r => by cases r; exact ⟨_, .none⟩
  | _, _, _, .bl b, r => by cases r; exact ⟨_, .bool b⟩
  | _, _, _, .int i, r => by obtain ⟨t, rfl⟩ := r; exact ⟨_, .int i t⟩
  | _, _, _, .str x, r => by obtain ⟨t, rfl⟩ := r; exact ⟨_, .str x t⟩
  | _, _, _, .lst hq hs, r => by
    cases r
    obtain ⟨its, rv, ⟨o, n, e, c, dd, dt⟩, _⟩ := I.list hq
    obtain ⟨as, ra⟩ := DatVs.reads I hs rv
    exact ⟨_, .list e c dt (by simpa using ra)⟩
  | _, _, _, .tup hq hs, r => by
    cases r
    obtain ⟨its, rv, ⟨o, e, c, n, dt⟩, _⟩ := I.tuple hq
    obtain ⟨as, ra⟩ := DatVs.reads I hs rv
    exact ⟨_, .tuple e c dt (by simpa using ra)⟩
theorem DatVs.reads (I : Inv X pins σ H s) : ∀ {xs : List V} {ds : List PyData} {us : List Value}, DatVs X.K H xs ds → Vals xs us → ∃ as, ReadsAll s.heap us ds as
  | _, _, _, .nil, .nil => ⟨_, .nil⟩
  | _, _, _, .cons h hs, .cons r rs => by
    obtain ⟨as, ra⟩ := DatV.reads I h r
    obtain ⟨bs, rb⟩ := DatVs.reads I hs rs
    exact ⟨_, .cons ra rb⟩
end
end
def rEqD (K : PySem.W.Frag) (neg : Bool) : R2 := fun x y H Q => ∃ d1 d2, DatV K H x d1 ∧ DatV K H y d2 ∧ SeqAt.shaped d1 = true ∧ SeqAt.shaped d2 = true ∧ Q (.bl (neg != PyData.eqv d1 d2)) H
theorem op_eqD {X : Cx} (hu : X.A.units + 64 < cLine) : OpR X (compareOp .Eq) (rEqD X.K false) := by
  intro pins s σ H x y v u Q I rx ry h
  obtain ⟨d1, d2, h1, h2, s1, s2, q⟩ := h
  obtain ⟨as, r1⟩ := h1.reads I rx
  obtain ⟨bs, r2⟩ := h2.reads I ry
  exact eq_dataH r1 r2 s1 s2 hu ⟨.bl _, H, I, by cases PyData.eqv d1 d2 <;> rfl, q⟩
theorem op_neD {X : Cx} (hu : X.A.units + 64 < cLine) : OpR X (compareOp .NotEq) (rEqD X.K true) := by
  intro pins s σ H x y v u Q I rx ry h
  obtain ⟨d1, d2, h1, h2, s1, s2, q⟩ := h
  obtain ⟨as, r1⟩ := h1.reads I rx
  obtain ⟨bs, r2⟩ := h2.reads I ry
  exact ne_dataH r1 r2 s1 s2 hu ⟨.bl _, H, I, by cases PyData.eqv d1 d2 <;> rfl, q⟩

/-! ### numbers of the laws' own draws -/
def Lt2 (p : Nat) (a : Int) : Prop := a.natAbs < 2 ^ p
/-- a product of two numbers below 2^p, 2^q -/
def CMulB (i j : Int) : Prop := ∃ p q, Lt2 p i ∧ Lt2 q j ∧ p ≤ 100000 ∧ q ≤ 100000
def CDivB (i j : Int) : Prop := 0 < j ∧ Lt2 9000 j
theorem op_fdivB {X : Cx} : OpR X (binaryOp .FloorDiv) (rI CDivB fun i j => .int (i / j)) := opI fun i j _ _ _ _ _ hc q => by
  have h1 : (0 : Int) < j := hc.1
  have h2 : j.natAbs < 2 ^ 9000 := hc.2
  refine floordiv_int (by omega) (by rw [Int.fdiv_eq_ediv_of_nonneg i (by omega)]; exact q) (.inl (PyProof.noPylong_of_log2 ?_))
  exact (Nat.log2_lt (by omega)).mpr h2

/-! ### heaps that grow -/
theorem Same.new {H : Hp} {p : Addr} {o : HO} (h : H p = none) : Same H (upd H p o) := fun b u e => by rw [upd_ne (ne_of_none e h)]; exact e
theorem Same.put {H H1 : Hp} {p : Addr} {o : HO} (s : Same H H1) (h : H p = none) : Same H (upd H1 p o) := fun b u e => by rw [upd_ne (ne_of_none e h)]; exact s b u e
theorem upd_eq {H : Hp} {p b : Addr} {o u : HO} (h : H b = some u) (n : b ≠ p) : upd H p o b = some u := by rw [upd_ne n]; exact h
/-- a list of pairs of ints -/
inductive Prs (H : Hp) : List V → List (Int × Int) → Prop
  | nil : Prs H [] []
  | cons {p : Addr} {a b : Int} {xs : List V} {rs : List (Int × Int)} : H p = some (.tup [.int a, .int b]) → Prs H xs rs → Prs H (.ref p :: xs) ((a, b) :: rs)
theorem Prs.snoc {H : Hp} {xs : List V} {rs : List (Int × Int)} (h : Prs H xs rs) {p : Addr} {a b : Int} (e : H p = some (.tup [.int a, .int b])) : Prs H (xs ++ [.ref p]) (rs ++ [(a, b)]) := by
  induction h with
  | nil => exact .cons e .nil
  | cons e1 _ ih => exact .cons e1 ih
theorem Prs.keep {H H' : Hp} {xs : List V} {rs : List (Int × Int)} (h : Prs H xs rs) (k : ∀ p ys, H p = some (.tup ys) → H' p = some (.tup ys)) : Prs H' xs rs := by
  induction h with
  | nil => exact .nil
  | cons e1 _ ih => exact .cons (k _ _ e1) ih
theorem Prs.same {H H' : Hp} {xs : List V} {rs : List (Int × Int)} (h : Prs H xs rs) (k : Same H H') : Prs H' xs rs := h.keep fun p ys e => k p _ e
/-- a list is written: the tuples stay -/
theorem tups_lst {H : Hp} {l : Addr} {zs : List V} {o : HO} (h : H l = some (.lst zs)) : ∀ p ys, H p = some (.tup ys) → upd H l o p = some (.tup ys) := fun p ys e => upd_eq e (ne_of e h (fun z => by cases z))
def prD (r : Int × Int) : PyData := .tuple [.int r.1, .int r.2]
theorem Prs.dats {K : PySem.W.Frag} {H : Hp} {xs : List V} {rs : List (Int × Int)} (h : Prs H xs rs) : DatVs K H xs (rs.map prD) := by
  induction h with
  | nil => exact .nil
  | cons e _ ih => exact .cons (.tup (SqT.of e) (.cons (.int _) (.cons (.int _) .nil))) ih
theorem prD_eqv (r q : Int × Int) : PyData.eqv (prD r) (prD q) = decide (r = q) := by
  obtain ⟨a, b⟩ := r
  obtain ⟨c, d⟩ := q
  simp only [prD, PyData.eqv, PyData.eqvAll, Prod.mk.injEq]
  by_cases h1 : a = c <;> by_cases h2 : b = d <;> simp [h1, h2]
theorem prs_eqv : ∀ rs qs : List (Int × Int), PyData.eqvAll (rs.map prD) (qs.map prD) = decide (rs = qs)
  | [], [] => by simp [PyData.eqvAll]
  | [], _ :: _ => by simp [PyData.eqvAll]
  | _ :: _, [] => by simp [PyData.eqvAll]
  | r :: rs, q :: qs => by
    rw [List.map_cons, List.map_cons]
    simp only [PyData.eqvAll, prD_eqv, prs_eqv rs qs]
    by_cases h1 : r = q <;> by_cases h2 : rs = qs <;> simp [h1, h2]
theorem prs_can : ∀ rs : List (Int × Int), PyData.canLayAll0 (rs.map prD) = true
  | [] => by simp [PyData.canLayAll0]
  | r :: rs => by
    rw [List.map_cons]
    simp [PyData.canLayAll0, prD, PyData.canLay0, prs_can rs]
theorem prs_depth : ∀ rs : List (Int × Int), PyData.depthAll (rs.map prD) ≤ 2
  | [] => by simp [PyData.depthAll]
  | r :: rs => by
    have ih := prs_depth rs
    rw [List.map_cons]
    simp only [PyData.depthAll, prD, PyData.depth]
    omega
theorem web_shaped (n : Int) (rs : List (Int × Int)) : SeqAt.shaped (.tuple [.int n, .list (rs.map prD)]) = true := by
  unfold SeqAt.shaped
  rw [Bool.and_eq_true]
  have := prs_depth rs
  refine ⟨by simp only [PyData.canLay0, PyData.canLayAll0, prs_can rs, Bool.and_self], decide_eq_true ?_⟩
  simp only [PyData.depth, PyData.depthAll]
  omega
theorem web_eqv (n m : Int) (rs qs : List (Int × Int)) : PyData.eqv (.tuple [.int n, .list (rs.map prD)]) (.tuple [.int m, .list (qs.map prD)]) = (decide (n = m) && decide (rs = qs)) := by
  simp only [PyData.eqv, PyData.eqvAll, prs_eqv, Bool.and_true]
  by_cases h : n = m <;> simp [h]
end L2
namespace L2
open PySem PySem.Spec PyProof.Rows
section
variable {P : Program} {w : World} {K : PySem.W.Frag} {mg : Str → Option Value} {base : Heap}
end
section
variable {X : Cx}
/-- a type of Python's own, by its name -/
theorem pe_typ {x : Str} {T : String} {pos : Pos} (hm : X.mg x = none) (hv : bootBuiltins x = some (.type T)) (hg : Gl X x := by rfl) (hn : x ≠ "__name__" := by decide) (hd : (x == ("__debug__" : Str)) = false := by decide) : PE X (.Name x pos) (tC (.ty T)) := pe_bltn hg hm hv rfl hn hd
end
theorem boot_isi : bootBuiltins "isinstance" = some (.builtin "isinstance") := by first | rfl | decide +kernel
theorem boot_list : bootBuiltins "list" = some (.type "list") := by first | rfl | decide +kernel
theorem boot_bool : bootBuiltins "bool" = some (.type "bool") := by first | rfl | decide +kernel
theorem kit_self {K : PySem.W.Frag} {t : Value} : PySem.W.kitOne K t t = some true := by
  unfold PySem.W.kitOne
  rw [if_pos (beq_self_eq_true t)]

/-! ### the rules with the written part told by name (a comprehension's block has the same) -/
section
variable {X : Cx} (K : PySem.W.Frag)
theorem kIsi (h : X.K = K := by rfl) : CallR X (.builtin "isinstance") (rIsi K) := h ▸ call_isi
theorem kIxL (h : X.K = K := by rfl) : IxR X (rIxL K) := h ▸ ix_list
theorem kIxT (h : X.K = K := by rfl) : IxR X (rIxT K) := h ▸ ix_tup
theorem kIn (h : X.K = K := by rfl) : OpR X (compareOp .In) (rIn K false) := h ▸ op_in_seq
theorem kLen (h : X.K = K := by rfl) : CallR X (.builtin "len") (fun xs H Q => ∃ p ys, xs = [.ref p] ∧ (SqL K H p ys ∨ SqT K H p ys) ∧ Q (.int ys.length) H) := h ▸ call_len_seq
theorem kListOf (h : X.K = K := by rfl) : CallR X (.type "list") (fun xs H Q => ∃ p ys, xs = [.ref p] ∧ (SqL K H p ys ∨ SqT K H p ys) ∧ ∀ l, H l = none → Q (.ref l) (upd H l (.lst ys))) := h ▸ call_list_of
theorem kEqD (hu : X.A.units + 64 < cLine) (h : X.K = K := by rfl) : OpR X (compareOp .Eq) (rEqD K false) := h ▸ op_eqD hu
theorem kNeD (hu : X.A.units + 64 < cLine) (h : X.K = K := by rfl) : OpR X (compareOp .NotEq) (rEqD K true) := h ▸ op_neD hu
theorem kSl (h : X.K = K := by rfl) : SlR X (rSlL K) := h ▸ sl_list
theorem kTup {es : List Expr} {k : Nat} {t : TGs} {n : Nat} {pos : Pos} (hc : X.calm = true) (h : PGs X es t) (hK : X.K = K := by rfl)
    (hn : (assignEach es X.env).length = n := by rfl) (hst : (assignEach es X.env).findIdx? (·.1) = none := by rfl) : PG X (.Tuple es k pos) (gTup K n t) := hK ▸ pg_tup hc h hn hst
theorem kList {tg l : Expr} {tl : TE} (hl : PE X l tl) (h : X.K = K := by rfl) : PI X tg l (iList K tl) := h ▸ pi_list hl
end
end L2
namespace L2
open PySem
/-! ### grids -/
def gStep (r c : Nat) (p : Nat) : List (Int × Int) :=
  (if ((p : Int) + 1) % (c : Int) = 0 then [] else [((p : Int), (p : Int) + 1)]) ++ (if (p : Int) + (c : Int) < (r : Int) * (c : Int) then [((p : Int), (p : Int) + (c : Int))] else [])
def gRoads (r c i : Nat) : List (Int × Int) := (List.range i).flatMap (gStep r c)
def dStep (r c i j : Nat) : List (Int × Int) :=
  (if (j : Int) < (c : Int) - 1 then [((i : Int) * (c : Int) + (j : Int), (i : Int) * (c : Int) + (j : Int) + 1)] else []) ++
  (if (i : Int) < (r : Int) - 1 then [((i : Int) * (c : Int) + (j : Int), ((i : Int) + 1) * (c : Int) + (j : Int))] else [])
def dRow (r c i j : Nat) : List (Int × Int) := (List.range j).flatMap (dStep r c i)
def dRoads (r c i : Nat) : List (Int × Int) := (List.range i).flatMap fun k => dRow r c k c
end L2
namespace L2
open PySem PySem.Spec PyProof.Rows
/-- all of a written list -/
def AllP {α : Type} (P : α → Prop) : List α → Prop
  | [] => True
  | x :: r => P x ∧ AllP P r
theorem AllP.mem {α : Type} {P : α → Prop} : ∀ {l : List α}, AllP P l → ∀ x ∈ l, P x
  | _ :: _, h, _, .head _ => h.1
  | _ :: _, h, x, .tail _ m => AllP.mem h.2 x m
/-- a block with free names -/
theorem compScope_free {X : Cx} {scope : Scope} {cl : List (Str × Addr)} {own : List Str} {fr : List (Str × Nat)} (L : List (Str × NameKind)) (hcl : closureFor scope X.env = pure cl) (hL : (relabel scope X.env).names = L)
    (hc : ∀ y ∈ scope.names, y.2 ≠ .cell) (hk : scope.kind = .function) (hn : ∀ y ∈ scope.names, y.2 = .local → scope.names.lookup y.1 = some .local)
    (hcs : AllP (fun p => X.env.cells.lookup p.1 = some p.2) cl) (hall : AllP (fun p => (p.2 = .cell ∨ p.2 = .free) → ∃ c, cl.lookup p.1 = some c) L)
    (hfr : AllP (fun p => X.N[p.2]? = some p.1 ∧ (X.env.kindOf p.1 = some .cell ∨ X.env.kindOf p.1 = some .free) ∧ (L.lookup p.1 = some .cell ∨ L.lookup p.1 = some .free)) fr) : CompScope X scope cl own fr :=
  ⟨hcl, hc, hk, hn, fun y c h => hcs.mem (y, c) (PySem.mem_of_lookup h), fun y h => by
    rw [hL] at h
    rcases h with h | h
    · exact hall.mem _ (PySem.mem_of_lookup h) (.inl rfl)
    · exact hall.mem _ (PySem.mem_of_lookup h) (.inr rfl), fun p hp => by
    rw [hL]
    exact hfr.mem p hp⟩
theorem no_cf {k : NameKind} {P : Prop} (h : k = .cell ∨ k = .free) (h1 : (k == .cell) = false := by rfl) (h2 : (k == .free) = false := by rfl) : P := by
  rcases h with z | z
  · subst z; exact absurd h1 (by decide)
  · subst z; exact absurd h2 (by decide)
theorem boot_min : bootBuiltins "min" = some (.builtin "min") := by first | rfl | decide +kernel

/-! ### webs -/
def GoodWeb (n : Int) (rs : List (Int × Int)) : Prop := 1 ≤ n ∧ n ≤ 16 ∧ rs.length ≤ 30 ∧ (∀ p ∈ rs, 0 ≤ p.1 ∧ p.1 < p.2 ∧ p.2 < n) ∧ rs.Nodup
instance (n : Int) (rs : List (Int × Int)) : Decidable (GoodWeb n rs) := by unfold GoodWeb; infer_instance
/-- from H0 to H all stands but the deck at d, which is one still -/
structure Dk (H0 H : Hp) (d : Addr) : Prop where
  keep : ∀ b o, b ≠ d → H0 b = some o → H b = some o
  at_ : ∃ n : Int, H d = some (.lst [.int n])
section
variable {H0 H H' : Hp} {d p : Addr} {o : HO}
end
theorem seq_mid {t u : TS} {D : Ends} {σ : St} {H : Hp} (Pm : St → Hp → Prop) (h2 : ∀ σ' H', Pm σ' H' → u D σ' H') (h1 : (∀ σ' H', Pm σ' H' → u D σ' H') → t { D with nx := u D } σ H) : tSeq t u D σ H := h1 h2
end L2
namespace L2
open PySem PySem.Spec PyProof.Rows
theorem vals_get : ∀ {xs : List V} {us : List Value}, xs.length = us.length → (∀ (i : Nat) x u, xs[i]? = some x → us[i]? = some u → RelV x u) → Vals xs us
  | [], [], _, _ => .nil
  | [], _ :: _, h, _ => by simp at h
  | _ :: _, [], h, _ => by simp at h
  | x :: xs, u :: us, h, k => .cons (k 0 x u rfl rfl) (vals_get (by simpa using h) fun i y v e1 e2 => k (i + 1) y v (by simpa using e1) (by simpa using e2))
section
variable {X : Cx} (K : PySem.W.Frag)
/-- sorted(xs), xs a list of less than 64 ints -/
def rSorted : List V → Hp → VK → Prop := fun xs H Q => ∃ (p : Addr) (ns : List Int), xs = [.ref p] ∧ SqL K H p (ns.map V.int) ∧ ns.length < 64 ∧ ∀ (l : Addr) (ns' : List Int), H l = none → ns'.Perm ns → ns'.Pairwise (· ≤ ·) → Q (.ref l) (upd H l (.lst (ns'.map V.int)))
end
section
variable {X : Cx}
/-- range(n) as a value -/
theorem pe_rng1 {a : Expr} {ta : TA} {p pos : Pos} (hg : Gl X "range") (hm : X.mg "range" = none) (ha : PA X [a] ta) (hs : starEach [a] X.env = [(false, eval a X.env)] := by rfl) :
    PE X (.Call (.Name "range" p) [a] [] pos) (fun σ H Q => ta σ H fun vs H1 => ∃ j : Int, vs = [.int j] ∧ ∀ r, H1 r = none → Q (.ref r) (upd H1 r (.rng 0 j))) := by
  intro pins s σ H Q I h
  refine Call_ (ld_blt I hg hm boot_range (PyProof.Rows.callWith_type1 (thn (ha pos pins s σ H _ I h) fun us s1 ⟨vs, H1, I1, r1, q1⟩ => ?_) hs rfl))
  obtain ⟨j, rfl, q⟩ := q1
  obtain ⟨u, rfl, ru⟩ := r1.one
  obtain ⟨t, rfl⟩ := ru
  refine call_range_1 ?_
  exact ⟨.ref _, _, I1.laid (o := .rng 0 j) (fun b o e => Heap.get?_push_of_some _ e) (Nat.le_refl _) ⟨_, _, _, Heap.get?_push_size _ rfl⟩, rfl, q _ I1.fresh⟩
/-- list(range(n)) -/
theorem call_list_rng (hc : X.calm = true) : CallR X (.type "list") (fun xs H Q => ∃ r n, xs = [.ref r] ∧ H r = some (.rng 0 (n : Nat)) ∧ n ≤ 1000 ∧ ∀ l, H l = none → Q (.ref l) (upd H l (.lst ((List.range n).map fun i => V.int ((i : Nat) : Int))))) := by
  intro pins s σ H xs us Q I rv h
  obtain ⟨r, n, rfl, hr, hn, q⟩ := h
  obtain ⟨u, rfl, ru⟩ := rv.one
  cases ru
  obtain ⟨t, u, v, e⟩ := I.hok r _ hr
  have h16 : (16777216 : Nat) = sizeLine := sizeLine_eq.symm
  refine call_list_range (n := n) (I.ok.hd hc) e (small_one (by omega) (by omega) (by omega) (by omega)) (by rw [rangeSize_one]; split <;> omega) (by omega) fun h' tk acc' c' hk hS hit => ?_
  refine ⟨.ref _, _, I.laid (o := .lst ((List.range n).map fun i => V.int ((i : Nat) : Int))) hk (Nat.le_refl _) ⟨by rw [List.length_map, List.length_range]; omega, acc'.toList, c', ?_, hS⟩, rfl, q _ I.fresh⟩
  refine vals_get (by rw [List.length_map, List.length_range, Array.length_toList]; exact hit.1.symm) fun i x u e1 e2 => ?_
  rw [Array.getElem?_toList] at e2
  obtain ⟨tk', rfl⟩ := hit.2 i u e2
  rw [List.getElem?_map] at e1
  cases z : (List.range n)[i]? with
  | none => rw [z] at e1; cases e1
  | some k =>
    rw [z] at e1
    have hk : k = i := by
      obtain ⟨h1, h2⟩ := List.getElem?_eq_some_iff.mp z
      rw [List.getElem_range] at h2
      exact h2.symm
    subst hk
    cases e1
    exact ⟨tk', by rw [Int.mul_one, Int.zero_add]⟩
end
section
variable {X : Cx}
theorem op_negI : UnR X (unaryOp .USub) (rU fun i => .int (-i)) := by
  intro pins s σ H x v Q I rx h
  obtain ⟨i, rfl, q⟩ := h
  obtain ⟨t, rfl⟩ := rx
  exact neg_int ⟨.int (-i), H, I.tok _, ⟨_, rfl⟩, q⟩
end
theorem cut_to {xs : List V} {k : Nat} : cutV xs none (some (k : Int)) = xs.take k := by
  unfold cutV
  rw [HT.sIx_none, HT.sIx_nat, List.drop_zero, Nat.sub_zero]
  by_cases h : k ≤ xs.length
  · rw [Nat.min_eq_left h]
  · rw [Nat.min_eq_right (by omega), List.take_length, List.take_of_length_le (by omega)]
theorem cut_from {xs : List V} {k : Nat} : cutV xs (some (k : Int)) none = xs.drop k := by
  unfold cutV
  rw [HT.sIx_none, HT.sIx_nat]
  by_cases h : k ≤ xs.length
  · rw [Nat.min_eq_left h, List.take_of_length_le (by rw [List.length_drop]; exact Nat.le_refl _)]
  · rw [Nat.min_eq_right (by omega), List.drop_length, List.drop_of_length_le (by omega), List.take_nil]
theorem ints_dats {K : PySem.W.Frag} {H : Hp} : ∀ ns : List Int, DatVs K H (ns.map V.int) (ns.map PyData.int)
  | [] => .nil
  | n :: ns => .cons (.int n) (ints_dats ns)
theorem ints_can : ∀ ns : List Int, PyData.canLayAll0 (ns.map PyData.int) = true
  | [] => by simp [PyData.canLayAll0]
  | n :: ns => by
    rw [List.map_cons]
    simp [PyData.canLayAll0, PyData.canLay0, ints_can ns]
theorem ints_depth : ∀ ns : List Int, PyData.depthAll (ns.map PyData.int) ≤ 1
  | [] => by simp [PyData.depthAll]
  | n :: ns => by
    have ih := ints_depth ns
    rw [List.map_cons]
    simp only [PyData.depthAll, PyData.depth]
    omega
theorem ints_shaped (ns : List Int) : SeqAt.shaped (.list (ns.map PyData.int)) = true := by
  unfold SeqAt.shaped
  rw [Bool.and_eq_true]
  have := ints_depth ns
  refine ⟨by simp only [PyData.canLay0]; exact ints_can ns, decide_eq_true ?_⟩
  simp only [PyData.depth]
  omega
theorem ints_eqv (ns ms : List Int) : PyData.eqv (.list (ns.map PyData.int)) (.list (ms.map PyData.int)) = decide (ns = ms) := by
  rw [← PySem.W.ked_eqvAll]
  simp only [PyData.eqv]
end L2
namespace L2
open PySem PySem.Spec PyProof.Rows
/-! ### an exception passes on through a frame -/
/-! ### x in a list or tuple of data -/
section
variable {X : Cx}
def rInD (K : PySem.W.Frag) (neg : Bool) : R2 := fun x y H Q => ∃ p xs d ds, y = .ref p ∧ (SqL K H p xs ∨ SqT K H p xs) ∧ DatV K H x d ∧ DatVs K H xs ds ∧ SeqAt.shaped d = true ∧ (∀ e ∈ ds, SeqAt.shaped e = true) ∧ Q (.bl (neg != ds.any fun e => PyData.eqv e d)) H
open Classical in
/-- the data read at a value -/
noncomputable def datAt (h : Heap) (u : Value) : PyData := if q : ∃ d as, Reads h u d as ∧ SeqAt.shaped d = true then choose q else .none
/-! ### list.insert(0, x) -/
def rInsert0 : V → List V → Hp → VK → Prop := fun x vs H Q => ∃ l xs y, x = .ref l ∧ vs = [.int 0, y] ∧ H l = some (.lst xs) ∧ xs.length < sizeLine ∧ Q .non (upd H l (.lst (y :: xs)))
end
end L2
namespace L2
open PySem PySem.Spec PyProof.Rows
section
variable {X : Cx}
/-! ### list.insert(k, x) -/
def rInsert : V → List V → Hp → VK → Prop := fun x vs H Q => ∃ l xs i y, x = .ref l ∧ vs = [.int i, y] ∧ H l = some (.lst xs) ∧ 0 ≤ i ∧ i ≤ xs.length ∧ xs.length < sizeLine ∧ Q .non (upd H l (.lst (xs.take i.toNat ++ y :: xs.drop i.toNat)))
/-! ### enumerate(list) -/
def Ite (K : PySem.W.Frag) (a : Addr) : It :=
  ⟨fun i H => ∃ xs x, SqL K H a xs ∧ xs[i]? = some x, fun i H x H' => ∃ T y, x = .ref T ∧ H T = none ∧ H' = upd H T (.tup [.int (i : Nat), y]) ∧ ∀ xs, SqL K H a xs → xs[i]? = some y, fun i H => ∃ xs, SqL K H a xs ∧ xs.length ≤ i⟩
def iEnum (K : PySem.W.Frag) (ta : TA) : TI := fun σ H R => ta σ H fun vs H1 => ∃ a xs, vs = [.ref a] ∧ SqL K H1 a xs ∧ R (Ite K a) H1
end
/-! ### try: a body of calls -/
abbrev TB := Ends → (St → XK) → St → Hp → Prop
/-- a try's body: what it comes to, and where an exception of a callee flies -/
def PB (X : Cx) (body : List Stmt) (tb : TB) : Prop := ∀ (pins : List (Addr × Obj)) (s : Shared) (σ : St) (H : Hp) (D : Ends) (Eσ : St → XK) (QQ : Flow → Shared → Prop) (EE : Value → Shared → Prop), Inv X pins σ H s → tb D Eσ σ H →
  (∀ fl s', SP X pins D fl s' → QQ fl s') → (∀ σ1 ev H1 s1 s', Inv X pins σ1 H1 s1 → CXr X.prog X.w X.stack H1 s1 (Eσ σ1) ev s' → EE ev s') → wpAny (model X.prog X.w) X.A (execs body X.env) QQ EE s
section
variable {X : Cx} {k : Nat} {f : Addr} {fd : FuncData} {ps : List Str} {sp : Sp} {dvs : List V} {ds : List Value} {fx : Str} {fp cpos bpos np hpos pos : Pos} {e : Expr} {es : List Expr} {t : TA}
end
end L2
namespace L2
open PySem PySem.Spec PyProof.Rows
section
variable {X : Cx} {a b c d : Expr} {ta tb tc td : TE} {pos : Pos}
/-! ### a op b op c op d -/
def tChain3 (r1 r2 r3 : R2) (ta tb tc td : TE) : TE := fun σ H Q => ta σ H fun x H1 => tb σ H1 fun y H2 => r1 x y H2 fun z H3 => ∃ k, z = .bl k ∧
  (if k = true then tc σ H3 fun w' H4 => r2 y w' H4 fun z' H5 => ∃ k', z' = .bl k' ∧ (if k' = true then td σ H5 fun u' H6 => r3 w' u' H6 Q else Q (.bl false) H5) else Q (.bl false) H3)
/-! ### all(list of truths) -/
theorem boot_all : bootBuiltins "all" = some (.builtin "all") := by first | rfl | decide +kernel
theorem boot_set : bootBuiltins "set" = some (.type "set") := by first | rfl | decide +kernel
theorem vals_bool : ∀ {bs : List Bool} {us : List Value}, Vals (bs.map V.bl) us → us = bs.map Value.bool
  | [], _, .nil => rfl
  | b :: bs, _, .cons r t => by rw [List.map_cons, ← vals_bool t]; cases r; rfl
theorem all_range (bs : List Bool) : (List.range bs.length).all (fun i => bs.getD i false) = bs.all id := by
  induction bs with
  | nil => rfl
  | cons b bs ih =>
    rw [List.length_cons, List.range_succ_eq_map, List.all_cons, List.all_map, List.all_cons]
    show (b && _) = (b && _)
    congr 1
theorem kAll (K : PySem.W.Frag) (hc : X.calm = true) (h : X.K = K := by rfl) : CallR X (.builtin "all") (fun xs H Q => ∃ (p : Addr) (bs : List Bool), xs = [.ref p] ∧ SqL K H p (bs.map V.bl) ∧ Q (.bl (bs.all id)) H) := by
  subst h
  intro pins s σ H xs us Q I rv h
  obtain ⟨p, bs, rfl, hq, q⟩ := h
  obtain ⟨u, rfl, ru⟩ := rv.one
  cases ru
  obtain ⟨its, r, pl, hz⟩ := I.list hq
  have e := vals_bool r
  have hh : X.A.in1.handled = none := I.ok.hd hc
  obtain ⟨o, eo, _⟩ := id pl.isList
  have hlt : p < s.heap.objs.size := Heap.lt_size eo
  refine call_all_walk (wpAny_pyIter_list pl.isList ?_)
  refine ⟨s.heap.objs.size, _, _, _, _, _, fun i => bs.getD i false, rfl, Walks.list hh s.heap.objs.size p (Nat.ne_of_lt hlt) its.toArray, ⟨⟨_, Heap.get?_push_size _ rfl, rfl, rfl⟩, pl.isList.at fun o e => Heap.get?_push_of_some _ e⟩, ?_, fun h' tk hk => ?_⟩
  · intro i v s' Q' E' hv hq'
    have hv' : its[i]? = some v := by simpa using hv
    rw [e, List.getElem?_map] at hv'
    cases z : bs[i]? with
    | none => rw [z] at hv'; cases hv'
    | some b =>
      rw [z] at hv'
      cases hv'
      have eb : bs.getD i false = b := by rw [List.getD_eq_getElem?_getD, z]; rfl
      exact wpAny_truthy_bool (by rw [← eb]; exact hq')
  · have hl : its.toArray.size = bs.length := by rw [List.size_toArray, e, List.length_map]
    have I1 : Inv X pins σ H { s with heap := s.heap.push { cls := .type "list_iterator", data := .fields #[.ref p, .int 0 0] } } := I.kept (t' := s.toks) fun b o e => Heap.get?_push_of_some _ e
    refine ⟨.bl _, H, I.kept fun b o e' => hk b o ?_ (Heap.get?_push_of_some _ e'), ?_, q⟩
    · intro z
      have : b = s.heap.objs.size := by simpa using z
      exact absurd (Heap.lt_size e') (by rw [this]; exact Nat.lt_irrefl _)
    · show Value.bool _ = Value.bool _
      rw [hl, all_range]

/-! ### set(list of ints), len of it -/
end
end L2
namespace L2
open PySem PySem.Spec PyProof.Rows
/-! ### lists of pairs as tables -/
section
variable {κ : Type} [DecidableEq κ]
def valV (kvs : List (κ × V)) (k : κ) : Option V := (kvs.find? fun kv => decide (kv.1 = k)).map (·.2)
/-- in its place, or at the end -/
def putK (kvs : List (κ × V)) (k : κ) (v : V) : List (κ × V) :=
  if (kvs.any fun kv => decide (kv.1 = k)) = true then kvs.map (fun kv => if kv.1 = k then (kv.1, v) else kv) else kvs ++ [(k, v)]
def dropK (kvs : List (κ × V)) (k : κ) : List (κ × V) := kvs.filter fun kv => decide (kv.1 ≠ k)

theorem valV_pos {p : κ × V} {r : List (κ × V)} {k : κ} (e : p.1 = k) : valV (p :: r) k = some p.2 := by simp [valV, List.find?_cons, e]
theorem valV_neg {p : κ × V} {r : List (κ × V)} {k : κ} (e : ¬ p.1 = k) : valV (p :: r) k = valV r k := by simp [valV, List.find?_cons, e]
theorem valV_any (k : κ) : ∀ kvs : List (κ × V), (kvs.any fun kv => decide (kv.1 = k)) = (valV kvs k).isSome
  | [] => rfl
  | p :: r => by
    rw [List.any_cons]
    by_cases e : p.1 = k
    · simp only [valV_pos e, decide_eq_true e, Bool.true_or, Option.isSome_some]
    · rw [valV_neg e, decide_eq_false e, Bool.false_or]; exact valV_any k r
theorem valV_map (k j : κ) (y : V) : ∀ kvs : List (κ × V), valV (kvs.map fun kv => if kv.1 = k then (kv.1, y) else kv) j = (valV kvs j).map fun x => if j = k then y else x
  | [] => rfl
  | p :: r => by
    have ih := valV_map k j y r
    rw [List.map_cons]
    by_cases h : p.1 = k
    · rw [if_pos h]
      by_cases e : p.1 = j
      · rw [valV_pos (p := (p.1, y)) e, valV_pos e, Option.map_some, if_pos (e.symm.trans h)]
      · rw [valV_neg (p := (p.1, y)) e, valV_neg e, ih]
    · rw [if_neg h]
      by_cases e : p.1 = j
      · rw [valV_pos (p := p) e, valV_pos e, Option.map_some, if_neg (fun z => h (e.trans z))]
      · rw [valV_neg (p := p) e, valV_neg e, ih]
theorem valV_snoc (k j : κ) (y : V) : ∀ kvs : List (κ × V), valV kvs k = none → valV (kvs ++ [(k, y)]) j = if j = k then some y else valV kvs j
  | [], _ => by
    by_cases e : k = j
    · rw [if_pos e.symm]; exact valV_pos (p := (k, y)) e
    · rw [if_neg (fun z => e z.symm)]; exact valV_neg (p := (k, y)) e
  | p :: r, hn => by
    rw [List.cons_append]
    have hk : ¬ p.1 = k := fun z => by rw [valV_pos z] at hn; cases hn
    rw [valV_neg hk] at hn
    have ih := valV_snoc k j y r hn
    by_cases e : p.1 = j
    · rw [valV_pos e, valV_pos e, if_neg (fun z => hk (e.trans z))]
    · rw [valV_neg e, valV_neg e, ih]
theorem valV_put (kvs : List (κ × V)) (k j : κ) (y : V) : valV (putK kvs k y) j = if j = k then some y else valV kvs j := by
  unfold putK
  by_cases a : (kvs.any fun kv => decide (kv.1 = k)) = true
  · rw [if_pos a, valV_map]
    rw [valV_any] at a
    by_cases e : j = k
    · obtain ⟨x, hx⟩ := Option.isSome_iff_exists.mp a
      rw [if_pos e, e, hx, Option.map_some, if_pos rfl]
    · rw [if_neg e]
      cases valV kvs j with
      | none => rfl
      | some x => rw [Option.map_some, if_neg e]
  · rw [if_neg a]
    refine valV_snoc k j y kvs ?_
    rw [valV_any] at a
    cases q : valV kvs k with
    | none => rfl
    | some x => rw [q] at a; exact (a rfl).elim
theorem length_putK (kvs : List (κ × V)) (k : κ) (v : V) : (putK kvs k v).length ≤ kvs.length + 1 := by
  unfold putK
  split
  · rw [List.length_map]; omega
  · rw [List.length_append, List.length_cons, List.length_nil]; omega
theorem RelO.isSome_eq {o : Option V} {u : Option Value} (r : RelO o u) : o.isSome = u.isSome := by
  cases o with
  | none => cases u with
    | none => rfl
    | some _ => exact (show False from r).elim
  | some _ => cases u with
    | none => exact (show False from r).elim
    | some _ => rfl
/-- raw tables of the same keys -/
theorem KV.val {kvs : List (κ × V)} {vs : List (κ × Value)} (r : KV kvs vs) (k : κ) : RelO (valV kvs k) (valueAt vs k) := by
  unfold KV at r
  induction r with
  | nil => exact True.intro
  | @cons p q ps qs h t ih =>
    obtain ⟨h1, h2⟩ := h
    by_cases e : p.1 = k
    · have e' : q.1 = k := h1.symm.trans e
      have b : valueAt (q :: qs) k = some q.2 := by simp [valueAt, List.find?_cons, e']
      rw [valV_pos e, b]; exact h2
    · have e' : ¬ q.1 = k := fun z => e (h1.trans z)
      have b : valueAt (q :: qs) k = valueAt qs k := by simp [valueAt, List.find?_cons, e']
      rw [valV_neg e, b]; exact ih
theorem KV.any {kvs : List (κ × V)} {vs : List (κ × Value)} (r : KV kvs vs) (k : κ) : (kvs.any fun kv => decide (kv.1 = k)) = vs.any fun kv => decide (kv.1 = k) := by
  unfold KV at r
  induction r with
  | nil => rfl
  | cons h t ih => rw [List.any_cons, List.any_cons, ih, h.1]
theorem KV.repl {kvs : List (κ × V)} {vs : List (κ × Value)} (r : KV kvs vs) (k : κ) {y : V} {u : Value} (ry : RelV y u) :
    KV (kvs.map fun kv => if kv.1 = k then (kv.1, y) else kv) (vs.map fun kv => if kv.1 = k then (kv.1, u) else kv) := by
  unfold KV at r ⊢
  induction r with
  | nil => exact .nil
  | @cons p q ps qs h t ih =>
    rw [List.map_cons, List.map_cons]
    refine .cons ?_ ih
    obtain ⟨h1, h2⟩ := h
    by_cases e : p.1 = k
    · rw [if_pos e, if_pos (h1.symm.trans e)]; exact ⟨h1, ry⟩
    · rw [if_neg e, if_neg (fun z => e (h1.trans z))]; exact ⟨h1, h2⟩
theorem KV.put {kvs : List (κ × V)} {vs : List (κ × Value)} (r : KV kvs vs) (k : κ) {y : V} {u : Value} (ry : RelV y u) : KV (putK kvs k y) (stored vs k u) := by
  unfold putK stored
  rw [r.any k]
  by_cases e : (vs.any fun kv => decide (kv.1 = k)) = true
  · rw [if_pos e, if_pos e]; exact r.repl k ry
  · rw [if_neg e, if_neg e]; exact Paired.snoc r ⟨rfl, ry⟩
theorem KV.length {kvs : List (κ × V)} {vs : List (κ × Value)} (r : KV kvs vs) : kvs.length = vs.length := Paired.length r
end


/-! ### a tracked dict, its keys ints and texts or tuples of these -/
theorem kV_is {P : Program} {w : World} {k : Key} {u : Value} (r : RelV (kV k) u) : (mixKind P w).is k u = true := by
  cases k with
  | inl i => obtain ⟨t, e⟩ := (show ∃ t, u = Value.int i t from r); subst e; exact mixKind_int P w i t
  | inr x => obtain ⟨t, e⟩ := (show ∃ t, u = Value.str x t from r); subst e; exact mixKind_str P w x t
theorem items_are {P : Program} {w : World} : ∀ {ks : List Key} {us : List Value}, Vals (ks.map kV) us → ItemsAre (mixKind P w) ks us
  | [], _, r => by rw [List.map_nil] at r; cases r; exact .nil
  | k :: ks, _, r => by
    rw [List.map_cons] at r
    cases r with
    | cons h t => exact .cons (kV_is h) (items_are t)

/-- raw entries of a dict with tuple keys -/
abbrev KT (H : Hp) : List (List Key × V) → List (List Key × Addr × Value) → Prop := Paired fun p q => p.1 = q.1 ∧ H q.2.1 = some (.tup (p.1.map kV)) ∧ RelV p.2 q.2.2
theorem KT.val {H : Hp} {kvs : List (List Key × V)} {xs : List (List Key × Addr × Value)} (r : KT H kvs xs) (k : List Key) : RelO (valV kvs k) ((atKey xs k).map (·.2)) := by
  induction r with
  | nil => exact True.intro
  | @cons p q ps qs h t ih =>
    obtain ⟨h1, _, h2⟩ := h
    by_cases e : p.1 = k
    · have e' : q.1 = k := h1.symm.trans e
      have b : atKey (q :: qs) k = some q.2 := by simp [atKey, List.find?_cons, e']
      rw [valV_pos e, b]; exact h2
    · have e' : ¬ q.1 = k := fun z => e (h1.trans z)
      have b : atKey (q :: qs) k = atKey qs k := by simp [atKey, List.find?_cons, e']
      rw [valV_neg e, b]; exact ih
theorem KT.repl {H : Hp} {kvs : List (List Key × V)} {xs : List (List Key × Addr × Value)} (r : KT H kvs xs) (k : List Key) {y : V} {u : Value} (ry : RelV y u) :
    KT H (kvs.map fun kv => if kv.1 = k then (kv.1, y) else kv) (xs.map (putAt k u)) := by
  induction r with
  | nil => exact .nil
  | @cons p q ps qs h t ih =>
    rw [List.map_cons, List.map_cons]
    refine .cons ?_ ih
    obtain ⟨h1, h2, h3⟩ := h
    unfold putAt
    by_cases e : p.1 = k
    · rw [if_pos e, if_pos (h1.symm.trans e)]; exact ⟨h1, h2, ry⟩
    · rw [if_neg e, if_neg (fun z => e (h1.trans z))]; exact ⟨h1, h2, h3⟩
theorem KT.put {H : Hp} {kvs : List (List Key × V)} {xs : List (List Key × Addr × Value)} (r : KT H kvs xs) (k : List Key) {b : Addr} {y : V} {u : Value} (hb : H b = some (.tup (k.map kV))) (ry : RelV y u) :
    KT H (putK kvs k y) (storedH xs k b u) := by
  have e : (kvs.any fun kv => decide (kv.1 = k)) = (atKey xs k).isSome := by
    rw [valV_any, (r.val k).isSome_eq, Option.isSome_map]
  unfold putK storedH
  rw [e]
  by_cases q : (atKey xs k).isSome = true
  · rw [if_pos q, if_pos q]; exact r.repl k ry
  · rw [if_neg q, if_neg q]; exact Paired.snoc r ⟨rfl, hb, ry⟩
theorem KT.keeps {H H' : Hp} {kvs : List (List Key × V)} {xs : List (List Key × Addr × Value)} (r : KT H kvs xs) (ht : ∀ b ys, H b = some (.tup ys) → H' b = some (.tup ys)) : KT H' kvs xs :=
  Paired.mapP r fun _ _ z => ⟨z.1, ht _ _ z.2.1, z.2.2⟩

section
variable {P : Program} {w : World} {H : Hp} {h : Heap} {a : Addr}
theorem rd_of {u : HO} (ok : HOk P w H h) (e : Rd H a u) : ObjOk P w H h a u := e.ok ok
theorem dk_rd {kvs : List (Key × V)} (ok : HOk P w H h) (e : Rd H a (.dK kvs)) : kvs.length ≤ sizeLine ∧ (a == sysModules) = false ∧ ∃ vs, KV kvs vs ∧ h.DictOf (mixKind P w) a vs :=
  show ObjOk P w H h a (.dK kvs) from rd_of ok e
theorem dk_of {kvs : List (Key × V)} (ok : HOk P w H h) (e : H a = some (.dK kvs)) : kvs.length ≤ sizeLine ∧ (a == sysModules) = false ∧ ∃ vs, KV kvs vs ∧ h.DictOf (mixKind P w) a vs := dk_rd ok (.inl e)
/-- a tracked tuple of ints and texts is a key -/
theorem key_of {ks : List Key} (ok : HOk P w H h) (e : H a = some (.tup (ks.map kV))) : (tupleKind (mixKind P w)).is h ks a := by
  obtain ⟨_, its, r, o, h1, h2, n, h3⟩ := (show ObjOk P w H h a (.tup (ks.map kV)) from ok a _ e)
  exact ⟨o, its.toArray, n, h1, h2, h3, by simpa using items_are r⟩
theorem dt_rd {kvs : List (List Key × V)} (ok : HOk P w H h) (e : Rd H a (.dT kvs)) : kvs.length ≤ sizeLine ∧ (a == sysModules) = false ∧
    ∃ xs, KT H kvs xs ∧ h.DictOfH (tupleKind (mixKind P w)) a xs := by
  obtain ⟨z, y, xs, r, o, es, ep, h1, h2, h3, h4, h5⟩ := (show ObjOk P w H h a (.dT kvs) from rd_of ok e)
  refine ⟨z, y, xs, r, o, es, ep, h1, h2, h3, h4, fun x hx => ?_, h5⟩
  have all : ∀ {l : List (List Key × V)} {m : List (List Key × Addr × Value)}, KT H l m → ∀ x ∈ m, (tupleKind (mixKind P w)).is h x.1 x.2.1 := by
    intro l m q
    induction q with
    | nil => intro x hx; exact nomatch hx
    | @cons p q ps qs hq t ih =>
      intro x hx
      rcases List.mem_cons.mp hx with e | hx
      · subst e
        exact key_of ok (by rw [← hq.1]; exact hq.2.1)
      · exact ih x hx
  exact all r x hx
theorem dt_of {kvs : List (List Key × V)} (ok : HOk P w H h) (e : H a = some (.dT kvs)) : kvs.length ≤ sizeLine ∧ (a == sysModules) = false ∧
    ∃ xs, KT H kvs xs ∧ h.DictOfH (tupleKind (mixKind P w)) a xs := dt_rd ok (.inl e)
end

/-- what the dict at a holds at the key y -/
def DGet (H : Hp) (a : Addr) (y : V) (r : Option V) : Prop :=
  (∃ kvs k, Rd H a (.dK kvs) ∧ y = kV k ∧ r = valV kvs k) ∨ ∃ kvs k b, Rd H a (.dT kvs) ∧ y = .ref b ∧ H b = some (.tup (k.map kV)) ∧ r = valV kvs k
/-- the heap behind a[y] = v -/
def DPut (H : Hp) (a : Addr) (y v : V) (H' : Hp) : Prop :=
  (∃ kvs k, H a = some (.dK kvs) ∧ y = kV k ∧ kvs.length < sizeLine ∧ H' = upd H a (.dK (putK kvs k v))) ∨
  ∃ kvs k b, H a = some (.dT kvs) ∧ y = .ref b ∧ H b = some (.tup (k.map kV)) ∧ kvs.length < sizeLine ∧ H' = upd H a (.dT (putK kvs k v))
theorem DGet.k {H : Hp} {a : Addr} {kvs : List (Key × V)} {k : Key} (e : H a = some (.dK kvs)) : DGet H a (kV k) (valV kvs k) := .inl ⟨kvs, k, .inl e, rfl, rfl⟩
theorem DGet.t {H : Hp} {a b : Addr} {kvs : List (List Key × V)} {k : List Key} (e : H a = some (.dT kvs)) (eb : H b = some (.tup (k.map kV))) : DGet H a (.ref b) (valV kvs k) := .inr ⟨kvs, k, b, .inl e, rfl, eb, rfl⟩
theorem DPut.k {H : Hp} {a : Addr} {kvs : List (Key × V)} {k : Key} {v : V} (e : H a = some (.dK kvs)) (hl : kvs.length < sizeLine) : DPut H a (kV k) v (upd H a (.dK (putK kvs k v))) := .inl ⟨kvs, k, e, rfl, hl, rfl⟩
theorem DPut.t {H : Hp} {a b : Addr} {kvs : List (List Key × V)} {k : List Key} {v : V} (e : H a = some (.dT kvs)) (eb : H b = some (.tup (k.map kV))) (hl : kvs.length < sizeLine) :
    DPut H a (.ref b) v (upd H a (.dT (putK kvs k v))) := .inr ⟨kvs, k, b, e, rfl, eb, hl, rfl⟩


section
variable {X : Cx} {pins : List (Addr × Obj)} {σ : St} {H : Hp} {s : Shared} {a : Addr} {y v : V} {u r : Value} {o : Option V} {A : Around} {E : Value → Shared → Prop}

theorem Inv.big (I : Inv X pins σ H s) : sysModules < s.heap.objs.size := by
  have h : mainGlobals < s.heap.objs.size := (I.mod.glob.keeps I.bk).lt
  exact Nat.lt_trans (by decide) h

/-- d[y], there -/
theorem d_getItem {Q : Value → Shared → Prop} (hu : A.units + 1 < cLine) (I : Inv X pins σ H s) (g : DGet H a y (some v)) (ry : RelV y u) (h : ∀ w' s', Inv X pins σ H s' → RelV v w' → Q w' s') :
    wpAny (model X.prog X.w) A (getItem (.ref a) u) Q E s := by
  rcases g with ⟨kvs, k, e, ey, l⟩ | ⟨kvs, k, b, e, ey, eb, l⟩
  · subst ey
    obtain ⟨z, hd, vs, rel, dd⟩ := dk_rd I.hok e
    obtain ⟨w', hw, rw'⟩ := RelO.some_of (v := v) (o := valueAt vs k) (by rw [l]; exact rel.val k)
    exact wpAny_getItem_of (kV_is ry) dd.mapOf hw (h w' _ (I.tok _) rw')
  · subst ey
    cases (show u = Value.ref b from ry)
    obtain ⟨z, hd, xs, rel, dd⟩ := dt_rd I.hok e
    obtain ⟨w', hw, rw'⟩ := RelO.some_of (v := v) (o := (atKey xs k).map (·.2)) (by rw [l]; exact rel.val k)
    obtain ⟨p, hp, hp2⟩ := Option.map_eq_some_iff.mp hw
    refine wpAny_getItem_heap (tupleKind_room_in1 hu) (key_of I.hok eb) dd hp ?_
    rw [hp2]
    exact h w' _ (I.tok _) rw'
theorem d_notIn {Q : Value → Shared → Prop} (hu : A.units + 1 < cLine) (I : Inv X pins σ H s) (g : DGet H a y o) (ry : RelV y u) (h : ∀ s', Inv X pins σ H s' → Q (.bool (!o.isSome)) s') :
    wpAny (model X.prog X.w) A (compareOp .NotIn u (.ref a)) Q E s := by
  rcases g with ⟨kvs, k, e, ey, l⟩ | ⟨kvs, k, b, e, ey, eb, l⟩
  · subst ey
    obtain ⟨z, hd, vs, rel, dd⟩ := dk_rd I.hok e
    refine wpAny_notIn_of (kV_is ry) hd dd.mapOf ?_
    rw [← (rel.val k).isSome_eq, ← l]
    exact h _ (I.tok _)
  · subst ey
    cases (show u = Value.ref b from ry)
    obtain ⟨z, hd, xs, rel, dd⟩ := dt_rd I.hok e
    refine wpAny_notIn_heap (tupleKind_room_in1 hu) (key_of I.hok eb) hd dd ?_
    have q := (rel.val k).isSome_eq
    rw [Option.isSome_map] at q
    rw [← q, ← l]
    exact h _ (I.tok _)
/-- a dict's object is replaced -/
theorem d_write {h' : Heap} {t' : Nat} {ob : HO} (I : Inv X pins σ H s) (mu : Mut (H a)) (hs : Heap.SameBut a s.heap h') (he : ∃ q, h'.get? a = some q) (new : ObjOk X.prog X.w (upd H a ob) h' a ob) :
    Inv X pins σ (upd H a ob) { s with heap := h', toks := t' } :=
  I.write (x := a) (e := a) mu (.inl rfl) (fun b q hb z => (hs.2 b hb).trans z) he new
theorem dk_new {P : Program} {w : World} {H' : Hp} {h' : Heap} {kvs : List (Key × V)} {vs : List (Key × Value)} (z : kvs.length ≤ sizeLine) (hd : (a == sysModules) = false) (rel : KV kvs vs) (dd : h'.DictOf (mixKind P w) a vs) :
    ObjOk P w H' h' a (.dK kvs) := ⟨z, hd, vs, rel, dd⟩
/-- d[y] = v -/
theorem d_setItem {H' : Hp} {Q : Unit → Shared → Prop} (hu : A.units + 1 < cLine) (I : Inv X pins σ H s) (g : DPut H a y v H') (ry : RelV y u) (rv : RelV v r) (h : ∀ s', Inv X pins σ H' s' → Q () s') :
    wpAny (model X.prog X.w) A (setItem (.ref a) u r) Q E s := by
  rcases g with ⟨kvs, k, e, ey, l, eH⟩ | ⟨kvs, k, b, e, ey, eb, l, eH⟩
  · subst ey eH
    obtain ⟨z, hd, vs, rel, dd⟩ := dk_of I.hok e
    have hz : vs.length ≤ sizeLine := by rw [← rel.length]; exact z
    have hl : (putK kvs k v).length ≤ sizeLine := by have := length_putK kvs k v; omega
    refine wpAny_setItem_pairs (hsz := hz) (kV_is ry) dd fun h' dd' hs => h _ ?_
    have he : ∃ q, h'.get? a = some q := let ⟨q, _, _, hq, _⟩ := dd'; ⟨q, hq⟩
    exact d_write I (by rw [e]; exact True.intro) hs he (dk_new hl hd (rel.put k rv) dd')
  · subst ey eH
    cases (show u = Value.ref b from ry)
    obtain ⟨z, hd, xs, rel, dd⟩ := dt_of I.hok e
    have hz : xs.length ≤ sizeLine := by rw [← Paired.length rel]; exact z
    have hl : (putK kvs k v).length ≤ sizeLine := by have := length_putK kvs k v; omega
    refine wpAny_setItem_heap (hsz := hz) (tupleKind_room_in1 hu) (key_of I.hok eb) dd fun h' dd' hs => h _ ?_
    obtain ⟨q, es, ep, hq, h2, h3, h4, _, h5⟩ := dd'
    refine d_write I (by rw [e]; exact True.intro) hs ⟨q, hq⟩ ⟨hl, hd, _, (rel.put k eb rv).keeps fun c ys ec => ?_, q, es, ep, hq, h2, h3, h4, h5⟩
    rw [upd_ne (ne_of ec e (fun z => nomatch z))]
    exact ec
end

section
variable {X : Cx} {pins : List (Addr × Obj)} {σ : St} {H : Hp} {s : Shared} {a : Addr} {kvs : List (Key × V)} {k : Key} {u : Value} {A : Around} {E : Value → Shared → Prop}
end


/-! ### readings and rules -/
/-- the element of a subscription, not a slice -/
def NoSl (i : Expr) : Prop := ∀ ov iv, subscripted i false ov iv = operate [ov, iv] (getItem ov iv)
theorem subD_of {prog : Program} {w : World} {A : Around} {E : Value → Shared → Prop} {s : Shared} {env : Env} {value slice : Expr} {pos : Pos} {T id : String} {Q : Value → Shared → Prop}
    (hl : typeLookup (.type T) "__getitem__" = pure (some (.builtin id))) (hs : NoSl slice)
    (h : wpAny (model prog w) A (eval value env) (fun o s₁ => wpAny (model prog w) A (eval slice env) (fun i s₂ => s₂.TypeIs o T ∧ wpAny (model prog w) A (getItem o i) Q E s₂) E s₁) E s) :
    wpAny (model prog w) A (eval (.Subscript value slice pos) env) Q E s := by
  refine Subscript_ (wpAny_mono h (fun o s₁ h₁ => wpAny_mono h₁ (fun i s₂ h₂ => ?_) fun _ _ x => x) fun _ _ x => x)
  obtain ⟨hT, h₂⟩ := h₂
  unfold subscriptTail
  refine wpAny_bind ?_
  rw [getitemInPython_of_ne hT.not_modules]
  refine wpAny_bind (wpAny_specialOf hT hl ?_)
  have fin : wpAny (model prog w) A (subscripted slice false o i) (fun r s₃ => wpAny (model prog w) A (letTemporaryGo value o r >>= fun _ => pure r) Q E s₃) E s₂ := by
    rw [hs o i]
    exact wpAny_operating (wpAny_mono h₂ (fun r s₃ h₃ => wpAny_bind (wpAny_letTemporaryGo (wpAny_pure h₃))) fun _ _ x => x)
  first
    | exact wpAny_pure (wpAny_bind fin)
    | exact wpAny_bind (wpAny_pure (wpAny_bind fin))
    | exact wpAny_bind fin

theorem dict_typeIs {X : Cx} {pins : List (Addr × Obj)} {σ : St} {H : Hp} {s : Shared} {a : Addr} {y : V} {o : Option V} (I : Inv X pins σ H s) (g : DGet H a y o) : s.TypeIs (.ref a) "dict" := by
  rcases g with ⟨kvs, k, e, _, _⟩ | ⟨kvs, k, b, e, _, _, _⟩
  · obtain ⟨_, _, vs, _, dd⟩ := dk_rd I.hok e
    exact dd.typeIs
  · obtain ⟨_, _, xs, _, dd⟩ := dt_rd I.hok e
    exact dd.typeIs
/-- d[y] -/
def tDGet (td ty : TE) : TE := fun σ H Q => td σ H fun x H1 => ty σ H1 fun y H2 => ∃ a v, x = .ref a ∧ DGet H2 a y (some v) ∧ Q v H2
/-- y in d, y not in d -/
def tDIn (ty td : TE) : TE := fun σ H Q => ty σ H fun y H1 => td σ H1 fun x H2 => ∃ a o, x = .ref a ∧ DGet H2 a y o ∧ Q (.bl o.isSome) H2
def tDNotIn (ty td : TE) : TE := fun σ H Q => ty σ H fun y H1 => td σ H1 fun x H2 => ∃ a o, x = .ref a ∧ DGet H2 a y o ∧ Q (.bl (!o.isSome)) H2
/-- d[y] = v -/
def sDPut (td ty tv : TE) : TS := fun D σ H => tv σ H fun v H1 => td σ H1 fun x H2 => ty σ H2 fun y H3 => ∃ a H4, x = .ref a ∧ DPut H3 a y v H4 ∧ D.nx σ H4
/-- d[y] op= v -/
def sDAug (td ty tv : TE) (rd : V → V → Hp → VK → Prop) : TS := fun D σ H => td σ H fun x H1 => ty σ H1 fun y H2 => ∃ a v, x = .ref a ∧ DGet H2 a y (some v) ∧
  tv σ H2 fun y2 H3 => rd v y2 H3 fun z H4 => ∃ H5, DPut H4 a y z H5 ∧ D.nx σ H5
/-- del d[y] -/
def sDDel (td ty : TE) : TS := fun D σ H => td σ H fun x H1 => ty σ H1 fun y H2 => ∃ a kvs k, x = .ref a ∧ H2 a = some (.dK kvs) ∧ y = kV k ∧ (valV kvs k).isSome = true ∧ D.nx σ (upd H2 a (.dK (dropK kvs k)))

section
variable {X : Cx} {o i e value : Expr} {pos pos' tpos : Pos} {td ty tv : TE}
theorem pe_dget (hu : X.A.units + 1 < cLine) (ho : PE X o td) (hi : PE X i ty) (hs : NoSl i) : PE X (.Subscript o i pos) (tDGet td ty) := by
  intro pins s σ H Q I h
  refine subD_of PySem.F.slot_dict_getitem.lookup hs (thn (ho pins s σ H _ I h) fun u s1 ⟨x, H1, I1, rx, q1⟩ => thn (hi pins s1 σ H1 _ I1 q1) fun iv s2 ⟨y, H2, I2, ry, a, v, ex, g, q2⟩ => ?_)
  subst ex
  obtain rfl : u = Value.ref a := rx
  exact ⟨dict_typeIs I2 g, d_getItem hu I2 g ry fun w' s3 I3 rw' => ⟨v, H2, I3, rw', q2⟩⟩
theorem pc_dnotin (hu : X.A.units + 1 < cLine) (hi : PE X i ty) (ho : PE X o td) : PC X .NotIn i o (tDNotIn ty td) := by
  intro pins s σ H Q I h
  refine thn (hi pins s σ H _ I h) fun iv s1 ⟨y, H1, I1, ry, q1⟩ => thn (ho pins s1 σ H1 _ I1 q1) fun u s2 ⟨x, H2, I2, rx, a, ov, ex, g, q2⟩ => ?_
  subst ex
  obtain rfl : u = Value.ref a := rx
  exact d_notIn hu I2 g ry fun s3 I3 => ⟨.bl (!ov.isSome), H2, I3, rfl, q2⟩
theorem ps_dput (hu : X.A.units + 1 < cLine) (ho : PE X o td) (hi : PE X i ty) (hv : PE X value tv) (hs : swapsWith value (some (.Subscript o i pos')) pos.line X.env = pure false) :
    PS X (.Assign [.Subscript o i pos'] value pos) (sDPut td ty tv) := by
  intro pins s σ H D I h
  refine wpAny_Assign_Subscript (thn (hv pins s σ H _ I h) fun r s1 ⟨v, H1, I1, rv, q1⟩ => thn (ho pins s1 σ H1 _ I1 q1) fun u s2 ⟨x, H2, I2, rx, q2⟩ => thn (hi pins s2 σ H2 _ I2 q2) fun iv s3 ⟨y, H3, I3, ry, a, H4, ex, g, q3⟩ => ?_) hs
  subst ex
  obtain rfl : u = Value.ref a := rx
  exact d_setItem hu I3 g ry rv fun s4 I4 => ⟨σ, H4, I4, q3⟩
end


/-! ### displays -/
theorem dk_empty {P : Program} {w : World} {H : Hp} (h : Heap) (hb : sysModules < h.objs.size) : ObjOk P w H (h.push { cls := .type "dict", data := .dict #[] }) h.objs.size (.dK []) :=
  ⟨Nat.zero_le _, beq_eq_false_iff_ne.mpr (Ne.symm (Nat.ne_of_lt hb)), [], .nil, Heap.DictOf.new h⟩
theorem dt_empty {P : Program} {w : World} {H : Hp} (h : Heap) (hb : sysModules < h.objs.size) : ObjOk P w H (h.push { cls := .type "dict", data := .dict #[] }) h.objs.size (.dT []) :=
  ⟨Nat.zero_le _, beq_eq_false_iff_ne.mpr (Ne.symm (Nat.ne_of_lt hb)), [], .nil, _, #[], 0, Heap.get?_push_size _ rfl, ⟨rfl, rfl, rfl⟩, rfl, rfl, List.nodup_nil⟩
/-- {}, to be a dict of the kind that is wanted -/
def tDNewK : TE := fun _ H Q => ∀ p, H p = none → Q (.ref p) (upd H p (.dK []))
def tDNewT : TE := fun _ H Q => ∀ p, H p = none → Q (.ref p) (upd H p (.dT []))
section
variable {X : Cx} {pos : Pos}
theorem pe_dnewT : PE X (.Dict [] [] pos) tDNewT := fun pins s σ H Q I h =>
  wpAny_Dict_empty ⟨.ref s.heap.objs.size, _, I.laid (a := s.heap.objs.size) (o := .dT []) (t' := s.toks) (fun _ _ q => Heap.get?_push_of_some _ q) (Nat.le_refl _) (dt_empty s.heap I.big), rfl, h _ (I.hok.fresh (Nat.le_refl _))⟩
end

/-- the pairs of a display, from the left -/
def tPairs : List (TE × TE) → St → Hp → (List (V × V) → Hp → Prop) → Prop
  | [], _, H, Q => Q [] H
  | (tk, tv) :: r, σ, H, Q => tk σ H fun x H1 => tv σ H1 fun y H2 => tPairs r σ H2 fun ps H3 => Q ((x, y) :: ps) H3
abbrev VV : List (V × V) → List (Value × Value) → Prop := Paired fun p q => RelV p.1 q.1 ∧ RelV p.2 q.2
def PPs (X : Cx) (pos : Pos) (keys : List (Option Expr)) (values : List Expr) (trs : List (TE × TE)) : Prop :=
  ∀ (pins : List (Addr × Obj)) (s : Shared) (σ : St) (H : Hp) (Q : List (V × V) → Hp → Prop), Inv X pins σ H s → tPairs trs σ H Q →
    wpAny (model X.prog X.w) X.A (evalPairs (pairTrees keys values X.env pos)) (fun vs s' => ∃ ps H', Inv X pins σ H' s' ∧ VV ps vs ∧ Q ps H') X.xe s
theorem pps_nil {X : Cx} {pos : Pos} : PPs X pos [] [] [] := fun pins s σ H Q I h => pairTrees_nil_walk ⟨[], H, I, .nil, h⟩
theorem pps_cons {X : Cx} {pos : Pos} {k v : Expr} {ks : List (Option Expr)} {vs : List Expr} {tk tv : TE} {trs : List (TE × TE)} (hk : PE X k tk) (hv : PE X v tv) (hr : PPs X pos ks vs trs) :
    PPs X pos (some k :: ks) (v :: vs) ((tk, tv) :: trs) := fun pins s σ H Q I h =>
  pairTrees_cons_walk (thn (hk pins s σ H _ I h) fun u s1 ⟨x, H1, I1, rx, q1⟩ => thn (hv pins s1 σ H1 _ I1 q1) fun w2 s2 ⟨y, H2, I2, ry, q2⟩ =>
    thn (hr pins s2 σ H2 _ I2 q2) fun ws s3 ⟨ps, H3, I3, rel, q3⟩ => ⟨(x, y) :: ps, H3, I3, .cons ⟨rx, ry⟩ rel, q3⟩)

def mergeK (kvs more : List (Key × V)) : List (Key × V) := more.foldl (fun acc kv => putK acc kv.1 kv.2) kvs
theorem KV.merge : ∀ {more : List (Key × V)} {rs : List (Key × Value)} {kvs : List (Key × V)} {vs : List (Key × Value)}, KV more rs → KV kvs vs → KV (mergeK kvs more) (merged vs rs) := by
  intro more rs kvs vs r
  unfold KV at r
  induction r generalizing kvs vs with
  | nil => intro q; exact q
  | @cons p q ps qs h t ih =>
    intro r0
    have e : KV (putK kvs p.1 p.2) (stored vs q.1 q.2) := by
      have := r0.put p.1 h.2
      rw [← h.1]; exact this
    exact ih e
theorem length_mergeK : ∀ (more kvs : List (Key × V)), (mergeK kvs more).length ≤ kvs.length + more.length
  | [], kvs => by show kvs.length ≤ kvs.length + 0; omega
  | p :: r, kvs => by
    have h1 := length_mergeK r (putK kvs p.1 p.2)
    have h2 := length_putK kvs p.1 p.2
    show (mergeK (putK kvs p.1 p.2) r).length ≤ _
    rw [List.length_cons]; omega
theorem carries_of {P : Program} {w : World} : ∀ {kvs : List (Key × V)} {ws : List (Value × Value)}, VV (kvs.map fun kv => (kV kv.1, kv.2)) ws → ∃ rs, Carries (mixKind P w) ws rs ∧ KV kvs rs
  | [], _, r => by rw [List.map_nil] at r; cases r; exact ⟨[], True.intro, .nil⟩
  | p :: kvs, _, r => by
    rw [List.map_cons] at r
    cases r with
    | @cons a b as bs h t =>
      obtain ⟨rs, c, q⟩ := carries_of (P := P) (w := w) t
      obtain ⟨b1, b2⟩ := b
      exact ⟨(p.1, b2) :: rs, ⟨kV_is h.1, rfl, c⟩, .cons ⟨rfl, h.2⟩ q⟩
/-- {k: v, ..} with keys ints and texts; the new dict stands empty while the pairs are made -/
def tDisp (trs : List (TE × TE)) : TE := fun σ H Q => ∀ p, H p = none → tPairs trs σ (upd H p (.dK [])) fun ps H2 => H2 p = some (.dK []) ∧ ∃ kvs : List (Key × V), ps = kvs.map (fun kv => (kV kv.1, kv.2)) ∧ kvs.length ≤ 15 ∧ Q (.ref p) (upd H2 p (.dK (mergeK [] kvs)))
theorem pe_disp {X : Cx} {pos : Pos} {keys : List (Option Expr)} {values : List Expr} {trs : List (TE × TE)} (h : PPs X pos keys values trs) (hall : keys.all (·.isSome) = true) (hl : keys.length = values.length) (h0 : keys ≠ [])
    (h15 : keys.length ≤ 15) : PE X (.Dict keys values pos) (tDisp trs) := by
  intro pins s σ H Q I q
  have hn := I.hok.fresh (Nat.le_refl s.heap.objs.size)
  have I1 := I.laid (a := s.heap.objs.size) (o := .dK []) (h' := s.heap.push { cls := .type "dict", data := .dict #[] }) (t' := s.toks) (fun _ _ q => Heap.get?_push_of_some _ q) (Nat.le_refl _) (dk_empty s.heap I.big)
  refine wpAny_Dict_walk (knd := mixKind X.prog X.w) hall hl h0 h15 (thn (h pins _ σ _ _ I1 (q _ hn)) fun ws s2 ⟨ps, H2, I2, rel, e, kvs, ep, lk, q2⟩ => ?_)
  subst ep
  obtain ⟨rs, c, rk⟩ := carries_of (P := X.prog) (w := X.w) rel
  obtain ⟨z, hd, vs0, r0, dd⟩ := dk_of I2.hok e
  cases r0
  refine ⟨rs, c, dd, fun h' dd' hs => ⟨.ref s.heap.objs.size, _, ?_, rfl, q2⟩⟩
  have hz : (mergeK [] kvs).length ≤ sizeLine := by
    have h1 := length_mergeK kvs []
    rw [List.length_nil] at h1
    rw [sizeLine_eq]; omega
  have he : ∃ q, h'.get? s.heap.objs.size = some q := let ⟨q, _, _, hq, _⟩ := dd'; ⟨q, hq⟩
  exact d_write I2 (by rw [e]; exact True.intro) hs he (dk_new hz hd (rk.merge .nil) dd')


/-! ### methods -/
/-- a method call o.m(e) of a built-in, with one argument: what must be seen of the text -/
structure M1 (X : Cx) (o : Expr) (m : Str) (apos : Pos) (e : Expr) (cpos : Pos) : Prop where
  base : attributeBase o m X.env (eval o X.env) = eval o X.env
  few : ((backTo cpos (starEach [e] X.env)).all (fun x => !x.1) && (backToKw cpos (keywordEach [] X.env)).all (fun x => x.1.isSome)
    && decide (([e] : List Expr).length + ([] : List Keyword).length + (if ([] : List Keyword).isEmpty then 0 else 1) < 30)) = true
  line : (apos.endLine == cpos.line) = true
  trees : backTo cpos (starEach [e] X.env) = [(false, eval e X.env)]
structure M2 (X : Cx) (o : Expr) (m : Str) (apos : Pos) (e f : Expr) (cpos : Pos) : Prop where
  base : attributeBase o m X.env (eval o X.env) = eval o X.env
  few : ((backTo cpos (starEach [e, f] X.env)).all (fun x => !x.1) && (backToKw cpos (keywordEach [] X.env)).all (fun x => x.1.isSome)
    && decide (([e, f] : List Expr).length + ([] : List Keyword).length + (if ([] : List Keyword).isEmpty then 0 else 1) < 30)) = true
  line : (apos.endLine == cpos.line) = true
  trees : backTo cpos (starEach [e, f] X.env) = [(false, eval e X.env), (false, eval f X.env)]

/-- a is a dict, whatever its keys -/
def IsD (H : Hp) (a : Addr) : Prop := (∃ kvs, Rd H a (.dK kvs)) ∨ ∃ kvs, Rd H a (.dT kvs)
section
variable {X : Cx} {pins : List (Addr × Obj)} {σ : St} {H : Hp} {s : Shared} {a : Addr} {y d : V} {u r : Value} {o : Option V} {A : Around} {E : Value → Shared → Prop}
end

def tDGet1 (td ty : TE) : TE := fun σ H Q => td σ H fun x H1 => ∃ a, x = .ref a ∧ IsD H1 a ∧ ty σ H1 fun y H2 => ∃ o, DGet H2 a y o ∧ Q (o.getD .non) H2
def tDGet2 (td ty tx : TE) : TE := fun σ H Q => td σ H fun x H1 => ∃ a, x = .ref a ∧ IsD H1 a ∧ ty σ H1 fun y H2 => tx σ H2 fun z H3 => ∃ o, DGet H3 a y o ∧ Q (o.getD z) H3
/-- d.pop(k): there; d.pop(k, x): there or not -/
def tDPop1 (td ty : TE) : TE := fun σ H Q => td σ H fun x H1 => ∃ a, x = .ref a ∧ IsD H1 a ∧ ty σ H1 fun y H2 => ∃ kvs k v, H2 a = some (.dK kvs) ∧ y = kV k ∧ valV kvs k = some v ∧ Q v (upd H2 a (.dK (dropK kvs k)))
def tDPop2 (td ty tx : TE) : TE := fun σ H Q => td σ H fun x H1 => ∃ a, x = .ref a ∧ IsD H1 a ∧ ty σ H1 fun y H2 => tx σ H2 fun z H3 => ∃ kvs k, H3 a = some (.dK kvs) ∧ y = kV k ∧
  (∀ v, valV kvs k = some v → Q v (upd H3 a (.dK (dropK kvs k)))) ∧ (valV kvs k = none → Q z H3)
section
variable {X : Cx} {o e f : Expr} {apos cpos : Pos} {td ty tx : TE}
end

/-! ### dict(d): a copy -/
section
variable {X : Cx} {pins : List (Addr × Obj)} {σ : St} {H : Hp} {s : Shared} {a : Addr} {kvs : List (Key × V)} {A : Around} {E : Value → Shared → Prop}
end


section
variable {X : Cx} {pins : List (Addr × Obj)} {σ : St} {H : Hp} {s : Shared} {a : Addr} {y : V} {u : Value} {A : Around} {E : Value → Shared → Prop}
end
end L2
namespace L2
open PySem PySem.Spec PyProof.Rows
section
variable {X : Cx}
/-! ### list.index(n) of a list of ints -/
def rIndex : V → List V → Hp → VK → Prop := fun x vs H Q => ∃ (l : Addr) (ns : List Int) (i : Int), x = .ref l ∧ vs = [.int i] ∧ H l = some (.lst (ns.map V.int)) ∧ i ∈ ns ∧ Q (.int ((ns.idxOf i : Nat) : Int)) H
end
end L2
namespace L2
open PySem PySem.Spec PyProof.Rows
/-! ### zip whose tuple is handed out and kept -/
abbrev IsZipH (h : Heap) (z TI TO : Addr) (f0 : Value) (f1 : Bool) : Prop :=
  h.get? z = some { cls := .type "zip", dict := none, data := .fields #[f0, .bool f1, .bool false, .ref TI, .ref TO], slots := #[] }
section
variable {prog : Program} {w : World} {A : Around} {E : Value → Shared → Prop} {s : Shared}
/-- a zip behind i items -/
def ZipSt (z TI TO i1 i2 l1 l2 : Addr) (xs ys : Array Value) (i : Nat) (h : Heap) : Prop :=
  ((IsZip h z TI TO .none ∧ ∃ a b, IsPair h TO a b) ∨ ∃ (T : Addr) (f1 : Bool) (o : Obj), IsZipH h z TI TO (rawInt T) f1 ∧ h.get? T = some o ∧ T ≠ z ∧ T ≠ i1 ∧ T ≠ i2) ∧ IsPair h TI (.ref i1) (.ref i2) ∧ h.IsListIter i1 l1 i ∧ h.IsListIter i2 l2 i ∧ h.IsList l1 xs ∧ h.IsList l2 ys
end
end L2
namespace L2
open PySem PySem.Spec PyProof.Rows
/-- what list(zip(..)) has laid behind i items -/
def ZL (P : Program) (w : World) (H0 : Hp) (h0 : Heap) (z TO i1 i2 S : Addr) (ns ms : List Int) (i : Nat) (h : Heap) (acc : Array Value) : Prop :=
  ∃ (Hj : Hp) (vs : List V), Same H0 Hj ∧ (∀ b o, Hj b = some o → H0 b = none → h0.objs.size ≤ b) ∧ (Hj z = none ∧ Hj TO = none ∧ Hj i1 = none ∧ Hj i2 = none ∧ Hj S = none) ∧ HOk P w Hj h ∧ Vals vs acc.toList ∧ Prs Hj vs ((ns.zip ms).take i) ∧
    (∀ b o, h0.get? b = some o → h.get? b = some o) ∧ h0.objs.size ≤ h.objs.size
section
variable {P : Program} {w : World} {H0 : Hp} {h0 : Heap} {z TO i1 i2 S : Addr} {ns ms : List Int} {i : Nat} {h h' : Heap} {acc : Array Value}
end
namespace ZF
end ZF
section
variable {prog : Program} {w : World} {A : Around} {s : Shared} {R : Result → Shared → Prop}
end
section
variable {prog : Program} {w : World} {A : Around} {E : Value → Shared → Prop} {s : Shared}
end
/-! ### list(zip(a, b)), a and b lists of ints -/
section
variable {X : Cx}
def tListZip (K : PySem.W.Frag) (ta : TA) : TE := fun σ H Q => ta σ H fun vs H1 => ∃ (l1 l2 : Addr) (ns ms : List Int), vs = [.ref l1, .ref l2] ∧ SqL K H1 l1 (ns.map V.int) ∧ SqL K H1 l2 (ms.map V.int) ∧ ns.length ≤ 1000 ∧
  ∀ (S : Addr) (ws : List V) (H' : Hp), Same H1 H' → H1 S = none → H' S = some (.lst ws) → Prs H' ws (ns.zip ms) → Q (.ref S) H'
end
end L2
namespace L2
open PySem PySem.Spec PyProof.Rows
/-! ### min(list of ints) -/
section
variable {X : Cx}
end
/-! ### for over enumerate -/
/-! ### range(a, b, -1) -/
def ItrD (lo : Int) (n : Nat) : It := ⟨fun i _ => i < n, fun i H x H' => H' = H ∧ x = .int (lo - i), fun i _ => n ≤ i⟩
section
variable {X : Cx} {tg : Expr}
def iRngD (ta : TA) : TI := fun σ H R => ta σ H fun vs H1 => ∃ i j : Int, vs = [.int i, .int j, .int (-1)] ∧ (-1000 ≤ i ∧ i < 1000 ∧ -1000 ≤ j ∧ j < 1000) ∧ R (ItrD i (i - j).toNat) H1
end
/-! ### xs[::-1], xs[:0:-1] -/
section
variable {X : Cx}
def revV (hi : Option Int) (xs : List V) : List V := match hi with
  | none => xs.reverse
  | some _ => (xs.drop 1).reverse
def tSlR (K : PySem.W.Frag) (te : TE) (th : TO) : TE := fun σ H Q => te σ H fun x H1 => th σ H1 fun u H2 => ∃ a xs, x = .ref a ∧ SqL K H2 a xs ∧ (u = none ∨ u = some 0) ∧ ∀ p, H2 p = none → Q (.ref p) (upd H2 p (.lst (revV u xs)))
end
end L2
namespace L2
open PySem PySem.Spec PyProof.Rows
/-! ### abs -/
/-! ### a def with defaults: dV is its tuple of them -/
structure FunD (K : PySem.W.Frag) (x qual : Str) (st : Stmt) (dV : Value) (f : Addr) (fd : FuncData) : Prop where
  ex : ∃ (oc : Value) (od : Option Addr) (kV doc pm : Value) (an : Option Addr) (cdv ct : Value) (osl : Array (Option Value)),
    fd = PySem.W.fnOf x qual (defArgs st) (defBody st) (defScope st) dV kV doc pm an cdv ct ∧ K.lookup f = some ⟨oc, od, .func fd, osl⟩ ∧ PySem.W.codeIn K cdv qual = true
  kp : PySem.W.keepIn K (.ref f) = true
section
variable {P : Program} {w : World} {K : PySem.W.Frag} {mg : Str → Option Value} {base : Heap}
end
end L2
namespace L2
open PySem PySem.Spec PyProof.Rows
/-! ### sorted(dict whose keys are ints) -/
end L2
namespace L2
open PySem
/-! ### the places that a search in a set's table goes over -/
def itf (M : Nat) : Nat → Nat → Nat
  | 0, x => x
  | k + 1, x => itf M k ((x * 5 + 1) % M)
theorem itf_add (M : Nat) : ∀ (a b x : Nat), itf M (a + b) x = itf M b (itf M a x)
  | 0, b, x => by rw [Nat.zero_add]; rfl
  | a + 1, b, x => by rw [Nat.add_right_comm]; exact itf_add M a b _
def orb (M : Nat) : Nat → Nat → List Nat
  | 0, _ => []
  | n + 1, x => x :: orb M n ((x * 5 + 1) % M)
theorem mem_orb {M y : Nat} : ∀ {n x : Nat}, y ∈ orb M n x → ∃ k, k < n ∧ itf M k x = y
  | 0, x, h => by simp [orb] at h
  | n + 1, x, h => by
    rcases List.mem_cons.mp h with e | e
    · exact ⟨0, by omega, e.symm⟩
    · obtain ⟨k, h1, h2⟩ := mem_orb e
      exact ⟨k + 1, by omega, h2⟩
def covB (M : Nat) : Bool := (List.range M).all (fun j => (orb M M 0).contains j) && itf M M 0 == 0
theorem cov8 : covB 8 = true := by decide +kernel
theorem cov32 : covB 32 = true := by decide +kernel
theorem cov128 : covB 128 = true := by decide +kernel
theorem covered {M i j : Nat} (h : covB M = true) (hi : i < M) (hj : j < M) : ∃ k, k < M ∧ itf M k i = j := by
  unfold covB at h
  rw [Bool.and_eq_true, beq_iff_eq, List.all_eq_true] at h
  obtain ⟨h1, h2⟩ := h
  obtain ⟨a, ha, ea⟩ := mem_orb (List.contains_iff_mem.mp (h1 i (List.mem_range.mpr hi)))
  obtain ⟨b, hb, eb⟩ := mem_orb (List.contains_iff_mem.mp (h1 j (List.mem_range.mpr hj)))
  by_cases hab : a ≤ b
  · refine ⟨b - a, by omega, ?_⟩
    rw [← ea, ← itf_add, Nat.add_sub_cancel' hab]
    exact eb
  · refine ⟨b + M - a, by omega, ?_⟩
    rw [← ea, ← itf_add, show a + (b + M - a) = M + b by omega, itf_add, h2]
    exact eb

def adv (mask : Nat) (p : SetTable.Probe) : SetTable.Probe :=
  if p.more > 0 then { p with j := p.j + 1, more := p.more - 1 }
  else { p with j := (SetTable.leap mask p.i p.perturb).1, more := SetTable.runEnd mask (SetTable.leap mask p.i p.perturb).1 - (SetTable.leap mask p.i p.perturb).1, i := (SetTable.leap mask p.i p.perturb).1, perturb := (SetTable.leap mask p.i p.perturb).2 }
theorem adv_eq (t : SetTable) (p : SetTable.Probe) : t.advance p = adv t.mask p := rfl
def advs (mask : Nat) : Nat → SetTable.Probe → SetTable.Probe
  | 0, p => p
  | n + 1, p => advs mask n (adv mask p)
theorem advs_add (mask : Nat) : ∀ (a b : Nat) (p : SetTable.Probe), advs mask (a + b) p = advs mask b (advs mask a p)
  | 0, b, p => by rw [Nat.zero_add]; rfl
  | a + 1, b, p => by rw [Nat.add_right_comm]; exact advs_add mask a b _
theorem advs_last (mask n : Nat) (p : SetTable.Probe) : advs mask (n + 1) p = adv mask (advs mask n p) := advs_add mask n 1 p
theorem adv_dummy (mask : Nat) (p : SetTable.Probe) : (adv mask p).dummy = p.dummy := by
  unfold adv; split <;> rfl
theorem advs_dummy (mask : Nat) : ∀ (n : Nat) (p : SetTable.Probe), (advs mask n p).dummy = p.dummy
  | 0, _ => rfl
  | n + 1, p => (advs_dummy mask n (adv mask p)).trans (adv_dummy mask p)
def rs (mask i pt : Nat) : SetTable.Probe := { j := i, more := SetTable.runEnd mask i - i, i := i, perturb := pt, dummy := none }
def st0 (mask : Nat) (h : Int) : SetTable.Probe := rs mask (SetTable.bits h % (mask + 1)) (SetTable.bits h)
theorem st0_eq (t : SetTable) (h : Int) : t.probeStart h = st0 t.mask h := rfl
theorem runEnd_le {mask i : Nat} (h : i ≤ mask) : SetTable.runEnd mask i ≤ mask := by
  unfold SetTable.runEnd; split <;> omega
theorem runEnd_few (mask i : Nat) : SetTable.runEnd mask i - i ≤ 9 := by
  unfold SetTable.runEnd; split <;> omega
theorem runEnd_ge (mask i : Nat) : i ≤ SetTable.runEnd mask i := by
  unfold SetTable.runEnd; split <;> omega
theorem advs_run (mask i pt : Nat) : ∀ k, k ≤ SetTable.runEnd mask i - i → advs mask k (rs mask i pt) = { j := i + k, more := SetTable.runEnd mask i - i - k, i := i, perturb := pt, dummy := none }
  | 0, _ => rfl
  | k + 1, h => by
    rw [advs_last, advs_run mask i pt k (by omega)]
    unfold adv
    rw [if_pos (by show SetTable.runEnd mask i - i - k > 0; omega)]
    show SetTable.Probe.mk _ _ _ _ _ = _
    congr 1
theorem advs_leap (mask i pt : Nat) : advs mask (SetTable.runEnd mask i - i + 1) (rs mask i pt) = rs mask (SetTable.leap mask i pt).1 (SetTable.leap mask i pt).2 := by
  rw [advs_last, advs_run mask i pt _ (Nat.le_refl _)]
  unfold adv
  rw [if_neg (by show ¬ (SetTable.runEnd mask i - i - (SetTable.runEnd mask i - i) > 0); omega)]
  rfl
theorem mod_le (x mask : Nat) : x % (mask + 1) ≤ mask := Nat.le_of_lt_succ (Nat.mod_lt _ (Nat.succ_pos _))
def lps (mask : Nat) : Nat → Nat × Nat → Nat × Nat
  | 0, x => x
  | m + 1, x => lps mask m (SetTable.leap mask x.1 x.2)
theorem lps_add (mask : Nat) : ∀ (a b : Nat) (x : Nat × Nat), lps mask (a + b) x = lps mask b (lps mask a x)
  | 0, b, x => by rw [Nat.zero_add]; rfl
  | a + 1, b, x => by rw [Nat.add_right_comm]; exact lps_add mask a b _
theorem lps_advs (mask : Nat) : ∀ (m : Nat) (x : Nat × Nat), ∃ n, n ≤ 10 * m ∧ advs mask n (rs mask x.1 x.2) = rs mask (lps mask m x).1 (lps mask m x).2
  | 0, x => ⟨0, Nat.le_refl _, rfl⟩
  | m + 1, x => by
    obtain ⟨n, h1, h2⟩ := lps_advs mask m (SetTable.leap mask x.1 x.2)
    refine ⟨SetTable.runEnd mask x.1 - x.1 + 1 + n, ?_, ?_⟩
    · have := runEnd_few mask x.1
      omega
    · rw [advs_add, advs_leap]
      exact h2
theorem lps_calm (mask : Nat) : ∀ (m i : Nat), lps mask m (i, 0) = (itf (mask + 1) m i, 0)
  | 0, i => rfl
  | m + 1, i => by
    show lps mask m (SetTable.leap mask i 0) = _
    have e : SetTable.leap mask i 0 = ((i * 5 + 1) % (mask + 1), 0) := by unfold SetTable.leap; simp
    rw [e]
    exact lps_calm mask m _
theorem lps_pert (mask : Nat) : ∀ (m i b : Nat), (lps mask m (i, b)).2 = b / 32 ^ m
  | 0, i, b => by simp [lps]
  | m + 1, i, b => by
    show (lps mask m (SetTable.leap mask i b)).2 = _
    have e : SetTable.leap mask i b = ((SetTable.leap mask i b).1, b / 32) := rfl
    rw [e, lps_pert mask m _ _, Nat.div_div_eq_div_mul, Nat.pow_succ, Nat.mul_comm]
theorem lps_le (mask : Nat) : ∀ (m i b : Nat), i ≤ mask → (lps mask m (i, b)).1 ≤ mask
  | 0, i, b, h => h
  | m + 1, i, b, h => lps_le mask m _ _ (mod_le _ _)
theorem bits_lt (h : Int) : SetTable.bits h < 2 ^ 64 := by
  unfold SetTable.bits
  have h1 := Int.emod_nonneg h (show (2 ^ 64 : Int) ≠ 0 by decide)
  have h2 := Int.emod_lt_of_pos h (show (0 : Int) < 2 ^ 64 by decide)
  omega
theorem lps_cover {mask j : Nat} (hc : covB (mask + 1) = true) (h : Int) (hj : j ≤ mask) : ∃ m, m < mask + 14 ∧ (lps mask m (SetTable.bits h % (mask + 1), SetTable.bits h)).1 = j := by
  have hb := bits_lt h
  generalize SetTable.bits h = b at hb ⊢
  have h13 : (lps mask 13 (b % (mask + 1), b)).2 = 0 := by
    rw [lps_pert]
    exact Nat.div_eq_of_lt (Nat.lt_trans hb (by decide))
  have hi : (lps mask 13 (b % (mask + 1), b)).1 ≤ mask := lps_le mask 13 _ _ (mod_le _ _)
  obtain ⟨k, hk, ek⟩ := covered hc (Nat.lt_succ_of_le hi) (Nat.lt_succ_of_le hj)
  refine ⟨13 + k, by omega, ?_⟩
  rw [lps_add]
  have e : lps mask 13 (b % (mask + 1), b) = ((lps mask 13 (b % (mask + 1), b)).1, 0) := by rw [← h13]
  rw [e, lps_calm]
  exact ek
theorem reach_all {mask j : Nat} (hc : covB (mask + 1) = true) (h : Int) (hj : j ≤ mask) : ∃ n, n + 10 < 10 * SetTable.turns mask ∧ (advs mask n (st0 mask h)).j = j := by
  obtain ⟨m, hm, em⟩ := lps_cover hc h hj
  obtain ⟨n, hn, en⟩ := lps_advs mask m (SetTable.bits h % (mask + 1), SetTable.bits h)
  refine ⟨n, by unfold SetTable.turns; omega, ?_⟩
  show (advs mask n (rs mask _ _)).j = j
  rw [en]
  exact em
theorem adv_le {mask : Nat} {p : SetTable.Probe} (h : p.j + p.more ≤ mask) : (adv mask p).j + (adv mask p).more ≤ mask := by
  unfold adv
  split
  · show p.j + 1 + (p.more - 1) ≤ mask
    omega
  · have h1 : (SetTable.leap mask p.i p.perturb).1 ≤ mask := mod_le _ _
    have h2 := runEnd_le h1
    have h3 := runEnd_ge mask (SetTable.leap mask p.i p.perturb).1
    show (SetTable.leap mask p.i p.perturb).1 + (SetTable.runEnd mask (SetTable.leap mask p.i p.perturb).1 - (SetTable.leap mask p.i p.perturb).1) ≤ mask
    omega
theorem advs_le {mask : Nat} : ∀ {n : Nat} {p : SetTable.Probe}, p.j + p.more ≤ mask → (advs mask n p).j + (advs mask n p).more ≤ mask
  | 0, _, h => h
  | n + 1, p, h => advs_le (n := n) (adv_le h)
theorem st0_le (mask : Nat) (h : Int) : (st0 mask h).j + (st0 mask h).more ≤ mask := by
  have h1 : SetTable.bits h % (mask + 1) ≤ mask := mod_le _ _
  have h2 := runEnd_le h1
  have h3 := runEnd_ge mask (SetTable.bits h % (mask + 1))
  show SetTable.bits h % (mask + 1) + (SetTable.runEnd mask (SetTable.bits h % (mask + 1)) - SetTable.bits h % (mask + 1)) ≤ mask
  omega
theorem seq_le (mask n : Nat) (h : Int) : (advs mask n (st0 mask h)).j ≤ mask := by
  have := advs_le (n := n) (st0_le mask h)
  omega

/-! ### where a number stands in a rising row -/
def Rise (xs : Array Nat) : Prop := xs.toList.Pairwise (· < ·)
theorem Rise.lt {xs : Array Nat} (h : Rise xs) {q r a b : Nat} (hqr : q < r) (ha : xs[q]? = some a) (hb : xs[r]? = some b) : a < b := by
  rw [← Array.getElem?_toList] at ha hb
  obtain ⟨h1, e1⟩ := List.getElem?_eq_some_iff.mp ha
  obtain ⟨h2, e2⟩ := List.getElem?_eq_some_iff.mp hb
  have := List.pairwise_iff_getElem.mp h q r h1 h2 hqr
  rw [e1, e2] at this
  exact this
theorem below_go {xs : Array Nat} {j : Nat} (hr : Rise xs) : ∀ (fuel lo hi : Nat), hi - lo ≤ fuel → lo ≤ hi → hi ≤ xs.size →
    (∀ q a, q < lo → xs[q]? = some a → a < j) → (∀ q a, hi ≤ q → xs[q]? = some a → j ≤ a) →
    SetTable.below.go xs j fuel lo hi ≤ xs.size ∧ (∀ q a, q < SetTable.below.go xs j fuel lo hi → xs[q]? = some a → a < j) ∧ (∀ q a, SetTable.below.go xs j fuel lo hi ≤ q → xs[q]? = some a → j ≤ a)
  | 0, lo, hi, h0, h1, h2, hl, hh => by
    have e : hi = lo := by omega
    subst e
    exact ⟨h2, hl, hh⟩
  | fuel + 1, lo, hi, h0, h1, h2, hl, hh => by
    unfold SetTable.below.go
    by_cases hlt : lo < hi
    · rw [if_pos hlt]
      have hm : (lo + hi) / 2 < xs.size := by omega
      have em : xs[(lo + hi) / 2]? = some xs[(lo + hi) / 2] := Array.getElem?_eq_getElem hm
      have ed : xs.getD ((lo + hi) / 2) j = xs[(lo + hi) / 2] := by
        rw [Array.getD_eq_getD_getElem?, em]; rfl
      dsimp only
      rw [ed]
      by_cases hc : xs[(lo + hi) / 2] < j
      · rw [if_pos hc]
        refine below_go hr fuel _ _ (by omega) (by omega) h2 (fun q a hq ha => ?_) hh
        by_cases hq' : q = (lo + hi) / 2
        · rw [hq', em] at ha; cases ha; exact hc
        · exact Nat.lt_trans (hr.lt (by omega) ha em) hc
      · rw [if_neg hc]
        refine below_go hr fuel _ _ (by omega) (by omega) (by omega) hl (fun q a hq ha => ?_)
        by_cases hq' : q = (lo + hi) / 2
        · rw [hq', em] at ha; cases ha; omega
        · have := hr.lt (show (lo + hi) / 2 < q by omega) em ha
          omega
    · rw [if_neg hlt]
      have e : hi = lo := by omega
      subst e
      exact ⟨h2, hl, hh⟩
theorem below_spec {xs : Array Nat} {j : Nat} (hr : Rise xs) : SetTable.below xs j ≤ xs.size ∧ (∀ q a, q < SetTable.below xs j → xs[q]? = some a → a < j) ∧ (∀ q a, SetTable.below xs j ≤ q → xs[q]? = some a → j ≤ a) := by
  unfold SetTable.below
  refine below_go hr xs.size 0 xs.size (by omega) (by omega) (Nat.le_refl _) (fun q a hq => absurd hq (Nat.not_lt_zero _)) fun q a hq ha => ?_
  rw [Array.getElem?_eq_none hq] at ha; cases ha
theorem below_at {xs : Array Nat} {i j : Nat} (hr : Rise xs) (h : xs[i]? = some j) : SetTable.below xs j = i := by
  obtain ⟨h1, h2, h3⟩ := below_spec (j := j) hr
  rcases Nat.lt_trichotomy (SetTable.below xs j) i with z | z | z
  · have hs : SetTable.below xs j < xs.size := by
      have := (Array.getElem?_eq_some_iff.mp h).1
      omega
    have := hr.lt z (Array.getElem?_eq_getElem hs) h
    have := h3 _ _ (Nat.le_refl _) (Array.getElem?_eq_getElem hs)
    omega
  · exact z
  · have := h2 i j z h
    omega
theorem slot_cases (t : SetTable) (hr : Rise t.place) (hd : t.dummies = #[]) (j : Nat) : (t.slot j = .empty ∧ j ∉ t.place.toList) ∨ ∃ i, t.slot j = .live i ∧ t.place[i]? = some j := by
  unfold SetTable.slot
  dsimp only
  by_cases h : t.place[SetTable.below t.place j]? = some j
  · refine .inr ⟨SetTable.below t.place j, ?_, h⟩
    rw [if_pos (by rw [h]; exact beq_self_eq_true _)]
  · refine .inl ⟨?_, fun hm => ?_⟩
    · rw [if_neg (by rw [beq_iff_eq]; exact h), hd]
      have e : SetTable.has #[] j = false := by unfold SetTable.has; simp
      rw [e]
      rfl
    · obtain ⟨i, hi, e⟩ := List.getElem_of_mem hm
      have e' : t.place[i]? = some j := by
        rw [← Array.getElem?_toList, List.getElem?_eq_getElem hi, e]
      rw [below_at hr e'] at h
      exact h e'
theorem slot_live (t : SetTable) (hr : Rise t.place) {i j : Nat} (h : t.place[i]? = some j) : t.slot j = .live i := by
  unfold SetTable.slot
  dsimp only
  rw [below_at hr h, if_pos (by rw [h]; exact beq_self_eq_true _)]
theorem mem_place {xs : Array Nat} {i j : Nat} (h : xs[i]? = some j) : j ∈ xs.toList := by
  rw [← Array.getElem?_toList] at h
  exact List.mem_of_getElem? h

/-! ### a search -/
section
variable {t : SetTable} {ha : Nat → Int} {h : Int}
theorem go_spec (hr : Rise t.place) (hd : t.dummies = #[]) : ∀ (F : Nat) (p : SetTable.Probe), (∃ n, n < F ∧ (advs t.mask n p).j ∉ t.place.toList) →
    (∃ n, SetTable.probe.go t ha h F p = some (.empty (advs t.mask n p).j p.dummy) ∧ (advs t.mask n p).j ∉ t.place.toList ∧ ∀ q, q < n → ∃ i, t.place[i]? = some (advs t.mask q p).j ∧ ha i ≠ h) ∨
    (∃ n i, SetTable.probe.go t ha h F p = some (.candidate (advs t.mask n p).j i (advs t.mask (n + 1) p)) ∧ t.place[i]? = some (advs t.mask n p).j ∧ ha i = h ∧ ∀ q, q < n → ∃ i, t.place[i]? = some (advs t.mask q p).j ∧ ha i ≠ h)
  | 0, p, ⟨n, hn, _⟩ => absurd hn (Nat.not_lt_zero _)
  | F + 1, p, ⟨n, hn, hf⟩ => by
    rcases slot_cases t hr hd p.j with ⟨e, hm⟩ | ⟨i, e, hi⟩
    · refine .inl ⟨0, ?_, hm, fun q hq => absurd hq (Nat.not_lt_zero _)⟩
      unfold SetTable.probe.go
      rw [e]
      rfl
    · by_cases hh : ha i = h
      · refine .inr ⟨0, i, ?_, hi, hh, fun q hq => absurd hq (Nat.not_lt_zero _)⟩
        unfold SetTable.probe.go
        rw [e]
        dsimp only
        rw [if_pos (by rw [hh]; exact beq_self_eq_true _), adv_eq]
        rfl
      · have hs : SetTable.probe.go t ha h (F + 1) p = SetTable.probe.go t ha h F (adv t.mask p) := by
          rw [SetTable.probe.go, e]
          dsimp only
          rw [if_neg (by rw [beq_iff_eq]; exact hh), adv_eq]
        cases n with
        | zero => exact absurd (mem_place hi) hf
        | succ n =>
          rw [hs]
          rcases go_spec hr hd F (adv t.mask p) ⟨n, by omega, hf⟩ with ⟨m, g1, g2, g3⟩ | ⟨m, i', g1, g2, g3, g4⟩
          · refine .inl ⟨m + 1, ?_, g2, fun q hq => ?_⟩
            · rw [g1, adv_dummy]; rfl
            · cases q with
              | zero => exact ⟨i, hi, hh⟩
              | succ q => exact g3 q (by omega)
          · refine .inr ⟨m + 1, i', g1, g2, g3, fun q hq => ?_⟩
            cases q with
            | zero => exact ⟨i, hi, hh⟩
            | succ q => exact g4 q (by omega)
/-- some place is free -/
theorem free_place {mask : Nat} {l : List Nat} (h : l.length ≤ mask) : ∃ j, j ≤ mask ∧ j ∉ l := by
  apply Classical.byContradiction
  intro hn
  have hs : List.range (mask + 1) ⊆ l := fun j hj => Classical.byContradiction fun hm => hn ⟨j, by have := List.mem_range.mp hj; omega, hm⟩
  have := List.Nodup.length_le_of_subset List.nodup_range hs
  rw [List.length_range] at this
  omega
end
end L2
namespace L2
open PySem
/-! ### a table laid anew -/
theorem isN {ow : Array (Option Nat)} {x : Nat} (hx : x < ow.size) : (ow.getD x (some 0)).isNone = true ↔ ow[x]? = some none := by
  rw [Array.getD_eq_getD_getElem?, Array.getElem?_eq_getElem hx]
  show ow[x].isNone = true ↔ some ow[x] = some none
  cases ow[x] <;> simp
theorem free_spec {mask : Nat} {ow : Array (Option Nat)} (hz : ow.size = mask + 1) : ∀ (F i pt : Nat), i ≤ mask →
    (∃ m, m < F ∧ ow[(lps mask m (i, pt)).1]? = some none) →
    ∃ n, SetTable.layClean.free mask ow F i pt = some (advs mask n (rs mask i pt)).j ∧ ow[(advs mask n (rs mask i pt)).j]? = some none ∧ ∀ q, q < n → ow[(advs mask q (rs mask i pt)).j]? ≠ some none
  | 0, i, pt, _, ⟨m, hm, _⟩ => absurd hm (Nat.not_lt_zero _)
  | F + 1, i, pt, hi, ⟨m, hm, em⟩ => by
    have hre := runEnd_le hi
    have hrg := runEnd_ge mask i
    unfold SetTable.layClean.free
    cases hf : List.find? (fun k => (ow.getD (i + k) (some 0)).isNone) (List.range (SetTable.runEnd mask i + 1 - i)) with
    | some k =>
      obtain ⟨p1, p2, p3⟩ := List.find?_range_eq_some.mp hf
      have hk := List.mem_range.mp p2
      refine ⟨k, ?_, ?_, fun q hq => ?_⟩
      · rw [advs_run mask i pt k (by omega)]
      · rw [advs_run mask i pt k (by omega)]
        show ow[i + k]? = some none
        exact (isN (by omega)).mp p1
      · rw [advs_run mask i pt q (by omega)]
        show ow[i + q]? ≠ some none
        intro z
        have h1 := p3 q hq
        rw [(isN (by omega)).mpr z] at h1
        cases h1
    | none =>
      have hall := List.find?_eq_none.mp hf
      have hno : ∀ q, q ≤ SetTable.runEnd mask i - i → ow[i + q]? ≠ some none := fun q hq z => hall q (List.mem_range.mpr (by omega)) ((isN (by omega)).mpr z)
      cases m with
      | zero => exact absurd em (hno 0 (Nat.zero_le _))
      | succ m =>
        obtain ⟨n, g1, g2, g3⟩ := free_spec hz F (SetTable.leap mask i pt).1 (SetTable.leap mask i pt).2 (mod_le _ _) ⟨m, by omega, em⟩
        refine ⟨SetTable.runEnd mask i - i + 1 + n, ?_, ?_, fun q hq => ?_⟩
        · rw [advs_add, advs_leap]
          exact g1
        · rw [advs_add, advs_leap]
          exact g2
        · by_cases hq' : q ≤ SetTable.runEnd mask i - i
          · rw [advs_run mask i pt q hq']
            exact hno q hq'
          · have e : q = SetTable.runEnd mask i - i + 1 + (q - (SetTable.runEnd mask i - i + 1)) := by omega
            rw [e, advs_add, advs_leap]
            exact g3 _ (by omega)

def lcStep (mask : Nat) (acc : Option (Array (Option Nat) × Nat)) (h : Int) : Option (Array (Option Nat) × Nat) :=
  acc.bind fun x => (SetTable.layClean.free mask x.1 (SetTable.turns mask) (SetTable.bits h % (mask + 1)) (SetTable.bits h)).bind fun j => some (x.1.setIfInBounds j (some x.2), x.2 + 1)
theorem layClean_fold (mask : Nat) (hashes : Array Int) : SetTable.layClean mask hashes = (hashes.toList.foldl (lcStep mask) (some (Array.replicate (mask + 1) none, 0))).map (·.1) := by
  unfold SetTable.layClean
  rw [Array.foldl_toList]
  rfl
structure Lc (mask : Nat) (ow : Array (Option Nat)) (js : List Nat) (hs : List Int) : Prop where
  sz : ow.size = mask + 1
  len : js.length = hs.length
  at_ : ∀ (q j : Nat), js[q]? = some j ↔ ow[j]? = some (some q)
  rch : ∀ (q : Nat) (h : Int) (j : Nat), hs[q]? = some h → js[q]? = some j → ∃ n, (advs mask n (st0 mask h)).j = j ∧ ∀ r, r < n → ow[(advs mask r (st0 mask h)).j]? ≠ some none
theorem Lc.nil (mask : Nat) : Lc mask (Array.replicate (mask + 1) none) [] [] :=
  ⟨Array.size_replicate, rfl, fun q j => ⟨fun z => by simp at z, fun z => by
    rw [Array.getElem?_replicate] at z
    split at z <;> simp at z⟩, fun q h j z => by simp at z⟩
theorem Lc.step {mask : Nat} {ow : Array (Option Nat)} {js : List Nat} {hs : List Int} (L : Lc mask ow js hs) (hc : covB (mask + 1) = true) (hl : hs.length ≤ mask) (h : Int) :
    ∃ j, lcStep mask (some (ow, hs.length)) h = some (ow.setIfInBounds j (some hs.length), hs.length + 1) ∧ Lc mask (ow.setIfInBounds j (some hs.length)) (js ++ [j]) (hs ++ [h]) := by
  have hjl := L.len
  obtain ⟨j0, hj0, hn0⟩ := free_place (mask := mask) (l := js) (by omega)
  have e0 : ow[j0]? = some none := by
    have hs0 : j0 < ow.size := by rw [L.sz]; omega
    rw [Array.getElem?_eq_getElem hs0]
    cases q : ow[j0] with
    | none => rfl
    | some k =>
      exact absurd (List.mem_of_getElem? ((L.at_ k j0).mpr (by rw [Array.getElem?_eq_getElem hs0, q]))) hn0
  obtain ⟨m, hm, em⟩ := lps_cover hc h hj0
  obtain ⟨n, g1, g2, g3⟩ := free_spec L.sz (SetTable.turns mask) (SetTable.bits h % (mask + 1)) (SetTable.bits h) (mod_le _ _) ⟨m, by unfold SetTable.turns; omega, by rw [em]; exact e0⟩
  have est : rs mask (SetTable.bits h % (mask + 1)) (SetTable.bits h) = st0 mask h := rfl
  rw [est] at g1 g2 g3
  have hjlt : (advs mask n (st0 mask h)).j < ow.size := by rw [L.sz]; have := seq_le mask n h; omega
  refine ⟨(advs mask n (st0 mask h)).j, ?_, ?_⟩
  · unfold lcStep
    rw [Option.bind_some, g1]
    rfl
  · generalize hj : (advs mask n (st0 mask h)).j = j at g2 hjlt ⊢
    have hget : ∀ x, (ow.setIfInBounds j (some hs.length))[x]? = if j = x then some (some hs.length) else ow[x]? := fun x => by
      rw [Array.getElem?_setIfInBounds, if_pos hjlt]
    have hjs : j ∉ js := fun hm => by
      obtain ⟨q, hq, e⟩ := List.getElem_of_mem hm
      have := (L.at_ q j).mp (by rw [List.getElem?_eq_getElem hq, e])
      rw [g2] at this; cases this
    have occ : ∀ x, ow[x]? ≠ some none → (ow.setIfInBounds j (some hs.length))[x]? ≠ some none := fun x hx => by
      rw [hget]
      split
      · simp
      · exact hx
    refine ⟨by rw [Array.size_setIfInBounds]; exact L.sz, by simp [hjl], fun q x => ?_, fun q g x e1 e2 => ?_⟩
    · rw [hget]
      by_cases hq : q < js.length
      · rw [List.getElem?_append_left hq]
        by_cases hx : j = x
        · rw [if_pos hx]
          constructor
          · intro z
            exact absurd (hx ▸ List.mem_of_getElem? z) hjs
          · intro z
            have : hs.length = q := by simpa using z
            omega
        · rw [if_neg hx]
          exact L.at_ q x
      · rw [List.getElem?_append_right (by omega)]
        by_cases hx : j = x
        · rw [if_pos hx]
          by_cases hq' : q = js.length
          · subst hq'
            simp [hx, hjl]
          · constructor
            · intro z
              have : ([j] : List Nat)[q - js.length]? = none := List.getElem?_eq_none (by simp; omega)
              rw [this] at z; cases z
            · intro z
              have : hs.length = q := by simpa using z
              omega
        · rw [if_neg hx]
          constructor
          · intro z
            have := List.mem_of_getElem? z
            simp at this
            exact absurd this.symm hx
          · intro z
            have := (L.at_ q x).mpr z
            rw [List.getElem?_eq_none (by omega)] at this
            cases this
    · by_cases hq : q < hs.length
      · rw [List.getElem?_append_left hq] at e1
        rw [List.getElem?_append_left (by omega)] at e2
        obtain ⟨n', r1, r2⟩ := L.rch q g x e1 e2
        exact ⟨n', r1, fun r hr => occ _ (r2 r hr)⟩
      · rw [List.getElem?_append_right (by omega)] at e1 e2
        have h1 := List.mem_of_getElem? e1
        have h2 := List.mem_of_getElem? e2
        simp at h1 h2
        subst h1 h2
        exact ⟨n, hj, fun r hr => occ _ (g3 r hr)⟩
theorem lc_fold {mask : Nat} (hc : covB (mask + 1) = true) : ∀ (rest : List Int) (ow : Array (Option Nat)) (js : List Nat) (hs : List Int), Lc mask ow js hs → hs.length + rest.length ≤ mask →
    ∃ ow' js', rest.foldl (lcStep mask) (some (ow, hs.length)) = some (ow', (hs ++ rest).length) ∧ Lc mask ow' js' (hs ++ rest)
  | [], ow, js, hs, L, _ => ⟨ow, js, by simp, by simpa using L⟩
  | h :: rest, ow, js, hs, L, hl => by
    rw [List.length_cons] at hl
    obtain ⟨j, e, L'⟩ := L.step hc (by omega) h
    obtain ⟨ow', js', e', L''⟩ := lc_fold hc rest _ _ (hs ++ [h]) L' (by simp; omega)
    refine ⟨ow', js', ?_, by simpa using L''⟩
    rw [List.foldl_cons, e]
    have hlen : (hs ++ [h]).length = hs.length + 1 := by simp
    rw [hlen] at e'
    rw [e']
    simp
theorem filterMap_at {α β : Type} (f : α → Option β) : ∀ (l : List α), (∀ x ∈ l, (f x).isSome = true) → ∀ r : Nat, (l.filterMap f)[r]? = (l[r]?).bind f
  | [], _, r => by simp
  | x :: l, h, r => by
    obtain ⟨y, hy⟩ := Option.isSome_iff_exists.mp (h x (List.mem_cons_self))
    rw [List.filterMap_cons_some hy]
    cases r with
    | zero => simp [hy]
    | succ r =>
      rw [List.getElem?_cons_succ, List.getElem?_cons_succ]
      exact filterMap_at f l (fun z hz => h z (List.mem_cons_of_mem _ hz)) r

/-- what a laying gives -/
structure Laid (t : SetTable) (od : Array Nat) (mask finger moves : Nat) (led plain : Bool) (hashes : Array Int) : Prop where
  tm : t.mask = mask
  tl : t.led = led
  tp : t.plain = plain
  td : t.dummies = #[]
  rise : Rise t.place
  le : ∀ j ∈ t.place.toList, j ≤ mask
  perm : od.toList.Perm (List.range hashes.size)
  sz : t.place.size = hashes.size
  rch : ∀ (r q j : Nat) (h : Int), od[r]? = some q → t.place[r]? = some j → hashes[q]? = some h → ∃ n, (advs mask n (st0 mask h)).j = j ∧ ∀ r', r' < n → (advs mask r' (st0 mask h)).j ∈ t.place.toList
theorem laid_spec {mask : Nat} (hc : covB (mask + 1) = true) (finger moves : Nat) (led plain : Bool) (hashes : Array Int) (hz : hashes.size ≤ mask) :
    ∃ t od, SetTable.laid mask finger moves led plain hashes = some (t, od) ∧ Laid t od mask finger moves led plain hashes := by
  obtain ⟨ow, js, e, L⟩ := lc_fold hc hashes.toList _ [] [] (Lc.nil mask) (by simpa using hz)
  simp only [List.nil_append, List.length_nil] at e L
  have hn : js.length = hashes.size := by rw [L.len, Array.length_toList]
  have e' : SetTable.layClean mask hashes = some ow := by rw [layClean_fold, e]; rfl
  generalize hlive : (List.range (mask + 1)).filterMap (fun j => (ow.getD j none).map (j, ·)) = live
  have mem : ∀ j q, (j, q) ∈ live ↔ j ≤ mask ∧ ow[j]? = some (some q) := by
    intro j q
    rw [← hlive, List.mem_filterMap]
    constructor
    · rintro ⟨a, ha, hb⟩
      have ha' := List.mem_range.mp ha
      have hs' : a < ow.size := by rw [L.sz]; omega
      rw [Array.getD_eq_getD_getElem?, Array.getElem?_eq_getElem hs'] at hb
      cases hq : ow[a] with
      | none => rw [hq] at hb; cases hb
      | some k =>
        rw [hq] at hb
        have hb' : (a, k) = (j, q) := Option.some.inj hb
        cases hb'
        exact ⟨by omega, by rw [Array.getElem?_eq_getElem hs', hq]⟩
    · rintro ⟨h1, h2⟩
      refine ⟨j, List.mem_range.mpr (by omega), ?_⟩
      rw [Array.getD_eq_getD_getElem?, h2]
      rfl
  have pw1 : (live.map (·.1)).Pairwise (· < ·) := by
    rw [List.pairwise_map, ← hlive]
    refine List.Pairwise.filterMap (R := (· < ·)) _ (fun a a' haa b hb b' hb' => ?_) List.pairwise_lt_range
    obtain ⟨x, _, rfl⟩ := Option.map_eq_some_iff.mp hb
    obtain ⟨x', _, rfl⟩ := Option.map_eq_some_iff.mp hb'
    exact haa
  have pw2 : (live.map (·.2)).Nodup := by
    unfold List.Nodup
    rw [List.pairwise_map]
    have := List.Pairwise.and_mem.mp (List.pairwise_map.mp pw1)
    refine this.imp fun {a b} hab z => ?_
    obtain ⟨ha, hb, hlt⟩ := hab
    have h1 := (L.at_ a.2 a.1).mpr ((mem a.1 a.2).mp ha).2
    have h2 := (L.at_ b.2 b.1).mpr ((mem b.1 b.2).mp hb).2
    rw [z, h2] at h1
    have := Option.some.inj h1
    omega
  have hperm : (live.map (·.2)).Perm (List.range hashes.size) := by
    refine (List.perm_ext_iff_of_nodup pw2 List.nodup_range).mpr fun q => ?_
    rw [List.mem_range, List.mem_map]
    constructor
    · rintro ⟨⟨j, q'⟩, hm, rfl⟩
      have h1 := (L.at_ q' j).mpr ((mem j q').mp hm).2
      have := (List.getElem?_eq_some_iff.mp h1).1
      show q' < _
      omega
    · intro hq
      have hq' : q < js.length := by omega
      have h1 := (L.at_ q js[q]).mp (List.getElem?_eq_getElem hq')
      have h2 := (Array.getElem?_eq_some_iff.mp h1).1
      rw [L.sz] at h2
      exact ⟨(js[q], q), (mem _ _).mpr ⟨by omega, h1⟩, rfl⟩
  refine ⟨_, _, by unfold SetTable.laid; rw [e']; rfl, rfl, rfl, rfl, rfl, ?_, ?_, ?_, ?_, ?_⟩
  · unfold Rise
    dsimp only
    rw [hlive]
    exact pw1
  · dsimp only
    rw [hlive]
    intro j hj
    obtain ⟨⟨a, q⟩, hm, rfl⟩ := List.mem_map.mp (show j ∈ live.map (·.1) from hj)
    exact ((mem a q).mp hm).1
  · dsimp only
    rw [hlive]
    exact hperm
  · dsimp only
    rw [hlive, List.size_toArray, List.length_map]
    have := hperm.length_eq
    rw [List.length_map, List.length_range] at this
    exact this
  · dsimp only
    rw [hlive]
    intro r q j h e1 e2 e3
    rw [List.getElem?_toArray, List.getElem?_map] at e1 e2
    cases hl : live[r]? with
    | none => rw [hl] at e1; cases e1
    | some x =>
      rw [hl] at e1 e2
      have e1' : x.2 = q := Option.some.inj e1
      have e2' : x.1 = j := Option.some.inj e2
      subst e1' e2'
      have h1 := (L.at_ x.2 x.1).mpr ((mem x.1 x.2).mp (List.mem_of_getElem? hl)).2
      obtain ⟨n, r1, r2⟩ := L.rch x.2 h x.1 (by rw [Array.getElem?_toList]; exact e3) h1
      refine ⟨n, r1, fun r' hr' => ?_⟩
      have h2 := r2 r' hr'
      have hle := seq_le mask r' h
      have hs' : (advs mask r' (st0 mask h)).j < ow.size := by rw [L.sz]; omega
      rw [Array.getElem?_eq_getElem hs'] at h2
      cases hq : ow[(advs mask r' (st0 mask h)).j] with
      | none => rw [hq] at h2; exact absurd rfl h2
      | some k =>
        show _ ∈ live.map (·.1)
        exact List.mem_map.mpr ⟨(_, k), (mem _ _).mpr ⟨hle, by rw [Array.getElem?_eq_getElem hs', hq]⟩, rfl⟩
end L2
namespace L2
open PySem
def ins {α : Type} (l : List α) (p : Nat) (x : α) : List α := l.take p ++ x :: l.drop p
theorem insL_get {α : Type} {l : List α} {p : Nat} {x : α} (hp : p ≤ l.length) (i : Nat) : (ins l p x)[i]? = if i < p then l[i]? else if i = p then some x else l[i - 1]? := by
  unfold ins
  have hl : (l.take p).length = p := by rw [List.length_take]; omega
  by_cases h : i < p
  · rw [if_pos h, List.getElem?_append_left (by omega), List.getElem?_take, if_pos h]
  · rw [if_neg h, List.getElem?_append_right (by omega), hl]
    by_cases h' : i = p
    · subst h'; simp
    · rw [if_neg h']
      have e : i - p = (i - p - 1) + 1 := by omega
      rw [e, List.getElem?_cons_succ, List.getElem?_drop]
      congr 1
      omega
theorem ins_len {α : Type} {l : List α} {p : Nat} {x : α} (hp : p ≤ l.length) : (ins l p x).length = l.length + 1 := by
  unfold ins
  simp
  omega
theorem ins_map {α β : Type} (f : α → β) (l : List α) (p : Nat) (x : α) : (ins l p x).map f = ins (l.map f) p (f x) := by
  unfold ins
  simp
theorem ins_mem {α : Type} {l : List α} {p : Nat} {x y : α} : y ∈ ins l p x ↔ y = x ∨ y ∈ l := by
  unfold ins
  rw [List.mem_append, List.mem_cons]
  constructor
  · rintro (h | h | h)
    · exact .inr (List.mem_of_mem_take h)
    · exact .inl h
    · exact .inr (List.mem_of_mem_drop h)
  · rintro (h | h)
    · exact .inr (.inl h)
    · rw [← List.take_append_drop p l, List.mem_append] at h
      rcases h with h | h
      · exact .inl h
      · exact .inr (.inr h)

structure TOk (t : SetTable) (hs : List Int) : Prop where
  mask : t.mask = 7 ∨ t.mask = 31 ∨ t.mask = 127
  dum : t.dummies = #[]
  len : t.place.size = hs.length
  rise : Rise t.place
  le : ∀ j ∈ t.place.toList, j ≤ t.mask
  rch : ∀ (i : Nat) (h : Int) (j : Nat), hs[i]? = some h → t.place[i]? = some j → ∃ n, (advs t.mask n (st0 t.mask h)).j = j ∧ ∀ q, q < n → (advs t.mask q (st0 t.mask h)).j ∈ t.place.toList
theorem TOk.cov {t : SetTable} {hs : List Int} (T : TOk t hs) : covB (t.mask + 1) = true := by
  rcases T.mask with e | e | e <;> rw [e]
  · exact cov8
  · exact cov32
  · exact cov128
theorem TOk.fill {t : SetTable} {hs : List Int} (T : TOk t hs) : t.fill = hs.length := by
  unfold SetTable.fill
  rw [T.dum, T.len]
  rfl
theorem TOk.fits {t : SetTable} {hs : List Int} (T : TOk t hs) (h : hs.length ≤ t.mask) : t.fits hs.length = true := by
  unfold SetTable.fits
  rw [Bool.and_eq_true, beq_iff_eq, decide_eq_true_eq, T.fill]
  exact ⟨T.len, h⟩
theorem TOk.odd {t : SetTable} {hs : List Int} (T : TOk t hs) : t.gaveWay = false := by
  unfold SetTable.gaveWay
  rcases T.mask with e | e | e <;> rw [e] <;> rfl
theorem TOk.fresh (f m : Nat) (led : Bool) : TOk (SetTable.fresh f m led) [] :=
  ⟨.inl rfl, rfl, rfl, List.Pairwise.nil, fun j hj => by simp [SetTable.fresh] at hj, fun i h j e => by simp at e⟩
/-- a place for one more -/
theorem TOk.empty {t : SetTable} {hs : List Int} (T : TOk t hs) (hl : hs.length ≤ t.mask) (h : Int) : ∃ n, n + 10 < 10 * SetTable.turns t.mask ∧ (advs t.mask n (st0 t.mask h)).j ∉ t.place.toList := by
  obtain ⟨j, h1, h2⟩ := free_place (mask := t.mask) (l := t.place.toList) (by rw [Array.length_toList, T.len]; exact hl)
  obtain ⟨n, h3, h4⟩ := reach_all T.cov h h1
  exact ⟨n, h3, by rw [h4]; exact h2⟩
theorem put_p {t : SetTable} {j : Nat} : (t.put j).2 = SetTable.below t.place j := rfl
theorem put_place {t : SetTable} {j : Nat} : (t.put j).1.place.toList = ins t.place.toList (SetTable.below t.place j) j := by
  show (SetTable.insertAt t.place (SetTable.below t.place j) j).toList = _
  rw [SetTable.toList_insertAt]
  rfl
theorem TOk.put {t : SetTable} {hs : List Int} (T : TOk t hs) {h : Int} {n : Nat} (hn : (advs t.mask n (st0 t.mask h)).j ∉ t.place.toList) (hr : ∀ q, q < n → (advs t.mask q (st0 t.mask h)).j ∈ t.place.toList) :
    SetTable.below t.place (advs t.mask n (st0 t.mask h)).j ≤ hs.length ∧ TOk (t.put (advs t.mask n (st0 t.mask h)).j).1 (ins hs (SetTable.below t.place (advs t.mask n (st0 t.mask h)).j) h) := by
  have hle := seq_le t.mask n h
  generalize hj : (advs t.mask n (st0 t.mask h)).j = j at hn hle ⊢
  obtain ⟨b1, b2, b3⟩ := below_spec (j := j) T.rise
  have hb : SetTable.below t.place j ≤ hs.length := by rw [← T.len]; exact b1
  have hb' : SetTable.below t.place j ≤ t.place.toList.length := by rw [Array.length_toList]; exact b1
  have pm : ∀ x, x ∈ t.place.toList → x ∈ (t.put j).1.place.toList := fun x hx => by rw [put_place]; exact ins_mem.mpr (.inr hx)
  refine ⟨hb, T.mask, ?_, ?_, ?_, fun x hx => ?_, fun i g x e1 e2 => ?_⟩
  · show (if SetTable.has t.dummies j = true then SetTable.eraseAt t.dummies (SetTable.below t.dummies j) else t.dummies) = #[]
    rw [T.dum]
    have e : SetTable.has #[] j = false := by unfold SetTable.has; simp
    rw [e]
    rfl
  · rw [ins_len hb, ← Array.length_toList, put_place, ins_len hb', Array.length_toList, T.len]
  · unfold Rise
    rw [put_place]
    unfold ins
    rw [List.pairwise_append]
    refine ⟨List.Pairwise.sublist (List.take_sublist _ _) T.rise, ?_, fun a ha b hb2 => ?_⟩
    · refine List.pairwise_cons.mpr ⟨fun b hb2 => ?_, List.Pairwise.sublist (List.drop_sublist _ _) T.rise⟩
      obtain ⟨k, hk, e⟩ := List.getElem_of_mem hb2
      rw [List.getElem_drop] at e
      rw [List.length_drop] at hk
      have e' : t.place[SetTable.below t.place j + k]? = some b := by
        rw [← Array.getElem?_toList, List.getElem?_eq_getElem (by omega), e]
      have h1 := b3 _ _ (Nat.le_add_right _ _) e'
      have h2 : j ≠ b := fun z => hn (z ▸ mem_place e')
      omega
    · have hlt : a < j := by
        obtain ⟨k, hk, e⟩ := List.getElem_of_mem ha
        rw [List.getElem_take] at e
        rw [List.length_take] at hk
        have e' : t.place[k]? = some a := by rw [← Array.getElem?_toList, List.getElem?_eq_getElem (by omega), e]
        exact b2 k a (by omega) e'
      rcases List.mem_cons.mp hb2 with rfl | hb2
      · exact hlt
      · obtain ⟨k, hk, e⟩ := List.getElem_of_mem hb2
        rw [List.getElem_drop] at e
        rw [List.length_drop] at hk
        have e' : t.place[SetTable.below t.place j + k]? = some b := by
          rw [← Array.getElem?_toList, List.getElem?_eq_getElem (by omega), e]
        have h1 := b3 _ _ (Nat.le_add_right _ _) e'
        omega
  · rw [put_place] at hx
    rcases ins_mem.mp hx with rfl | hx
    · exact hle
    · exact T.le x hx
  · rw [← Array.getElem?_toList, put_place, insL_get hb'] at e2
    rw [insL_get hb] at e1
    by_cases c1 : i < SetTable.below t.place j
    · rw [if_pos c1] at e1 e2
      obtain ⟨m, r1, r2⟩ := T.rch i g x e1 (by rw [← Array.getElem?_toList]; exact e2)
      exact ⟨m, r1, fun q hq => pm _ (r2 q hq)⟩
    · rw [if_neg c1] at e1 e2
      by_cases c2 : i = SetTable.below t.place j
      · rw [if_pos c2] at e1 e2
        cases e1
        cases e2
        exact ⟨n, hj, fun q hq => pm _ (hr q hq)⟩
      · rw [if_neg c2] at e1 e2
        obtain ⟨m, r1, r2⟩ := T.rch (i - 1) g x e1 (by rw [← Array.getElem?_toList]; exact e2)
        exact ⟨m, r1, fun q hq => pm _ (r2 q hq)⟩

/-! ### entries and table -/
abbrev hsOf (es : Array (Int × Value)) : List Int := es.toList.map (·.1)
structure SOk (t : SetTable) (es : Array (Int × Value)) : Prop where
  T : TOk t (hsOf es)
  room : es.size * 5 < t.mask * 3
theorem hsOf_len (es : Array (Int × Value)) : (hsOf es).length = es.size := by rw [List.length_map, Array.length_toList]
theorem SOk.le {t : SetTable} {es : Array (Int × Value)} (S : SOk t es) : (hsOf es).length ≤ t.mask := by
  have := S.room
  rw [hsOf_len]
  omega
theorem SOk.fits {t : SetTable} {es : Array (Int × Value)} (S : SOk t es) : t.fits es.size = true := by
  have := S.T.fits S.le
  rw [hsOf_len] at this
  exact this
theorem SOk.fresh (f m : Nat) (led : Bool) : SOk (SetTable.fresh f m led) #[] := ⟨TOk.fresh f m led, by show 0 * 5 < 7 * 3; decide⟩
theorem insertAt_hs (es : Array (Int × Value)) (p : Nat) (h : Int) (x : Value) : hsOf (SetTable.insertAt es p (h, x)) = ins (hsOf es) p h := by
  unfold hsOf
  rw [SetTable.toList_insertAt]
  exact ins_map (·.1) es.toList p (h, x)
theorem insertAt_size (es : Array (Int × Value)) (p : Nat) (x : Int × Value) : (SetTable.insertAt es p x).size = es.size + 1 := by
  rw [← Array.length_toList, (SetTable.insertAt_perm es p x).length_eq, Array.length_toList, Array.size_push]
/-- what one more makes of table and entries, ahead of a laying anew -/
theorem SOk.put {t : SetTable} {es : Array (Int × Value)} (S : SOk t es) {h : Int} {n : Nat} (x : Value) (hn : (advs t.mask n (st0 t.mask h)).j ∉ t.place.toList) (hr : ∀ q, q < n → (advs t.mask q (st0 t.mask h)).j ∈ t.place.toList) :
    TOk (t.put (advs t.mask n (st0 t.mask h)).j).1 (hsOf (SetTable.insertAt es (t.put (advs t.mask n (st0 t.mask h)).j).2 (h, x))) ∧ (t.put (advs t.mask n (st0 t.mask h)).j).1.fits (es.size + 1) = true := by
  obtain ⟨h1, h2⟩ := S.T.put hn hr
  rw [put_p, insertAt_hs]
  refine ⟨h2, ?_⟩
  have h3 := h2.fits (by rw [ins_len h1, hsOf_len]; show es.size + 1 ≤ t.mask; have := S.room; rcases S.T.mask with e | e | e <;> omega)
  rw [ins_len h1, hsOf_len] at h3
  exact h3
theorem filterMap_es {es : Array (Int × Value)} {od : Array Nat} (h : od.toList.Perm (List.range es.size)) (r : Nat) : (od.filterMap (es[·]?))[r]? = (od[r]?).bind (es[·]?) := by
  rw [← Array.getElem?_toList, Array.toList_filterMap, filterMap_at _ _ (fun x hx => ?_), Array.getElem?_toList]
  have := List.mem_range.mp (h.mem_iff.mp hx)
  rw [Array.getElem?_eq_getElem this]
  rfl
theorem filterMap_perm {es : Array (Int × Value)} {od : Array Nat} (h : od.toList.Perm (List.range es.size)) : (od.filterMap (es[·]?)).toList.Perm es.toList := by
  rw [Array.toList_filterMap]
  exact (h.filterMap _).trans (by rw [PySem.filterMap_getElem?_range])
/-- a laying anew, where it is due -/
theorem relay_ok {t : SetTable} {es : Array (Int × Value)} (T : TOk t (hsOf es)) (hn : es.size = 5 ∧ t.mask = 7 ∨ es.size = 19 ∧ t.mask = 31) :
    ∃ t2 od, t.relaid (es.map (·.1)) (SetTable.grown es.size) = some (t2, od) ∧ od.toList.Perm (List.range es.size) ∧ SOk t2 (od.filterMap (es[·]?)) ∧ t2.led = t.led ∧ t2.plain = t.plain ∧ SetTable.sizeAbove (SetTable.grown es.size) ≤ 128 := by
  have hsz : (es.map (·.1)).size = es.size := Array.size_map
  have hm : ∃ m, SetTable.sizeAbove (SetTable.grown es.size) - 1 = m ∧ (m = 31 ∨ m = 127) ∧ es.size * 5 < m * 3 ∧ SetTable.sizeAbove (SetTable.grown es.size) ≤ 128 := by
    rcases hn with ⟨e, _⟩ | ⟨e, _⟩ <;> rw [e]
    · exact ⟨31, by decide, .inl rfl, by decide, by decide⟩
    · exact ⟨127, by decide, .inr rfl, by decide, by decide⟩
  obtain ⟨m, e, hmm, hroom, h128⟩ := hm
  have hc : covB (m + 1) = true := by
    rcases hmm with rfl | rfl
    · exact cov32
    · exact cov128
  obtain ⟨t2, od, e2, L⟩ := laid_spec hc t.finger (t.movedTo m) t.led t.plain (es.map (·.1)) (by rw [hsz]; omega)
  have hp := L.perm
  rw [hsz] at hp
  refine ⟨t2, od, by unfold SetTable.relaid; rw [e]; exact e2, hp, ⟨⟨by rw [L.tm]; exact .inr hmm, L.td, ?_, L.rise, by rw [L.tm]; exact L.le, fun i h j e1 e3 => ?_⟩, ?_⟩, L.tl, L.tp, h128⟩
  · rw [L.sz, hsz, hsOf_len]
    have := (filterMap_perm hp).length_eq
    rw [Array.length_toList, Array.length_toList] at this
    exact this.symm
  · rw [L.tm]
    have e1' : ((od[i]?).bind (es[·]?)).map (·.1) = some h := by
      rw [← filterMap_es hp, ← Array.getElem?_toList, ← List.getElem?_map]
      exact e1
    cases hq : od[i]? with
    | none => rw [hq] at e1'; cases e1'
    | some q =>
      rw [hq] at e1'
      exact L.rch i q j h hq e3 (by rw [Array.getElem?_map]; exact e1')
  · rw [L.tm]
    have := (filterMap_perm hp).length_eq
    rw [Array.length_toList, Array.length_toList] at this
    rw [this]
    exact hroom
theorem full_when {t : SetTable} {es : Array (Int × Value)} (S : SOk t es) (h76 : es.size + 1 ≤ 76) {t1 : SetTable} {hs1 : List Int} (T1 : TOk t1 hs1) (hl : hs1.length = es.size + 1) (hm : t1.mask = t.mask) :
    (t1.tooFull = true ∧ (es.size + 1 = 5 ∧ t1.mask = 7 ∨ es.size + 1 = 19 ∧ t1.mask = 31)) ∨ (t1.tooFull = false ∧ (es.size + 1) * 5 < t1.mask * 3) := by
  have hr := S.room
  have e : t1.tooFull = decide ((es.size + 1) * 5 ≥ t1.mask * 3) := by
    unfold SetTable.tooFull
    rw [T1.fill, hl]
  rw [e]
  by_cases h : (es.size + 1) * 5 ≥ t1.mask * 3
  · refine .inl ⟨decide_eq_true h, ?_⟩
    rcases T1.mask with q | q | q
    · left; omega
    · right; omega
    · omega
  · exact .inr ⟨decide_eq_false h, by omega⟩
end L2
namespace L2
open PySem PySem.Spec PyProof.Rows
/-! ### facts of Python's table -/
end L2
namespace L2
open PySem PySem.Spec PyProof.Rows
def byText (w : World) : Bool := w.params.followText "set-order"
section
variable {P : Program} {w : World} {A : Around} {E : Value → Shared → Prop} {s : Shared}
def EntI (P : Program) (w : World) (e : Int × Value) (n : Int) : Prop := e.1 = (intKind P w).hash n ∧ ∃ tk, e.2 = Value.int n tk
def SetI (P : Program) (w : World) (o : Obj) (σ : List Int) : Prop := ∃ es ep t, o.ExactSet ∧ o.data = .set es ep t ∧ Paired (EntI P w) es.toList σ ∧ σ.Nodup ∧ SOk t es ∧ t.plain = true ∧ t.led = !byText w
theorem putSet_at {h : Heap} {a : Addr} {o : Obj} {es : Array (Int × Value)} {ep : Nat} {t : SetTable} (ho : h.get? a = some o) (hd : o.data = .set es ep t) (es' : Array (Int × Value)) (t' : SetTable) :
    (h.update a (Obj.putSet es' t')).get? a = some { o with data := .set es' (ep + 1) t' } := by
  have := Heap.get?_update_self (Obj.putSet es' t') ho (by rw [putSet_of es' t' hd]; rfl)
  rw [putSet_of es' t' hd] at this
  exact this
end
end L2
namespace L2
open PySem PySem.Spec PyProof.Rows
def setObj0 (w : World) : Obj := { cls := .type "set", dict := none, data := .set #[] 0 (.fresh 0 0 (!byText w)) }
section
variable {P : Program} {w : World} {A : Around} {E : Value → Shared → Prop} {s : Shared}
theorem set_made (a : Value) {Q1 : Value → Shared → Prop} (h : Q1 (.ref s.heap.objs.size) { s with heap := s.heap.push (setObj0 w) }) :
    codeAny (model P w) A (.call (.builtin "set.__new__") ⟨[.type "set", a], []⟩) (wants Q1 E) s := by
  apply codeAny_of_tree
  show wpAny _ A.in1 (checkBuiltinCall "set.__new__" ⟨[.type "set", a], []⟩ >>= fun _ => again (.builtin "set.__new__" ⟨[.type "set", a], []⟩)) _ _ s
  apply wpAny_bind
  apply wpAny_of_eq (F.newCall_set_1 a)
  refine wpAny_pure ⟨plainId_quiet F.plain_set_new _, ?_⟩
  apply codeAny_builtin F.entry_set_new
  rw [Around.under_plainId F.plain_set_new _]
  unfold Builtin.«set.__new__» Builtin.Frozenset.newClass
  have hsb := sub_set_self
  obtain ⟨hp, g, d, tk, os⟩ := s
  dsimp only
  wp_walk
  apply wpAny_askSetting
  apply wpAny_pure
  dsimp only
  simp only [newObj]
  apply wpAny_bind
  apply wpAny_alloc
  apply wpAny_pure
  apply wpAny_pure
  exact h
/-- the loop of set(..): J by the number of items put in -/
theorem set_loop {I : Addr} {fp wr : List Addr} {G : Array GenState → Array GenState → Prop} {n : Nat} {Pv : Nat → Value → Prop} {St : Nat → Shared → Prop} {R : Result → Shared → Prop}
    (W : WalksS P w A.in1 I fp wr G n Pv St) (S : Addr) (hSf : S ∉ fp) (J : Nat → Obj → Prop) (Kp : Heap → Prop) (hK : ∀ h h' : Heap, Kp h → (∀ b o, b ∉ S :: wr → h.get? b = some o → h'.get? b = some o) → Kp h')
    (hadd : ∀ (i : Nat) (v : Value) (s1 : Shared) (o : Obj) (Q : Bool → Shared → Prop) (E1 : Value → Shared → Prop), i < n → Pv i v → Kp s1.heap → s1.heap.get? S = some o → J i o →
      (∀ (b : Bool) (h' : Heap) (tk : Nat) (o' : Obj), s1.toks ≤ tk → Heap.SameBut S s1.heap h' → h'.get? S = some o' → J (i + 1) o' → Q b { s1 with heap := h', toks := tk }) → wpAny (model P w) A.in1 (setAdd S v) Q E1 s1) :
    ∀ (k i : Nat) (s : Shared) (o : Obj), n - i = k → i ≤ n → St i s → Kp s.heap → s.heap.get? S = some o → J i o →
      (∀ (s' : Shared) (o' : Obj), Moved (S :: wr) G s s' → s'.heap.get? S = some o' → J n o' → R (.ok (.ret .none)) s') →
      codeAny (model P w) A (.builtin "set.update.loop" ⟨[.ref S, .ref I], []⟩) R s := by
  have hSw : S ∉ wr := fun z => hSf (W.sub _ z)
  have up : ∀ b ∈ wr, b ∈ S :: wr := fun b z => List.mem_cons_of_mem _ z
  intro k
  induction k with
  | zero =>
    intro i s o hk hi st kp ho hj hR
    have e : i = n := by omega
    subst e
    apply codeAny_builtin PyProof.Rows.F.entry_set_update_loop
    rw [Around.under_plainId PyProof.Rows.F.plain_set_update_loop _]
    apply wpAny_bind
    refine W.done s _ _ st fun s1 hm => ?_
    apply wpAny_pure
    exact hR s1 o (hm.mono up) (hm.heap S _ hSw ho) hj
  | succ k ih =>
    intro i s o hk hi st kp ho hj hR
    have hlt : i < n := by omega
    apply codeAny_builtin PyProof.Rows.F.entry_set_update_loop
    rw [Around.under_plainId PyProof.Rows.F.plain_set_update_loop _]
    apply wpAny_bind
    refine W.item i s _ _ hlt st fun v s1 hv st1 hm => ?_
    have ho1 := hm.heap S _ hSw ho
    have kp1 : Kp s1.heap := hK _ _ kp fun b o' hb e => hm.heap b o' (fun z => hb (up _ z)) e
    apply wpAny_bind
    apply wpAny_holding
    refine hadd i v s1 o _ _ hlt hv kp1 ho1 hj fun b h' tk o' htk sb ho' hj' => ?_
    refine wpAny_pure ⟨plainId_quiet PyProof.Rows.F.plain_set_update_loop _, ih (i + 1) _ o' (by omega) hlt (W.frame _ s1 _ _ st1 htk fun b hb o2 e => ?_) (hK _ _ kp1 fun b o2 hb e => ?_) ho' hj' fun s2 o2 hm2 ho2 hj2 => ?_⟩
    · rw [sb.2 b (fun z : b = S => hSf (z ▸ hb))]; exact e
    · show h'.get? b = some o2
      rw [sb.2 b (fun z : b = S => hb (by rw [z]; exact List.mem_cons_self))]; exact e
    · refine hR s2 o2 (Moved.trans W.gtrans ((hm.mono up).then_heap htk fun b o3 hb e => ?_) hm2) ho2 hj2
      rw [sb.2 b (fun z : b = S => hb (by rw [z]; exact List.mem_cons_self))]; exact e
/-- set(xs), xs a list -/
theorem call_setL {l : Addr} {items : Array Value} {Q : Value → Shared → Prop} (hh : A.handled = none) (hl : s.heap.IsList l items) (J : Nat → Obj → Prop) (Kp : Heap → Prop)
    (h0 : J 0 (setObj0 w)) (hK0 : ∀ h' : Heap, (∀ b o, b < s.heap.objs.size → s.heap.get? b = some o → h'.get? b = some o) → Kp h')
    (hadd : ∀ (i : Nat) (v : Value) (s1 : Shared) (o : Obj) (Q : Bool → Shared → Prop) (E1 : Value → Shared → Prop), i < items.size → items[i]? = some v → Kp s1.heap → s1.heap.get? s.heap.objs.size = some o → J i o →
      (∀ (b : Bool) (h' : Heap) (tk : Nat) (o' : Obj), s1.toks ≤ tk → Heap.SameBut s.heap.objs.size s1.heap h' → h'.get? s.heap.objs.size = some o' → J (i + 1) o' → Q b { s1 with heap := h', toks := tk }) → wpAny (model P w) A.in1.in1.in1 (setAdd s.heap.objs.size v) Q E1 s1)
    (h : ∀ (h' : Heap) (tk : Nat) (o' : Obj), h'.get? s.heap.objs.size = some o' → J items.size o' → (∀ b o, b < s.heap.objs.size → s.heap.get? b = some o → h'.get? b = some o) → Q (.ref s.heap.objs.size) { s with heap := h', toks := tk }) :
    wpAny (model P w) A (call (.type "set") [.ref l]) Q E s := by
  obtain ⟨c, tl, hmro⟩ := F.called_set.mro
  have hmade := F.called_set.made
  have hsub := F.called_set.sub
  apply wpAny_call
  apply codeAny_of_tree
  show wpAny _ _ (callAny (.type "set") _) _ _ _
  refine wpAny_pure ⟨Code.quiet_builtin _ (by decide +kernel), ?_⟩
  apply codeAny_builtin F.entry_type_call
  rw [Around.under_plain (weight_type_call_type "set" [.ref l] []) rfl]
  have h1 := F.called_set.notType
  have h2 := F.called_set.canCreate
  have hct := F.typeCall_set_1 (.ref l)
  repeat (any_goals (first | assumption | wp_step))
  refine codeAny_mono (set_made (.ref l) (E := E) (Q1 := fun obj s1 => obj = .ref s.heap.objs.size ∧ s1 = { s with heap := s.heap.push (setObj0 w) }) ⟨rfl, rfl⟩) fun r s1 hr => ?_
  cases r with
  | error e => exact hr
  | ok fl =>
    cases fl with
    | ret obj =>
      obtain ⟨rfl, rfl⟩ := hr
      have hS : (s.heap.push (setObj0 w)).get? s.heap.objs.size = some (setObj0 w) := Heap.get?_push_size _ rfl
      have hT : Shared.TypeIs { s with heap := s.heap.push (setObj0 w) } (.ref s.heap.objs.size) "set" := ⟨_, hS, rfl⟩
      have hli := F.called_set.init.lookup
      have hbi := F.called_set.init.bind (.ref s.heap.objs.size)
      repeat (any_goals (first | assumption | wp_step))
      refine codeAny_mono (codeAny_call_builtin (R := wants (fun r s2 => r = .none ∧ ∃ (h' : Heap) (tk : Nat) (o' : Obj), s2 = { s with heap := h', toks := tk } ∧ h'.get? s.heap.objs.size = some o' ∧ J items.size o' ∧
          (∀ b o, b < s.heap.objs.size → s.heap.get? b = some o → h'.get? b = some o)) E) F.called_set.init.plain F.entry_set_init (check_set_init_1 hT ?_)) fun r2 s2 hr2 => ?_
      · obtain ⟨ol, hol, hcl, nl, hdl⟩ := hl
        obtain ⟨ocls, odict, odata, oslots⟩ := ol
        simp only at hcl hdl
        subst hcl; subst hdl
        have hol' : (s.heap.push (setObj0 w)).get? l = some { cls := .type "list", dict := odict, data := .seq items nl, slots := oslots } := Heap.get?_push_of_some _ hol
        have hsls := F.sub_list_set
        have hslf := F.sub_list_frozenset
        have hne : (Value.type "list" == Value.type "dict") = false := by decide
        have hl1 : (s.heap.push (setObj0 w)).IsList l items := ⟨_, hol', rfl, nl, rfl⟩
        have hS' : (s.heap.push (setObj0 w)).get? s.heap.objs.size = some { cls := .type "set", dict := none, data := .set #[] 0 (.fresh 0 0 (!byText w)) } := hS
        unfold Builtin.«set.__init__» noKeywords Builtin.Frozenset.updateFrom
        generalize hPI : pyIter = PI
        wp_walk
        subst hPI
        apply wpAny_pyIter_list hl1
        apply wpAny_bind
        apply wpAny_runValue
        have hlS : l < s.heap.objs.size := Heap.lt_size hol
        have hh3 : A.in1.in1.in1.handled = none := by simp [hh]
        have hz : (s.heap.push (setObj0 w)).objs.size = s.heap.objs.size + 1 := Heap.size_push ..
        have hneI : l ≠ (s.heap.push (setObj0 w)).objs.size := by rw [hz]; exact Nat.ne_of_lt (Nat.lt_succ_of_lt hlS)
        have hSf : s.heap.objs.size ∉ [(s.heap.push (setObj0 w)).objs.size, l] := by
          rw [hz]
          intro z
          rcases List.mem_cons.mp z with z | z
          · exact Nat.ne_of_lt (Nat.lt_succ_self _) z
          · exact Nat.ne_of_gt hlS (List.mem_singleton.mp z)
        have kold : ∀ b o, b < s.heap.objs.size → s.heap.get? b = some o → ((s.heap.push (setObj0 w)).push { cls := .type "list_iterator", data := .fields #[.ref l, .int 0 0] }).get? b = some o :=
          fun b o _ e => Heap.get?_push_of_some _ (Heap.get?_push_of_some _ e)
        refine set_loop ((Walks.list hh3 _ l hneI items).toS) s.heap.objs.size hSf J (fun h' => ∀ b o, b < s.heap.objs.size → s.heap.get? b = some o → h'.get? b = some o) ?_ ?_ (items.size - 0) 0 _ (setObj0 w) (by omega) (Nat.zero_le _)
          ⟨⟨_, Heap.get?_push_size _ rfl, rfl, rfl⟩, (hl1.push _)⟩ kold (Heap.get?_push_of_some _ hS) h0 ?_
        · intro ha hb hab hst b o hlt e
          refine hst b o ?_ (hab b o hlt e)
          intro z
          rcases List.mem_cons.mp z with z | z
          · exact Nat.ne_of_lt hlt z
          · exact Nat.ne_of_lt (Nat.lt_succ_of_lt hlt) ((List.mem_singleton.mp z).trans hz)
        · intro i v s1 o Q1 E1 hi hv kp ho hj hq
          exact hadd i v s1 o Q1 E1 hi hv (hK0 _ kp) ho hj hq
        · intro s' o' hm ho' hj'
          obtain ⟨h', g', d', tk', os'⟩ := s'
          have eg : g' = s.gens := hm.gens
          have ed : d' = s.drawn := hm.drawn
          have eo : os' = s.os := hm.os
          subst eg; subst ed; subst eo
          apply wpAny_pure
          refine wpAny_pure ⟨rfl, h', tk', o', rfl, ho', hj', fun b o hb e => ?_⟩
          refine hm.heap b o ?_ (Heap.get?_push_of_some _ (Heap.get?_push_of_some _ e))
          intro z
          rcases List.mem_cons.mp z with z | z
          · exact Nat.ne_of_lt hb z
          · exact Nat.ne_of_lt (Nat.lt_succ_of_lt hb) ((List.mem_singleton.mp z).trans hz)
      · cases r2 with
        | error e => exact hr2
        | ok fl2 =>
          cases fl2 with
          | ret r =>
            obtain ⟨rfl, h', tk, o', rfl, ho', hj', hk'⟩ := hr2
            repeat (any_goals (first | assumption | wp_step))
            exact h _ _ _ ho' hj' hk'
          | _ => exact hr2.elim
    | _ => exact hr.elim
end
end L2
namespace L2
open PySem PySem.Spec PyProof.Rows
/-! ### a set's walk -/
def slotAt (t : SetTable) : Nat → Nat
  | 0 => 0
  | i + 1 => t.place.getD i 0 + 1
section
variable {P : Program} {w : World} {A : Around} {E : Value → Shared → Prop} {s : Shared}
/-- the set at a, by its entries -/
def SAt (w : World) (h : Heap) (a : Addr) (es : Array (Int × Value)) (ep : Nat) (t : SetTable) : Prop :=
  (∃ o, h.get? a = some o ∧ o.ExactSet ∧ o.data = .set es ep t) ∧ SOk t es ∧ t.plain = true ∧ t.led = !byText w
def walked (w : World) (a : Addr) (es : Array (Int × Value)) (ep : Nat) : List (Int × Value) := if byText w then (pickOrder (w.params.setOrder a ep) es).toList else es.toList
def slotW (w : World) (t : SetTable) (i : Nat) : Nat := if byText w then 0 else slotAt t i
def IsSetIter (w : World) (h : Heap) (it a : Addr) (t : SetTable) (i n ep : Nat) : Prop :=
  ∃ o, h.get? it = some o ∧ o.cls = .type "set_iterator" ∧ o.data = .fields #[.int (slotW w t i) 0, .int i 0, .ref a, .int n 0, .int ep 0]
end
end L2
namespace L2
open PySem PySem.Spec PyProof.Rows
section
variable {P : Program} {w : World} {A : Around} {E : Value → Shared → Prop} {s : Shared}
end
/-! ### the rules -/
def SetO (P : Program) (w : World) (a : Addr) (ms : List Int) : HO := .ext fun h => ∃ o σ, h.get? a = some o ∧ SetI P w o σ ∧ σ.Perm ms
theorem take_succ_mem {α : Type} {l : List α} {i : Nat} {x y : α} (h : l[i]? = some x) : y ∈ l.take (i + 1) ↔ y ∈ l.take i ∨ y = x := by
  rw [List.take_succ, h]
  simp
section
variable {X : Cx} (K : PySem.W.Frag)
end
end L2
namespace L2
open PySem PySem.Spec PyProof.Rows
section
variable {P : Program} {w : World} {A : Around} {E : Value → Shared → Prop} {s : Shared}
end
section
variable {X : Cx}
end
end L2
namespace L2
open PySem PySem.Spec PyProof.Rows
section
variable {X : Cx} (P : Program) (w : World) (K : PySem.W.Frag)
end
end L2
namespace L2
open PySem PySem.Spec PyProof.Rows
section
variable {X : Cx}
/-! ### list.count(n) of a list of ints -/
def rCount : V → List V → Hp → VK → Prop := fun x vs H Q => ∃ (l : Addr) (ns : List Int) (i : Int), x = .ref l ∧ vs = [.int i] ∧ H l = some (.lst (ns.map V.int)) ∧ Q (.int ((ns.count i : Nat) : Int)) H
end
end L2
namespace L2
open PySem PySem.Spec PyProof.Rows
/-! ### sets of pairs -/
section
variable {P : Program} {w : World} {A : Around} {E : Value → Shared → Prop} {s : Shared}
abbrev hashP (P : Program) (w : World) (r : Int × Int) : Int := tupleKeyHash (intKind P w) [r.1, r.2]
def IsPr (P : Program) (w : World) (h : Heap) (r : Int × Int) (a : Addr) : Prop := IsTupleKey (intKind P w) h [r.1, r.2] a
def PEnt (P : Program) (w : World) (h : Heap) (e : Int × Value) (r : Int × Int) : Prop := e.1 = hashP P w r ∧ ∃ a, e.2 = .ref a ∧ IsPr P w h r a
theorem items_byV {ks : List Int} {vs : List Value} (h : ItemsAre (intKind P w) ks vs) : ∀ v ∈ vs, ∃ i t, v = Value.int i t := by
  induction h with
  | nil => intro v hv; simp at hv
  | @cons k v' ks vs h1 _ ih =>
    intro v hv
    rcases List.mem_cons.mp hv with rfl | hv
    · cases v with
      | int i t => exact ⟨i, t, rfl⟩
      | _ => cases h1
    · exact ih v hv
def hAt (es : Array (Int × Value)) (i : Nat) : Int := (es[i]?.map (·.1)).getD 0
section
variable {a b : Addr} {o : Obj} {es : Array (Int × Value)} {ep : Nat} {t : SetTable} {ps : List (Int × Int)} {r : Int × Int} {Q : SetFound → Shared → Prop}
end
end
end L2
namespace L2
open PySem PySem.Spec PyProof.Rows
section
variable {P : Program} {w : World} {A : Around} {E : Value → Shared → Prop} {s : Shared}
/-- the set's object, its pairs in the heap h0 -/
def SetPr (P : Program) (w : World) (h0 : Heap) (o : Obj) (ps : List (Int × Int)) : Prop := ∃ es ep t, o.ExactSet ∧ o.data = .set es ep t ∧ Paired (PEnt P w h0) es.toList ps ∧ ps.Nodup ∧ SOk t es
end
/-- a set of which the number of members alone is told -/
def SetN (a : Addr) (m : Nat) : HO := .ext fun h => ∃ o es ep t, h.get? a = some o ∧ o.ExactSet ∧ o.data = .set es ep t ∧ t.fits es.size = true ∧ es.size = m ∧ m ≤ 76
section
variable {X : Cx} (K : PySem.W.Frag)
theorem kLenN : CallR X (.builtin "len") (fun xs H Q => ∃ p m, xs = [.ref p] ∧ H p = some (SetN p m) ∧ Q (.int (m : Nat)) H) := by
  intro pins s σ H xs us Q I rv h
  obtain ⟨p, m, rfl, hp, q⟩ := h
  obtain ⟨u, rfl, ru⟩ := rv.one
  cases ru
  obtain ⟨⟨o, es, ep, t, ho, h1, h2, h3, h4, h5⟩, _⟩ := I.hok p _ hp
  refine call_len_set ho h1 h2 h3 (by omega) ?_
  exact ⟨.int (m : Nat), H, I.tok _, ⟨s.toks + 1, by rw [h4]⟩, q⟩
end
end L2
namespace L2
open PySem PySem.Spec PyProof.Rows
/-! ### lists of triples of whole numbers -/
abbrev Tri := Int × Int × Int
inductive Trs (H : Hp) : List V → List Tri → Prop
  | nil : Trs H [] []
  | cons {p : Addr} {a b c : Int} {xs : List V} {rs : List Tri} : H p = some (.tup [.int a, .int b, .int c]) → Trs H xs rs → Trs H (.ref p :: xs) ((a, b, c) :: rs)
theorem Trs.len {H : Hp} {xs : List V} {rs : List Tri} (h : Trs H xs rs) : xs.length = rs.length := by
  induction h with
  | nil => rfl
  | cons _ _ ih => rw [List.length_cons, List.length_cons, ih]
theorem Trs.snoc {H : Hp} {xs : List V} {rs : List Tri} (h : Trs H xs rs) {p : Addr} {a b c : Int} (e : H p = some (.tup [.int a, .int b, .int c])) : Trs H (xs ++ [.ref p]) (rs ++ [(a, b, c)]) := by
  induction h with
  | nil => exact .cons e .nil
  | cons e1 _ ih => exact .cons e1 ih
theorem Trs.keep {H H' : Hp} {xs : List V} {rs : List Tri} (h : Trs H xs rs) (k : ∀ p ys, H p = some (.tup ys) → H' p = some (.tup ys)) : Trs H' xs rs := by
  induction h with
  | nil => exact .nil
  | cons e1 _ ih => exact .cons (k _ _ e1) ih
theorem Trs.same {H H' : Hp} {xs : List V} {rs : List Tri} (h : Trs H xs rs) (k : Same H H') : Trs H' xs rs := h.keep fun p ys e => k p _ e
theorem Trs.get {H : Hp} : ∀ {xs : List V} {rs : List Tri}, Trs H xs rs → ∀ {i : Nat} {x : V}, xs[i]? = some x → ∃ t r, x = .ref t ∧ H t = some (.tup [.int r.1, .int r.2.1, .int r.2.2]) ∧ rs[i]? = some r
  | _, _, .nil, _, _, h => by simp at h
  | _, _, .cons (a := a) (b := b) (c := c) e _, 0, _, h => by
    simp at h
    subst h
    exact ⟨_, (a, b, c), rfl, e, rfl⟩
  | _, _, .cons _ t, i + 1, _, h => by
    rw [List.getElem?_cons_succ] at h ⊢
    exact Trs.get t h
/-- by the number of a triple -/
theorem Trs.at {H : Hp} {xs : List V} {rs : List Tri} (h : Trs H xs rs) {i : Nat} {r : Tri} (e : rs[i]? = some r) : ∃ t, xs[i]? = some (.ref t) ∧ H t = some (.tup [.int r.1, .int r.2.1, .int r.2.2]) := by
  have hi : i < xs.length := by rw [h.len]; exact (List.getElem?_eq_some_iff.mp e).1
  obtain ⟨t, r', e1, e2, e3⟩ := h.get (List.getElem?_eq_getElem hi)
  rw [e] at e3
  cases e3
  exact ⟨t, by rw [List.getElem?_eq_getElem hi, e1], e2⟩
def trD (r : Tri) : PyData := .tuple [.int r.1, .int r.2.1, .int r.2.2]
theorem Trs.dats {K : PySem.W.Frag} {H : Hp} {xs : List V} {rs : List Tri} (h : Trs H xs rs) : DatVs K H xs (rs.map trD) := by
  induction h with
  | nil => exact .nil
  | cons e _ ih => exact .cons (.tup (SqT.of e) (.cons (.int _) (.cons (.int _) (.cons (.int _) .nil)))) ih
theorem trD_eqv (r q : Tri) : PyData.eqv (trD r) (trD q) = decide (r = q) := by
  obtain ⟨a, b, c⟩ := r
  obtain ⟨d, e, f⟩ := q
  simp only [trD, PyData.eqv, PyData.eqvAll, Prod.mk.injEq]
  by_cases h1 : a = d <;> by_cases h2 : b = e <;> by_cases h3 : c = f <;> simp [h1, h2, h3]
theorem trs_eqv : ∀ rs qs : List Tri, PyData.eqvAll (rs.map trD) (qs.map trD) = decide (rs = qs)
  | [], [] => by simp [PyData.eqvAll]
  | [], _ :: _ => by simp [PyData.eqvAll]
  | _ :: _, [] => by simp [PyData.eqvAll]
  | r :: rs, q :: qs => by
    rw [List.map_cons, List.map_cons]
    simp only [PyData.eqvAll, trD_eqv, trs_eqv rs qs]
    by_cases h1 : r = q <;> by_cases h2 : rs = qs <;> simp [h1, h2]
theorem trs_can : ∀ rs : List Tri, PyData.canLayAll0 (rs.map trD) = true
  | [] => by simp [PyData.canLayAll0]
  | r :: rs => by
    rw [List.map_cons]
    simp [PyData.canLayAll0, trD, PyData.canLay0, trs_can rs]
theorem trs_depth : ∀ rs : List Tri, PyData.depthAll (rs.map trD) ≤ 2
  | [] => by simp [PyData.depthAll]
  | r :: rs => by
    have ih := trs_depth rs
    rw [List.map_cons]
    simp only [PyData.depthAll, trD, PyData.depth]
    omega
theorem trs_shaped (rs : List Tri) : SeqAt.shaped (.list (rs.map trD)) = true := by
  unfold SeqAt.shaped
  rw [Bool.and_eq_true]
  refine ⟨by simp only [PyData.canLay0]; exact trs_can rs, decide_eq_true ?_⟩
  have := trs_depth rs
  simp only [PyData.depth]
  omega
theorem tab_shaped (n : Int) (rs : List Tri) : SeqAt.shaped (.tuple [.int n, .list (rs.map trD)]) = true := by
  unfold SeqAt.shaped
  rw [Bool.and_eq_true]
  have := trs_depth rs
  refine ⟨by simp only [PyData.canLay0, PyData.canLayAll0, trs_can rs, Bool.and_self], decide_eq_true ?_⟩
  simp only [PyData.depth, PyData.depthAll]
  omega
theorem trl_eqv (rs qs : List Tri) : PyData.eqv (.list (rs.map trD)) (.list (qs.map trD)) = decide (rs = qs) := by
  simp only [PyData.eqv, trs_eqv]
theorem tab_eqv (n m : Int) (rs qs : List Tri) : PyData.eqv (.tuple [.int n, .list (rs.map trD)]) (.tuple [.int m, .list (qs.map trD)]) = (decide (n = m) && decide (rs = qs)) := by
  simp only [PyData.eqv, PyData.eqvAll, trs_eqv, Bool.and_true]
  by_cases h : n = m <;> simp [h]
section
variable {X : Cx} (K : PySem.W.Frag)
theorem kSlT (h : X.K = K := by rfl) : SlR X (rSlT K) := h ▸ sl_tup
theorem kTupI {tg : Expr} {l : Expr} {tl : TE} (hl : PE X l tl) (h : X.K = K := by rfl) : PI X tg l (iTup K tl) := h ▸ pi_tup hl
end
end L2
namespace L2
open PySem PySem.Spec PyProof.Rows
/-! ### tables: the mathematics -/
def Nd (ts : List Tri) (c : Int) (r : Tri) : Prop := 2 ≤ c ∧ ts[(c - 2).toNat]? = some r
/-- a number that a node of road lo may name -/
def At (ts : List Tri) (c lo : Int) : Prop := c = 0 ∨ c = 1 ∨ ∃ r, Nd ts c r ∧ lo < r.1
def TabOk (ts : List Tri) : Prop := ∀ (i : Nat) (r : Tri), ts[i]? = some r → (0 ≤ r.1 ∧ r.1 < 30) ∧ At ts r.2.1 r.1 ∧ At ts r.2.2 r.1
theorem Nd.one {ts : List Tri} {c : Int} {r r' : Tri} (h : Nd ts c r) (h' : Nd ts c r') : r = r' := by
  have := h.2.symm.trans h'.2
  cases this
  rfl
theorem Nd.lt {ts : List Tri} {c : Int} {r : Tri} (h : Nd ts c r) : c < ts.length + 2 := by
  have := (List.getElem?_eq_some_iff.mp h.2).1
  have := h.1
  omega
theorem Nd.app {ts : List Tri} {c : Int} {r : Tri} (h : Nd ts c r) (us : List Tri) : Nd (ts ++ us) c r :=
  ⟨h.1, by rw [List.getElem?_append_left (List.getElem?_eq_some_iff.mp h.2).1]; exact h.2⟩
theorem Nd.last (ts : List Tri) (r : Tri) : Nd (ts ++ [r]) (ts.length + 2) r := by
  refine ⟨by omega, ?_⟩
  have e : ((ts.length : Int) + 2 - 2).toNat = ts.length := by omega
  rw [e, List.getElem?_append_right (Nat.le_refl _), Nat.sub_self]
  rfl
theorem At.app {ts : List Tri} {c lo : Int} (h : At ts c lo) (us : List Tri) : At (ts ++ us) c lo := by
  rcases h with h | h | ⟨r, h, g⟩
  · exact .inl h
  · exact .inr (.inl h)
  · exact .inr (.inr ⟨r, h.app us, g⟩)
theorem At.mono {ts : List Tri} {c lo lo' : Int} (h : At ts c lo) (hl : lo' ≤ lo) : At ts c lo' := by
  rcases h with h | h | ⟨r, h, g⟩
  · exact .inl h
  · exact .inr (.inl h)
  · exact .inr (.inr ⟨r, h, by omega⟩)
theorem At.lt {ts : List Tri} {c lo : Int} (h : At ts c lo) : 0 ≤ c ∧ c < ts.length + 2 := by
  rcases h with rfl | rfl | ⟨r, h, g⟩
  · omega
  · omega
  · have := h.lt
    have := h.1
    omega
theorem At.nd {ts : List Tri} {c lo : Int} (h : At ts c lo) (hc : 1 < c) : ∃ r, Nd ts c r ∧ lo < r.1 := by
  rcases h with h | h | h
  · omega
  · omega
  · exact h
theorem TabOk.nil : TabOk [] := fun i r h => by simp at h
theorem TabOk.snoc {ts : List Tri} {r : Tri} (h : TabOk ts) (h0 : 0 ≤ r.1 ∧ r.1 < 30) (h1 : At ts r.2.1 r.1) (h2 : At ts r.2.2 r.1) : TabOk (ts ++ [r]) := by
  intro i q e
  by_cases hi : i < ts.length
  · rw [List.getElem?_append_left hi] at e
    obtain ⟨a, b, c⟩ := h i q e
    exact ⟨a, b.app _, c.app _⟩
  · rw [List.getElem?_append_right (by omega)] at e
    have hz : i - ts.length = 0 := by
      have := (List.getElem?_eq_some_iff.mp e).1
      rw [List.length_singleton] at this
      omega
    rw [hz] at e
    cases e
    exact ⟨h0, h1.app _, h2.app _⟩
theorem TabOk.nd {ts : List Tri} {c : Int} {r : Tri} (h : TabOk ts) (n : Nd ts c r) : (0 ≤ r.1 ∧ r.1 < 30) ∧ At ts r.2.1 r.1 ∧ At ts r.2.2 r.1 := h _ r n.2
/-! the sets of a table -/
inductive Has (ts : List Tri) : Int → List Int → Prop
  | one : Has ts 1 []
  | low {c : Int} {r : Tri} {rs : List Int} : Nd ts c r → Has ts r.2.1 rs → Has ts c rs
  | high {c : Int} {r : Tri} {rs : List Int} : Nd ts c r → Has ts r.2.2 rs → Has ts c (r.1 :: rs)
/-! numbers given in the order of finding -/
def numI (fs : List Int) (n : Int) : Option Int := if n = 0 then some 0 else if n = 1 then some 1 else (fs.idxOf? n).map fun (i : Nat) => (i : Int) + 2
theorem idxOf?_app (fs : List Int) (n m : Int) (hn : m ∉ fs) : (fs ++ [m]).idxOf? n = if n = m then some fs.length else fs.idxOf? n := by
  induction fs with
  | nil =>
    by_cases h : n = m
    · subst h; simp [List.idxOf?, List.findIdx?_cons]
    · have : ¬ m = n := fun z => h z.symm
      simp [List.idxOf?, List.findIdx?_cons, h, this]
  | cons a fs ih =>
    have h1 : m ∉ fs := fun z => hn (List.mem_cons_of_mem _ z)
    have h2 : a ≠ m := fun z => hn (z ▸ List.mem_cons_self)
    have ih' := ih h1
    rw [List.cons_append, List.idxOf?_cons, List.idxOf?_cons, ih', List.length_cons]
    by_cases ha : (a == n) = true
    · have : a = n := by simpa using ha
      subst this
      simp [h2]
    · by_cases hm : n = m
      · subst hm
        simp [ha]
      · simp [ha, hm]
theorem numI_app (fs : List Int) (n m : Int) (hn : numI fs m = none) : numI (fs ++ [m]) n = if n = m then some ((fs.length : Int) + 2) else numI fs n := by
  unfold numI at hn ⊢
  by_cases h0 : m = 0
  · rw [if_pos h0] at hn; cases hn
  rw [if_neg h0] at hn
  by_cases h1 : m = 1
  · rw [if_pos h1] at hn; cases hn
  rw [if_neg h1] at hn
  have hm : m ∉ fs := by
    intro z
    rw [Option.map_eq_none_iff, List.idxOf?_eq_none_iff] at hn
    exact hn z
  rw [idxOf?_app fs n m hm]
  by_cases hnm : n = m
  · subst hnm
    simp [h0, h1]
  · simp [hnm]
theorem numI_mono {fs : List Int} {n m a : Int} (hn : numI fs m = none) (h : numI fs n = some a) : numI (fs ++ [m]) n = some a := by
  rw [numI_app fs n m hn, if_neg (fun z => by rw [z, hn] at h; cases h)]
  exact h
theorem numI_get {fs : List Int} {n a : Int} (h : numI fs n = some a) (h1 : 1 < n) : 2 ≤ a ∧ fs[(a - 2).toNat]? = some n := by
  unfold numI at h
  rw [if_neg (by omega), if_neg (by omega)] at h
  cases hi : fs.idxOf? n with
  | none => rw [hi] at h; cases h
  | some i =>
    rw [hi] at h
    cases h
    refine ⟨by show (2 : Int) ≤ (i : Int) + 2; omega, ?_⟩
    show fs[((i : Int) + 2 - 2).toNat]? = some n
    rw [show ((i : Int) + 2 - 2).toNat = i by omega]
    rw [List.idxOf?_eq_some_iff] at hi
    obtain ⟨hl, e, _⟩ := hi
    rw [List.getElem?_eq_getElem hl, e]
end L2
namespace L2
open PySem PySem.Spec PyProof.Rows
/-! ### tables put into order: the mathematics -/
theorem numI_zero (fs : List Int) : numI fs 0 = some 0 := by unfold numI; rw [if_pos rfl]
theorem numI_one (fs : List Int) : numI fs 1 = some 1 := by unfold numI; rw [if_neg (by decide), if_pos rfl]
theorem numI_none {fs : List Int} {m : Int} (h : numI fs m = none) : m ≠ 0 ∧ m ≠ 1 ∧ m ∉ fs := by
  unfold numI at h
  by_cases h0 : m = 0
  · rw [if_pos h0] at h; cases h
  rw [if_neg h0] at h
  by_cases h1 : m = 1
  · rw [if_pos h1] at h; cases h
  rw [if_neg h1] at h
  refine ⟨h0, h1, fun z => ?_⟩
  rw [Option.map_eq_none_iff, List.idxOf?_eq_none_iff] at h
  exact h z
/-- what is found stands in its dict -/
structure Fnd (ks : List Tri) (root : Int) (fs : List Int) (kvs : List (Key × V)) (k : Nat) : Prop where
  num : ∀ n : Int, valV kvs (.inl n) = (numI fs n).map V.int
  nd : fs.Nodup
  nod : ∀ x ∈ fs, ∃ r, Nd ks x r
  kle : k ≤ fs.length
  cl : ∀ (i : Nat), i < k → ∀ (x : Int) (r : Tri), fs[i]? = some x → Nd ks x r → (numI fs r.2.1).isSome ∧ (numI fs r.2.2).isSome
  kl : kvs.length ≤ fs.length + 2
theorem some_mono {fs : List Int} {m n : Int} (hn : numI fs m = none) (h : (numI fs n).isSome) : (numI (fs ++ [m]) n).isSome := by
  obtain ⟨a, e⟩ := Option.isSome_iff_exists.mp h
  rw [numI_mono hn e]
  rfl
theorem Fnd.add {ks : List Tri} {root : Int} {fs : List Int} {kvs : List (Key × V)} {k : Nat} (h : Fnd ks root fs kvs k) {m v : Int} {r : Tri} (hn : numI fs m = none) (hr : Nd ks m r) (hv : v = (fs.length : Int) + 2) : Fnd ks root (fs ++ [m]) (putK kvs (.inl m) (.int v)) k := by
  obtain ⟨h0, h1, h2⟩ := numI_none hn
  refine ⟨fun n => ?_, ?_, fun x hx => ?_, ?_, fun i hi x r' e n' => ?_, ?_⟩
  · rw [valV_put, numI_app fs n m hn, h.num n]
    by_cases e : n = m
    · rw [if_pos e, if_pos (by rw [e]), hv]
      rfl
    · rw [if_neg e, if_neg (fun z => e (Sum.inl.inj z))]
  · exact List.nodup_append.mpr ⟨h.nd, by simp, fun a ha b hb => by rw [List.mem_singleton] at hb; subst hb; exact fun z => h2 (z ▸ ha)⟩
  · rcases List.mem_append.mp hx with z | z
    · exact h.nod x z
    · rw [List.mem_singleton] at z
      subst z
      exact ⟨r, hr⟩
  · rw [List.length_append]
    have := h.kle
    omega
  · have hil : i < fs.length := Nat.lt_of_lt_of_le hi h.kle
    rw [List.getElem?_append_left hil] at e
    obtain ⟨a, b⟩ := h.cl i hi x r' e n'
    exact ⟨some_mono hn a, some_mono hn b⟩
  · have := length_putK kvs (.inl m) (.int v)
    have := h.kl
    rw [List.length_append, List.length_singleton]
    omega
theorem Fnd.le {ks : List Tri} {root : Int} {fs : List Int} {kvs : List (Key × V)} {k : Nat} (h : Fnd ks root fs kvs k) : fs.length ≤ ks.length := by
  have := List.Nodup.length_le_of_subset (l₂ := (List.range ks.length).map fun (i : Nat) => (i : Int) + 2) h.nd fun x hx => by
    obtain ⟨r, n⟩ := h.nod x hx
    have h1 := n.lt
    have h2 := n.1
    exact List.mem_map.mpr ⟨(x - 2).toNat, List.mem_range.mpr (by omega), by omega⟩
  rw [List.length_map, List.length_range] at this
  exact this
theorem Fnd.next {ks : List Tri} {root : Int} {fs : List Int} {kvs : List (Key × V)} {k : Nat} (h : Fnd ks root fs kvs k) {x : Int} {r : Tri} (e : fs[k]? = some x) (n : Nd ks x r) (h1 : (numI fs r.2.1).isSome) (h2 : (numI fs r.2.2).isSome) : Fnd ks root fs kvs (k + 1) := by
  refine ⟨h.num, h.nd, h.nod, (List.getElem?_eq_some_iff.mp e).1, fun i hi x' r' e' n' => ?_, h.kl⟩
  by_cases hk : i < k
  · exact h.cl i hk x' r' e' n'
  · have : i = k := by omega
    subst this
    rw [e] at e'
    cases e'
    rw [n'.one n]
    exact ⟨h1, h2⟩
/-- the table that is told -/
def Said (ks : List Tri) (fs : List Int) (us : List Tri) (i : Nat) : Prop := ∀ (j : Nat) (x : Int), j < i → fs[j]? = some x → ∃ (r : Tri) (a b : Int), Nd ks x r ∧ numI fs r.2.1 = some a ∧ numI fs r.2.2 = some b ∧ us[j]? = some (r.1, a, b)
theorem Said.at {ks : List Tri} {fs : List Int} {us : List Tri} (S : Said ks fs us fs.length) {c lo a : Int} (h : At ks c lo) (e : numI fs c = some a) : At us a lo := by
  rcases h with rfl | rfl | ⟨r, n, g⟩
  · rw [numI_zero] at e; cases e; exact .inl rfl
  · rw [numI_one] at e; cases e; exact .inr (.inl rfl)
  · obtain ⟨h2, e2⟩ := numI_get e (by have := n.1; omega)
    obtain ⟨r', a', b', n', _, _, e'⟩ := S _ _ (List.getElem?_eq_some_iff.mp e2).1 e2
    rw [n'.one n] at e'
    exact .inr (.inr ⟨_, ⟨h2, e'⟩, g⟩)
theorem Said.tab {ks : List Tri} {fs : List Int} {us : List Tri} (T : TabOk ks) (S : Said ks fs us fs.length) (hl : us.length = fs.length) : TabOk us := by
  intro i q e
  have hi : i < fs.length := by rw [← hl]; exact (List.getElem?_eq_some_iff.mp e).1
  obtain ⟨r, a, b, n, ha, hb, e'⟩ := S i _ hi (List.getElem?_eq_getElem hi)
  rw [e] at e'
  cases e'
  obtain ⟨h1, h2, h3⟩ := T.nd n
  exact ⟨h1, S.at h2 ha, S.at h3 hb⟩
theorem Said.snoc {ks : List Tri} {fs : List Int} {us : List Tri} {i : Nat} (S : Said ks fs us i) (hl : us.length = i) {x : Int} {r : Tri} {a b : Int} (e : fs[i]? = some x) (n : Nd ks x r) (ha : numI fs r.2.1 = some a) (hb : numI fs r.2.2 = some b) : Said ks fs (us ++ [(r.1, a, b)]) (i + 1) := by
  intro j y hj ey
  by_cases h : j < i
  · obtain ⟨r', a', b', h1, h2, h3, h4⟩ := S j y h ey
    exact ⟨r', a', b', h1, h2, h3, by rw [List.getElem?_append_left (by omega)]; exact h4⟩
  · have : j = i := by omega
    subst this
    rw [e] at ey
    cases ey
    refine ⟨r, a, b, n, ha, hb, ?_⟩
    rw [List.getElem?_append_right (by omega), hl, Nat.sub_self]
    rfl
/-! nodes made one where they are alike -/
def Bk (ts : List Tri) : Prop := ∀ (i : Nat) (r : Tri), ts[i]? = some r → r.2.1 < (i : Int) + 2 ∧ r.2.2 < (i : Int) + 2
theorem Bk.snoc {ts : List Tri} {r : Tri} (h : Bk ts) (h1 : r.2.1 < (ts.length : Int) + 2) (h2 : r.2.2 < (ts.length : Int) + 2) : Bk (ts ++ [r]) := by
  intro i q e
  by_cases hi : i < ts.length
  · rw [List.getElem?_append_left hi] at e
    exact h i q e
  · rw [List.getElem?_append_right (by omega)] at e
    have hz : i - ts.length = 0 := by
      have := (List.getElem?_eq_some_iff.mp e).1
      rw [List.length_singleton] at this
      omega
    rw [hz] at e
    cases e
    have : i = ts.length := by omega
    subst this
    exact ⟨h1, h2⟩
structure MapOk (ts ks : List Tri) (sm : List Int) (i : Nat) : Prop where
  len : sm.length = i + 2
  at_ : ∀ c lo : Int, c < (i : Int) + 2 → At ts c lo → At ks (sm.getD c.toNat 0) lo
theorem MapOk.start (ts ks : List Tri) : MapOk ts ks [0, 1] 0 := by
  refine ⟨rfl, fun c lo hc a => ?_⟩
  rcases a with rfl | rfl | ⟨r, n, _⟩
  · exact .inl rfl
  · exact .inr (.inl rfl)
  · have := n.1
    omega
theorem getD_app_left {sm : List Int} {v : Int} {j : Nat} (h : j < sm.length) : (sm ++ [v]).getD j 0 = sm.getD j 0 := by
  rw [List.getD_eq_getElem?_getD, List.getD_eq_getElem?_getD, List.getElem?_append_left h]
theorem getD_app_last {sm : List Int} {v : Int} : (sm ++ [v]).getD sm.length 0 = v := by
  rw [List.getD_eq_getElem?_getD, List.getElem?_append_right (Nat.le_refl _), Nat.sub_self]
  rfl
theorem MapOk.grow {ts ks : List Tri} {sm : List Int} {i : Nat} (M : MapOk ts ks sm i) (us : List Tri) : MapOk ts (ks ++ us) sm i := ⟨M.len, fun c lo hc a => (M.at_ c lo hc a).app us⟩
theorem MapOk.snoc {ts ks : List Tri} {sm : List Int} {i : Nat} (M : MapOk ts ks sm i) {r q : Tri} {c : Int} (e : ts[i]? = some r) (n : Nd ks c q) (hq : q.1 = r.1) : MapOk ts ks (sm ++ [c]) (i + 1) := by
  refine ⟨by rw [List.length_append, M.len, List.length_singleton], fun d lo hd a => ?_⟩
  have h0 := a.lt
  by_cases hi : d < (i : Int) + 2
  · rw [getD_app_left (by rw [M.len]; omega)]
    exact M.at_ d lo hi a
  · have hd' : d.toNat = sm.length := by rw [M.len]; omega
    rw [hd', getD_app_last]
    obtain ⟨r', n', g⟩ := a.nd (by omega)
    have : r' = r := by
      have := n'.2
      rw [show (d - 2).toNat = i by omega, e] at this
      cases this
      rfl
    subst this
    exact .inr (.inr ⟨q, n, by rw [hq]; exact g⟩)
def keyT (r : Tri) : List Key := [.inl r.1, .inl r.2.1, .inl r.2.2]
theorem keyT_inj {r q : Tri} (h : keyT r = keyT q) : r = q := by
  obtain ⟨a, b, c⟩ := r
  obtain ⟨d, e, f⟩ := q
  unfold keyT at h
  simp only [List.cons.injEq, Sum.inl.injEq, and_true] at h
  obtain ⟨rfl, rfl, rfl⟩ := h
  rfl
def SeenOk (kvs : List (List Key × V)) (ks : List Tri) : Prop := ∀ r : Tri, ∀ v : V, valV kvs (keyT r) = some v → ∃ c : Int, v = .int c ∧ Nd ks c r
theorem SeenOk.add {kvs : List (List Key × V)} {ks : List Tri} (S : SeenOk kvs ks) {r : Tri} {c : Int} (hc : c = (ks.length : Int) + 2) : SeenOk (putK kvs (keyT r) (.int c)) (ks ++ [r]) := by
  intro q v e
  rw [valV_put] at e
  by_cases h : keyT q = keyT r
  · rw [if_pos h] at e
    cases e
    have := keyT_inj h
    subst this
    exact ⟨c, rfl, hc ▸ Nd.last ks q⟩
  · rw [if_neg h] at e
    obtain ⟨d, e1, e2⟩ := S q v e
    exact ⟨d, e1, e2.app _⟩
end L2
namespace L2
open PySem PySem.Spec PyProof.Rows
/-! ### sets of pairs -/
section
variable {P : Program} {w : World} {A : Around} {E : Value → Shared → Prop} {s : Shared}
abbrev hashL (P : Program) (w : World) (r : List Int) : Int := tupleKeyHash (intKind P w) r
def IsTu (P : Program) (w : World) (h : Heap) (r : List Int) (a : Addr) : Prop := IsTupleKey (intKind P w) h r a
def TEnt (P : Program) (w : World) (h : Heap) (e : Int × Value) (r : List Int) : Prop := e.1 = hashL P w r ∧ ∃ a, e.2 = .ref a ∧ IsTu P w h r a
theorem IsTu.keep {h h' : Heap} {r : List Int} {a : Addr} (x : IsTu P w h r a) (k : ∀ o, h.get? a = some o → h'.get? a = some o) : IsTu P w h' r a := by
  obtain ⟨o, its, n, h1, h2⟩ := x
  exact ⟨o, its, n, k _ h1, h2⟩
theorem tents_get : ∀ {h : Heap} {l : List (Int × Value)} {ps : List (List Int)}, Paired (TEnt P w h) l ps → ∀ {i : Nat} {e : Int × Value}, l[i]? = some e → ∃ r, ps[i]? = some r ∧ TEnt P w h e r
  | _, _, _, .nil, i, e, z => by simp at z
  | _, _, _, .cons h0 t, 0, e, z => by simp at z; subst z; exact ⟨_, rfl, h0⟩
  | _, _, _, .cons h0 t, i + 1, e, z => by
    obtain ⟨r, h1, h2⟩ := tents_get t (i := i) (e := e) (by simpa using z)
    exact ⟨r, by simpa using h1, h2⟩
theorem tents_perm {h : Heap} {l l' : List (Int × Value)} (p : l'.Perm l) : ∀ {σ : List (List Int)}, Paired (TEnt P w h) l σ → ∃ σ', Paired (TEnt P w h) l' σ' ∧ σ'.Perm σ := by
  induction p with
  | nil => intro σ h; cases h; exact ⟨[], .nil, .refl _⟩
  | cons x _ ih =>
    intro σ h
    cases h with
    | cons h t =>
      obtain ⟨σ', h1, h2⟩ := ih t
      exact ⟨_, .cons h h1, h2.cons _⟩
  | swap x y l =>
    intro σ h
    cases h with
    | cons h t =>
      cases t with
      | cons h' t => exact ⟨_, .cons h' (.cons h t), .swap _ _ _⟩
  | trans _ _ ih1 ih2 =>
    intro σ h
    obtain ⟨σ1, h1, p1⟩ := ih2 h
    obtain ⟨σ2, h2, p2⟩ := ih1 h1
    exact ⟨σ2, h2, p2.trans p1⟩
theorem tents_app : ∀ {h : Heap} {l k : List (Int × Value)} {σ τ : List (List Int)}, Paired (TEnt P w h) l σ → Paired (TEnt P w h) k τ → Paired (TEnt P w h) (l ++ k) (σ ++ τ)
  | _, _, _, _, _, .nil, h => h
  | _, _, _, _, _, .cons h t, k => .cons h (tents_app t k)
/-- a pair is of no class of the text's own -/
theorem wp_noClassL {a : Addr} {r : List Int} {Q : Bool → Shared → Prop} (hx : IsTu P w s.heap r a) (h : Q false s) : wpAny (model P w) A (ofAClassStatement 8 (.ref a)) Q E s := by
  have hT := IsTupleKey.typeIs hx
  obtain ⟨o, its, n, ho, hc, hd, hi⟩ := hx
  unfold ofAClassStatement
  apply wpAny_bind
  apply wpAny_typeOf hT
  apply wpAny_bind
  apply wpAny_pure
  apply wpAny_bind
  apply wpAny_seqItems ho hd
  dsimp only
  apply wpAny_bind
  rw [← Array.forIn_toList]
  refine wpAny_forIn_list _ (fun rest c s' => c.1 = none ∧ s' = s ∧ ∀ v ∈ rest, ∃ i t, v = Value.int i t) _ ?_ ?_ _ _ ⟨rfl, rfl, items_byV hi⟩
  · rintro v rest c s' ⟨hr, rfl, hall⟩
    obtain ⟨i, t, rfl⟩ := hall v List.mem_cons_self
    apply wpAny_bind
    apply wpAny_pure
    rw [if_neg Bool.false_ne_true]
    exact wpAny_pure ⟨rfl, rfl, fun u hu => hall u (List.mem_cons_of_mem _ hu)⟩
  · rintro ⟨c1, c2⟩ s' ⟨hr, rfl, _⟩
    simp only at hr
    subst hr
    exact wpAny_pure h
theorem wp_unseenL {b : Addr} {r : List Int} {l : List Value} {Q : Bool → Shared → Prop} (hx : IsTu P w s.heap r b) (hl : ∀ v ∈ l, ∃ a r', v = Value.ref a ∧ IsTu P w s.heap r' a) (h : Q false s) : wpAny (model P w) A (searchCouldBeSeen (.ref b) l) Q E s := by
  unfold searchCouldBeSeen
  apply wpAny_bind
  refine wpAny_forIn_list _ (fun rest c s' => c.1 = none ∧ s' = s ∧ ∀ v ∈ rest, ∃ a r', v = Value.ref a ∧ IsTu P w s.heap r' a) _ ?_ ?_ _ _ ⟨rfl, rfl, hl⟩
  · rintro v rest c s' ⟨hr, rfl, hall⟩
    obtain ⟨a, r', rfl, hy⟩ := hall v List.mem_cons_self
    have nxt : ∀ u ∈ rest, ∃ a r', u = Value.ref a ∧ IsTu P w s'.heap r' a := fun u hu => hall u (List.mem_cons_of_mem _ hu)
    dsimp only
    by_cases hv : ((b == a) || (carriedByValue (.ref b) && carriedByValue (.ref a))) = true
    · rw [if_pos hv]
      exact wpAny_pure ⟨rfl, rfl, nxt⟩
    · rw [if_neg hv]
      apply wpAny_bind
      refine wpAny_eqIsQuiet_tuple hx ?_
      rw [if_neg (by decide)]
      apply wpAny_bind
      refine wpAny_eqIsQuiet_tuple hy ?_
      rw [if_neg (by decide)]
      apply wpAny_bind
      refine wp_noClassL hx ?_
      rw [if_neg Bool.false_ne_true]
      apply wpAny_bind
      refine wp_noClassL hy ?_
      rw [if_neg Bool.false_ne_true]
      exact wpAny_pure ⟨rfl, rfl, nxt⟩
  · rintro ⟨c1, c2⟩ s' ⟨hr, rfl, _⟩
    simp only at hr
    subst hr
    exact wpAny_pure h
section
variable {a b : Addr} {o : Obj} {es : Array (Int × Value)} {ep : Nat} {t : SetTable} {ps : List (List Int)} {r : List Int} {Q : SetFound → Shared → Prop}
theorem wp_searchFromL (hu : A.units < cLine) (ho : s.heap.get? a = some o) (hd : o.data = .set es ep t) (S : SOk t es) (hE : Paired (TEnt P w s.heap) es.toList ps) (hx : IsTu P w s.heap r b)
    (hyes : r ∈ ps → Q (.there none) s)
    (hno : r ∉ ps → ∀ n, (advs t.mask n (st0 t.mask (hashL P w r))).j ∉ t.place.toList → (∀ q, q < n → (advs t.mask q (st0 t.mask (hashL P w r))).j ∈ t.place.toList) → Q (.free (advs t.mask n (st0 t.mask (hashL P w r))).j false) s)
    (N : Nat) (hN : N + 10 < 10 * SetTable.turns t.mask) (hNe : (advs t.mask N (st0 t.mask (hashL P w r))).j ∉ t.place.toList) :
    ∀ (fuel q : Nat) (stand : Option SetTable.Probe), stand.getD (st0 t.mask (hashL P w r)) = advs t.mask q (st0 t.mask (hashL P w r)) → q ≤ N → N - q < fuel →
      (∀ m, m < q → ∃ i : Nat, t.place[i]? = some (advs t.mask m (st0 t.mask (hashL P w r))).j ∧ ∀ r', ps[i]? = some r' → r' ≠ r) →
      wpAny (model P w) A (setSearchFrom a (.ref b) (hashL P w r) true fuel stand) Q E s
  | 0, q, stand, _, _, hf, _ => absurd hf (Nat.not_lt_zero _)
  | fuel + 1, q, stand, hst, hq, hf, hold => by
    have hlen : t.place.size = es.size := by rw [S.T.len, hsOf_len]
    have hpl := Paired.length hE
    rw [Array.length_toList] at hpl
    unfold setSearchFrom
    apply wpAny_bind
    refine wpAny_setState_of ho hd S.fits ?_
    dsimp only
    rw [S.T.odd, if_neg Bool.false_ne_true, st0_eq, hst]
    have hbase : (advs t.mask q (st0 t.mask (hashL P w r))).dummy = none := by rw [advs_dummy]; rfl
    have sp := go_spec (t := t) (ha := hAt es) (h := hashL P w r) S.T.rise S.T.dum (10 * SetTable.turns t.mask) (advs t.mask q (st0 t.mask (hashL P w r))) ⟨N - q, by omega, by rw [← advs_add, show q + (N - q) = N by omega]; exact hNe⟩
    have live_of : ∀ m, (∃ i : Nat, t.place[i]? = some (advs t.mask m (advs t.mask q (st0 t.mask (hashL P w r)))).j ∧ hAt es i ≠ hashL P w r) → ∃ i : Nat, t.place[i]? = some (advs t.mask (q + m) (st0 t.mask (hashL P w r))).j ∧ ∀ r', ps[i]? = some r' → r' ≠ r := by
      rintro m ⟨i, h1, h2⟩
      refine ⟨i, by rw [advs_add]; exact h1, fun r' hr' e => ?_⟩
      subst e
      apply h2
      have hi : i < es.size := by
        have := (List.getElem?_eq_some_iff.mp hr').1
        omega
      obtain ⟨r2, e1, e2⟩ := tents_get hE (i := i) (e := es[i]) (by rw [Array.getElem?_toList, Array.getElem?_eq_getElem hi])
      rw [hr'] at e1
      cases e1
      unfold hAt
      rw [Array.getElem?_eq_getElem hi]
      exact e2.1
    have upto : ∀ n, (∀ m, m < n → ∃ i : Nat, t.place[i]? = some (advs t.mask m (advs t.mask q (st0 t.mask (hashL P w r)))).j ∧ hAt es i ≠ hashL P w r) → ∀ m, m < q + n → ∃ i : Nat, t.place[i]? = some (advs t.mask m (st0 t.mask (hashL P w r))).j ∧ ∀ r', ps[i]? = some r' → r' ≠ r := by
      intro n h m hm
      rcases Nat.lt_or_ge m q with z | z
      · exact hold m z
      · have := live_of (m - q) (h (m - q) (by omega))
        rw [show q + (m - q) = m by omega] at this
        exact this
    rcases sp with ⟨n, g1, g2, g3⟩ | ⟨n, i, g1, g2, g3, g4⟩
    · have em : t.probe (hAt es) (hashL P w r) (advs t.mask q (st0 t.mask (hashL P w r))) = some (.empty (advs t.mask (q + n) (st0 t.mask (hashL P w r))).j none) := by
        unfold SetTable.probe
        rw [g1, hbase, advs_add]
      generalize hm : t.probe _ (hashL P w r) (advs t.mask q (st0 t.mask (hashL P w r))) = mm
      have hmm : mm = some (.empty (advs t.mask (q + n) (st0 t.mask (hashL P w r))).j none) := by rw [← hm]; exact em
      subst hmm
      dsimp only
      have all := upto n g3
      rw [← advs_add] at g2
      refine wpAny_pure (hno (fun hin => ?_) (q + n) g2 fun m hm' => by obtain ⟨i, hi, _⟩ := all m hm'; exact mem_place hi)
      obtain ⟨i, hi, e⟩ := List.getElem_of_mem hin
      have hi' : i < es.size := by omega
      have hpi : ps[i]? = some r := by rw [List.getElem?_eq_getElem hi, e]
      obtain ⟨r2, e1, e2⟩ := tents_get hE (i := i) (e := es[i]) (by rw [Array.getElem?_toList, Array.getElem?_eq_getElem hi'])
      rw [hpi] at e1
      cases e1
      have hpj : t.place[i]? = some (t.place[i]'(by omega)) := Array.getElem?_eq_getElem (by omega)
      obtain ⟨m, r1, r3⟩ := S.T.rch i (hashL P w r) _ (by rw [List.getElem?_map, Array.getElem?_toList, Array.getElem?_eq_getElem hi']; exact congrArg some e2.1) hpj
      rcases Nat.lt_trichotomy m (q + n) with z | z | z
      · obtain ⟨i2, h1, h2⟩ := all m z
        rw [r1] at h1
        have : i2 = i := by
          have b1 := below_at S.T.rise h1
          have b2 := below_at S.T.rise hpj
          omega
        subst this
        exact h2 r hpi rfl
      · subst z
        rw [r1] at g2
        exact g2 (mem_place hpj)
      · exact g2 (r3 (q + n) z)
    · have em : t.probe (hAt es) (hashL P w r) (advs t.mask q (st0 t.mask (hashL P w r))) = some (.candidate (advs t.mask (q + n) (st0 t.mask (hashL P w r))).j i (advs t.mask (q + n + 1) (st0 t.mask (hashL P w r)))) := by
        unfold SetTable.probe
        rw [g1, ← advs_add, ← advs_add, Nat.add_assoc]
      generalize hm : t.probe _ (hashL P w r) (advs t.mask q (st0 t.mask (hashL P w r))) = mm
      have hmm : mm = some (.candidate (advs t.mask (q + n) (st0 t.mask (hashL P w r))).j i (advs t.mask (q + n + 1) (st0 t.mask (hashL P w r)))) := by rw [← hm]; exact em
      subst hmm
      dsimp only
      rw [← advs_add] at g2
      have hi' : i < es.size := by
        have := (Array.getElem?_eq_some_iff.mp g2).1
        omega
      obtain ⟨r2, e1, e2, c, e3, e4⟩ := tents_get hE (i := i) (e := es[i]) (by rw [Array.getElem?_toList, Array.getElem?_eq_getElem hi'])
      have hnN : q + n < N := by
        rcases Nat.lt_trichotomy (q + n) N with z | z | z
        · exact z
        · subst z; exact absurd (mem_place g2) hNe
        · obtain ⟨i2, h1, _⟩ := upto n g4 N z
          exact absurd (mem_place h1) hNe
      have hsame : t.sameMemory t.moves t.mask = some true := by unfold SetTable.sameMemory; simp
      have hslot : t.slot (advs t.mask (q + n) (st0 t.mask (hashL P w r))).j = .live i := slot_live t S.T.rise g2
      have hget : es[i]? = some (es[i].1, es[i].2) := Array.getElem?_eq_getElem hi'
      rw [hget]
      rw [e3]
      rw [e3] at hget
      have lst : ∀ v ∈ List.map (fun x : Int × Value => x.2) (Array.filter (fun x : Int × Value => x.1 == hashL P w r) es).toList, ∃ a r', v = Value.ref a ∧ IsTu P w s.heap r' a := by
        intro v hv
        obtain ⟨e, he, rfl⟩ := List.mem_map.mp hv
        rw [Array.toList_filter] at he
        obtain ⟨j, hj, ej⟩ := List.getElem_of_mem (List.mem_filter.mp he).1
        obtain ⟨r3, _, _, c3, e5, e6⟩ := tents_get hE (i := j) (e := e) (by rw [List.getElem?_eq_getElem hj, ej])
        exact ⟨c3, r3, e5, e6⟩
      have hcase : ∀ {Z : Sem SetFound}, wpAny (model P w) A Z Q E s → wpAny (model P w) A (if (!t.led) = true then do
            let u ← searchCouldBeSeen (Value.ref b) (List.map (fun x : Int × Value => x.2) (Array.filter (fun x : Int × Value => x.1 == hashL P w r) es).toList)
            if u = true then do
              unsupported "set:the-search-would-show-the-table"
              Z
            else Z
          else Z) Q E s := by
        intro Z hZ
        cases hl : t.led with
        | true =>
          rw [if_neg (show ¬ ((!true) = true) by decide)]
          exact hZ
        | false =>
          rw [if_pos (show (!false) = true by decide)]
          apply wpAny_bind
          refine wp_unseenL hx lst ?_
          rw [if_neg Bool.false_ne_true]
          exact hZ
      refine hcase ?_
      apply wpAny_bind
      apply wpAny_holding
      refine wpAny_eqBool_tuple hu e4 hx ?_
      apply wpAny_bind
      refine wpAny_setState_of ho hd S.fits ?_
      dsimp only
      by_cases heq : r2 = r
      · subst heq
        rw [decide_eq_true rfl, if_pos (show (true && true) = true from rfl)]
        exact wpAny_pure (hyes (List.mem_of_getElem? e1))
      · have hdec : decide (r2 = r) = false := decide_eq_false heq
        rw [hdec, if_neg (show ¬ ((true && false) = true) from Bool.false_ne_true), hsame]
        dsimp only
        rw [if_pos rfl, hslot]
        dsimp only
        rw [hget]
        dsimp only
        apply wpAny_bind
        have hrr : (c == c) = true := by simp
        show wpAny _ _ (if (c == c) = true then pure true else _) _ _ s
        rw [if_pos hrr]
        apply wpAny_pure
        apply wpAny_bind
        apply wpAny_pure
        rw [if_pos rfl]
        dsimp only
        rw [if_neg Bool.false_ne_true]
        refine wp_searchFromL hu ho hd S hE hx hyes hno N hN hNe fuel (q + n + 1) _ rfl (by omega) (by omega) fun m hm' => ?_
        rcases Nat.lt_or_ge m (q + n) with z | z
        · exact upto n g4 m z
        · have : m = q + n := by omega
          subst this
          exact ⟨i, g2, fun r' hr' => by rw [e1] at hr'; cases hr'; exact heq⟩
end
end
end L2
namespace L2
open PySem PySem.Spec PyProof.Rows
section
variable {P : Program} {w : World} {A : Around} {E : Value → Shared → Prop} {s : Shared}
theorem wp_byValueL {a : Addr} {r : List Int} {Q : Bool → Shared → Prop} (hx : IsTu P w s.heap r a) (h : Q true s) : wpAny (model P w) A (hashByValue 8 (.ref a)) Q E s := by
  have hT := IsTupleKey.typeIs hx
  obtain ⟨o, its, n, ho, hc, hd, hi⟩ := hx
  unfold hashByValue
  apply wpAny_bind
  refine wpAny_specialOf hT F.slot_tuple_hash.lookup ?_
  dsimp only
  apply wpAny_bind
  apply wpAny_seqItems ho hd
  apply wpAny_bind
  show wpAny _ _ (forIn its _ _) _ _ s
  rw [← Array.forIn_toList]
  refine wpAny_forIn_list _ (fun rest c s' => c.1 = none ∧ s' = s ∧ ∀ v ∈ rest, ∃ i t, v = Value.int i t) _ ?_ ?_ _ _ ⟨rfl, rfl, items_byV hi⟩
  · rintro v rest c s' ⟨hr, rfl, hall⟩
    obtain ⟨i, t, rfl⟩ := hall v List.mem_cons_self
    apply wpAny_bind
    rw [hashByValue_scannable 7 (x := .int i t) rfl]
    apply wpAny_pure
    rw [if_neg (show ¬ ((!plainKind (Value.int i t)) = true) from Bool.false_ne_true)]
    exact wpAny_pure ⟨rfl, rfl, fun u hu => hall u (List.mem_cons_of_mem _ hu)⟩
  · rintro ⟨c1, c2⟩ s' ⟨hr, rfl, _⟩
    simp only at hr
    subst hr
    exact wpAny_pure h
/-- the set's object, its pairs in the heap h0 -/
def SetTu (P : Program) (w : World) (h0 : Heap) (o : Obj) (ps : List (List Int)) : Prop := ∃ es ep t, o.ExactSet ∧ o.data = .set es ep t ∧ Paired (TEnt P w h0) es.toList ps ∧ ps.Nodup ∧ SOk t es
theorem tents_heap {h h' : Heap} : ∀ {l : List (Int × Value)} {ps : List (List Int)}, Paired (TEnt P w h) l ps → (∀ b o, h.get? b = some o → h'.get? b = some o) → Paired (TEnt P w h') l ps
  | _, _, .nil, _ => .nil
  | _, _, .cons ⟨h1, a, h2, h3⟩ t, k => .cons ⟨h1, a, h2, h3.keep fun o e => k a o e⟩ (tents_heap t k)
theorem wp_addL {a b : Addr} {o : Obj} {h0 : Heap} {ps : List (List Int)} {r : List Int} {Q : Bool → Shared → Prop} (hu : A.units < cLine) (h00 : ∀ c o', h0.get? c = some o' → s.heap.get? c = some o') (ho : s.heap.get? a = some o) (hS : SetTu P w h0 o ps) (hx : IsTu P w h0 r b) (h76 : ps.length + 1 ≤ 76)
    (h : ∀ (c : Bool) (h' : Heap) (o' : Obj) (ps' : List (List Int)), Heap.SameBut a s.heap h' → h'.get? a = some o' → SetTu P w h0 o' ps' → ps'.Perm (if r ∈ ps then ps else ps ++ [r]) → Q c { s with heap := h' }) :
    wpAny (model P w) A (setAddHashed a (.ref b) (hashL P w r)) Q E s := by
  obtain ⟨es, ep, t, hex, hd, hE, hnd, S⟩ := id hS
  have hlen := Paired.length hE
  rw [Array.length_toList] at hlen
  have hE' := tents_heap hE h00
  have hx' : IsTu P w s.heap r b := hx.keep fun o' e => h00 b o' e
  obtain ⟨N, hN, hNe⟩ := S.T.empty S.le (hashL P w r)
  have hturn : 10 * SetTable.turns t.mask ≤ 1420 := by
    unfold SetTable.turns
    rcases S.T.mask with e | e | e <;> omega
  unfold setAddHashed setAddHashedIn
  apply wpAny_holding
  apply wpAny_bind
  refine wpAny_setState_of ho hd S.fits ?_
  dsimp only
  have hbs : byScan (.ref b) es = false := rfl
  rw [hbs, if_neg Bool.false_ne_true]
  apply wpAny_bind
  unfold setSearch
  refine wp_searchFromL hu ho hd S hE' hx' ?_ ?_ N hN hNe 100000 0 none rfl (Nat.zero_le _) (by omega) (fun m hm => absurd hm (Nat.not_lt_zero _))
  · intro hin
    dsimp only
    refine wpAny_pure ?_
    exact h false s.heap o ps (Heap.SameBut.refl a s.heap) ho hS (by rw [if_pos hin])
  · intro hnot n hn hall
    dsimp only
    apply wpAny_bind
    refine wpAny_setState_of ho hd S.fits ?_
    dsimp only
    obtain ⟨T1, hf1⟩ := S.put (.ref b) hn hall
    have hz1 : (SetTable.insertAt es (t.put (advs t.mask n (st0 t.mask (hashL P w r))).j).2 (hashL P w r, Value.ref b)).size = es.size + 1 := insertAt_size _ _ _
    have hperm := SetTable.insertAt_perm es (t.put (advs t.mask n (st0 t.mask (hashL P w r))).j).2 (hashL P w r, Value.ref b)
    rw [Array.toList_push] at hperm
    have hm1 : (t.put (advs t.mask n (st0 t.mask (hashL P w r))).j).1.mask = t.mask := rfl
    generalize htp : t.put (advs t.mask n (st0 t.mask (hashL P w r))).j = tp at T1 hf1 hz1 hperm hm1 ⊢
    obtain ⟨t1, p1⟩ := tp
    dsimp only at T1 hf1 hz1 hperm hm1 ⊢
    have hE1 : Paired (TEnt P w h0) (es.toList ++ [(hashL P w r, Value.ref b)]) (ps ++ [r]) := tents_app hE (.cons ⟨rfl, b, rfl, hx⟩ .nil)
    obtain ⟨ps1, hE2, hp2⟩ := tents_perm hperm hE1
    have hnd1 : (ps ++ [r]).Nodup := List.nodup_append.mpr ⟨hnd, by simp, fun c hc d hd' => by
      rw [List.mem_singleton] at hd'
      subst hd'
      intro z
      exact hnot (z ▸ hc)⟩
    generalize hes1 : SetTable.insertAt es p1 (hashL P w r, Value.ref b) = es1 at T1 hz1 hperm hE2 ⊢
    have hz : es1.size ≤ sizeLine := by rw [sizeLine_eq]; omega
    -- what is stored, whatever is told of hashes
    have store : ∀ (bv : Bool), wpAny (model P w) A (do
        storeSet a es1 (if bv = true then t1 else { t1 with plain := false })
        if (!false && (if bv = true then t1 else { t1 with plain := false }).tooFull) = true then do
          setRelay a (SetTable.grown (es.size + 1))
          pure true
        else pure true) Q E s := by
      intro bv
      obtain ⟨t1', et1, T1', hm1'⟩ : ∃ t1' : SetTable, (if bv = true then t1 else { t1 with plain := false }) = t1' ∧ TOk t1' (hsOf es1) ∧ t1'.mask = t.mask := by
        cases bv with
        | true => exact ⟨t1, rfl, T1, hm1⟩
        | false => exact ⟨{ t1 with plain := false }, rfl, ⟨T1.mask, T1.dum, T1.len, T1.rise, T1.le, T1.rch⟩, hm1⟩
      rw [et1]
      apply wpAny_bind
      refine wpAny_storeSet_of ho hd ?_ hz
      have ho1 := putSet_at ho hd es1 t1'
      have sb1 := Heap.SameBut.update s.heap a (Obj.putSet es1 t1')
      rcases full_when S (by omega) T1' (by rw [hsOf_len]; exact hz1) hm1' with ⟨hfull, hwhen⟩ | ⟨hfull, hroom⟩
      · rw [hfull, if_pos (show (!false && true) = true from rfl)]
        rw [← hz1] at hwhen ⊢
        obtain ⟨t2, od, eR, hp, S2, hl2, hpl2, h128⟩ := relay_ok T1' hwhen
        have hfit1 : t1'.fits es1.size = true := by
          have := T1'.fits (by rw [hsOf_len]; rcases hwhen with ⟨q1, q2⟩ | ⟨q1, q2⟩ <;> omega)
          rw [hsOf_len] at this
          exact this
        apply wpAny_bind
        unfold setRelay
        apply wpAny_bind
        refine wpAny_setState_of ho1 rfl hfit1 ?_
        dsimp only
        rw [if_neg (by rw [sizeLine_eq]; omega)]
        apply wpAny_bind
        rw [eR]
        have hp3 := filterMap_perm hp
        have hz2 : (od.filterMap (es1[·]?)).size = es1.size := by
          have := hp3.length_eq
          rw [Array.length_toList, Array.length_toList] at this
          exact this
        obtain ⟨ps2, hE3, hp4⟩ := tents_perm hp3 hE2
        show wpAny _ _ (if ((od.filterMap (es1[·]?)).size != es1.size) = true then _ else _) _ _ _
        rw [if_neg (by rw [hz2]; simp)]
        apply wpAny_pure
        dsimp only
        refine wpAny_storeSet_of ho1 rfl ?_ (by rw [hz2]; exact hz)
        apply wpAny_pure
        refine h true _ _ ps2 (sb1.trans (Heap.SameBut.update _ a _)) (putSet_at ho1 rfl _ t2) ⟨_, _, t2, hex, rfl, hE3, (hp4.trans hp2).nodup_iff.mpr hnd1, S2⟩ ?_
        rw [if_neg hnot]
        exact hp4.trans hp2
      · rw [hfull, if_neg (show ¬ ((!false && false) = true) from Bool.false_ne_true)]
        apply wpAny_pure
        refine h true _ _ ps1 sb1 ho1 ⟨es1, _, t1', hex, rfl, hE2, hp2.nodup_iff.mpr hnd1, ⟨T1', by rw [hz1]; exact hroom⟩⟩ ?_
        rw [if_neg hnot]
        exact hp2
    cases hpl : t1.plain with
    | true =>
      rw [if_pos rfl]
      apply wpAny_bind
      refine wp_byValueL hx' ?_
      exact store true
    | false =>
      rw [if_neg Bool.false_ne_true]
      apply wpAny_bind
      apply wpAny_pure
      exact store true
end
theorem setN_okL {P : Program} {w : World} {H : Hp} {h0 h : Heap} {a : Addr} {ps : List (List Int)} {o : Obj} (ho : h.get? a = some o) (hs : SetTu P w h0 o ps) : ObjOk P w H h a (SetN a ps.length) := by
  obtain ⟨es, ep, t, h1, h2, h3, h4, h5⟩ := hs
  have hlen := Paired.length h3
  rw [Array.length_toList] at hlen
  have hsm : es.size ≤ 76 := by
    have := h5.room
    rcases h5.T.mask with z | z | z <;> omega
  exact ⟨⟨o, es, ep, t, ho, h1, h2, h5.fits, hlen, by omega⟩, ⟨o, ho⟩, fun h1 h2 ⟨o', es', ep', t', e, r⟩ k => ⟨o', es', ep', t', k _ e, r⟩⟩
theorem setTu_nil (P : Program) (w : World) (h0 : Heap) : SetTu P w h0 (setObj0 w) [] := ⟨#[], 0, _, ⟨rfl, rfl, rfl⟩, rfl, .nil, List.nodup_nil, SOk.fresh 0 0 _⟩
section
variable {X : Cx} (K : PySem.W.Frag)
theorem items_ints {P : Program} {w : World} : ∀ {r : List Int} {us : List Value}, Vals (r.map V.int) us → ItemsAre (intKind P w) r us
  | [], _, .nil => .nil
  | _ :: _, _, .cons h t => by
    obtain ⟨t1, rfl⟩ := h
    exact .cons (intKind_is _ _ _ _) (items_ints t)
theorem isTu_of {P : Program} {w : World} {H : Hp} {h : Heap} (I : HOk P w H h) {t : Addr} {r : List Int} (e : H t = some (.tup (r.map V.int))) : IsTu P w h r t := by
  obtain ⟨_, its, rv, o, ho, hc, n, hd⟩ := I t _ e
  exact ⟨o, its.toArray, n, ho, hc, hd, items_ints rv⟩
/-- a list of tuples of whole numbers -/
inductive Tus (H : Hp) : List V → List (List Int) → Prop
  | nil : Tus H [] []
  | cons {p : Addr} {r : List Int} {xs : List V} {rs : List (List Int)} : H p = some (.tup (r.map V.int)) → Tus H xs rs → Tus H (.ref p :: xs) (r :: rs)
theorem Tus.len {H : Hp} {xs : List V} {rs : List (List Int)} (h : Tus H xs rs) : xs.length = rs.length := by
  induction h with
  | nil => rfl
  | cons _ _ ih => rw [List.length_cons, List.length_cons, ih]
theorem Tus.get {H : Hp} : ∀ {xs : List V} {rs : List (List Int)}, Tus H xs rs → ∀ {i : Nat} {x : V}, xs[i]? = some x → ∃ t r, x = .ref t ∧ H t = some (.tup (r.map V.int)) ∧ rs[i]? = some r
  | _, _, .nil, _, _, h => by simp at h
  | _, _, .cons (r := r) e _, 0, _, h => by
    simp at h
    subst h
    exact ⟨_, r, rfl, e, rfl⟩
  | _, _, .cons _ t, i + 1, _, h => by
    rw [List.getElem?_cons_succ] at h ⊢
    exact Tus.get t h
theorem kSetL (hc : X.calm = true) (hu : X.A.units + 64 < cLine) (h : X.K = K := by rfl) : CallR X (.type "set") (fun xs H Q => ∃ (p : Addr) (ys : List V) (rs : List (List Int)), xs = [.ref p] ∧ SqL K H p ys ∧ Tus H ys rs ∧ rs.length ≤ 76 ∧
    ∀ (l : Addr) (m : Nat), H l = none → m ≤ rs.length → (m = rs.length ↔ rs.Nodup) → Q (.ref l) (upd H l (SetN l m))) := by
  subst h
  intro pins s σ H xs us Q I rv h
  obtain ⟨p, ys, rs, rfl, hq, pr, hn, q⟩ := h
  obtain ⟨u, rfl, ru⟩ := rv.one
  cases ru
  obtain ⟨its, r, pl, hz⟩ := I.list hq
  have hl := r.length
  have hyl := pr.len
  have es : its.toArray.size = rs.length := by rw [List.size_toArray]; omega
  refine call_setL (I.ok.hd hc) pl.isList (fun i o => ∃ ps, SetTu X.prog X.w s.heap o ps ∧ ps.length ≤ i ∧ (∀ k, k ∈ ps ↔ k ∈ rs.take i) ∧ (ps.length = i ↔ (rs.take i).Nodup)) (fun h' => ∀ b o, b < s.heap.objs.size → s.heap.get? b = some o → h'.get? b = some o) ⟨[], setTu_nil _ _ _, Nat.le_refl _, fun k => by simp, by simp⟩ (fun _ k => k) ?_ ?_
  · intro i v s1 o Q1 E1 hi hv kp ho ⟨ps, hps, hle, hm, hlen⟩ hq1
    have hi' : i < ys.length := by omega
    have hir : i < rs.length := by omega
    have hv' : its[i]? = some v := by rw [List.getElem?_toArray] at hv; exact hv
    obtain ⟨t, rr, et, ett, er⟩ := pr.get (i := i) (x := ys[i]) (List.getElem?_eq_getElem hi')
    obtain ⟨u, eu, ru⟩ := r.get (i := i) (x := ys[i]) (List.getElem?_eq_getElem hi')
    rw [hv'] at eu
    cases eu
    rw [et] at ru
    cases ru
    have hx : IsTu X.prog X.w s.heap rr t := isTu_of I.hok ett
    have k00 : ∀ c o', s.heap.get? c = some o' → s1.heap.get? c = some o' := fun c o' e => kp c o' (Heap.lt_size e) e
    have hu3 : X.A.in1.in1.in1.units < cLine := by simp only [Around.in1_units]; omega
    unfold setAdd
    apply wpAny_holding
    apply wpAny_bind
    refine wpAny_pyHash_tuple hu3 (hx.keep fun o' e => k00 t o' e) ?_
    refine wp_addL (s := { s1 with toks := s1.toks + ((rr : List Int).length + 1) }) hu3 k00 ho hps hx (by omega) fun b h' o' ps' sb ho' hps' hp => ?_
    refine hq1 b h' _ o' (Nat.le_add_right _ _) sb ho' ⟨ps', hps', ?_, fun k => ?_, ?_⟩
    · rw [hp.length_eq]
      split
      · omega
      · rw [List.length_append, List.length_singleton]; omega
    · rw [hp.mem_iff, take_succ_mem er]
      split
      · rename_i hin
        rw [hm k]
        constructor
        · exact .inl
        · rintro (z | rfl)
          · exact z
          · exact (hm _).mp hin
      · rw [List.mem_append, hm k, List.mem_singleton]
    · have htk : rs.take (i + 1) = rs.take i ++ [rr] := by rw [List.take_add_one, er]; rfl
      have hnd : (rs.take (i + 1)).Nodup ↔ (rs.take i).Nodup ∧ rr ∉ rs.take i := by
        rw [htk, List.nodup_append]
        constructor
        · rintro ⟨h1, _, h3⟩
          exact ⟨h1, fun z => h3 rr z rr (List.mem_singleton.mpr rfl) rfl⟩
        · rintro ⟨h1, h2⟩
          exact ⟨h1, by simp, fun a ha b hb e => by rw [List.mem_singleton] at hb; subst hb; exact h2 (e ▸ ha)⟩
      rw [hp.length_eq, hnd, ← hlen, ← hm rr]
      split
      · rename_i hin
        constructor
        · intro z; omega
        · rintro ⟨_, z⟩; exact absurd hin z
      · rename_i hin
        rw [List.length_append, List.length_singleton]
        constructor
        · intro z; exact ⟨by omega, hin⟩
        · rintro ⟨z, _⟩; omega
  · intro h' tk o' ho' ⟨ps, hps, hle, hm, hlen⟩ hk
    rw [es] at hle hlen
    rw [List.take_length] at hlen
    exact ⟨.ref _, _, I.laid (o := SetN s.heap.objs.size ps.length) (fun b o e => hk b o (Heap.lt_size e) e) (Nat.le_refl _) (setN_okL ho' hps), rfl, q _ ps.length I.fresh hle hlen⟩
end
end L2
namespace L2
open PySem PySem.Spec PyProof.Rows
/-! ### set(list of triples) -/
def tl3 (r : Tri) : List Int := [r.1, r.2.1, r.2.2]
theorem tl3_inj {r q : Tri} (h : tl3 r = tl3 q) : r = q := by
  obtain ⟨a, b, c⟩ := r
  obtain ⟨d, e, f⟩ := q
  unfold tl3 at h
  simp only [List.cons.injEq, and_true] at h
  obtain ⟨rfl, rfl, rfl⟩ := h
  rfl
theorem Trs.tus {H : Hp} {xs : List V} {rs : List Tri} (h : Trs H xs rs) : Tus H xs (rs.map tl3) := by
  induction h with
  | nil => exact .nil
  | cons e _ ih => exact .cons e ih
theorem tl3_nodup (rs : List Tri) : (rs.map tl3).Nodup ↔ rs.Nodup := by
  induction rs with
  | nil => simp
  | cons r rs ih =>
    rw [List.map_cons, List.nodup_cons, List.nodup_cons, ih]
    constructor
    · rintro ⟨h1, h2⟩
      exact ⟨fun z => h1 (List.mem_map.mpr ⟨r, z, rfl⟩), h2⟩
    · rintro ⟨h1, h2⟩
      refine ⟨fun z => ?_, h2⟩
      obtain ⟨q, hq, e⟩ := List.mem_map.mp z
      exact h1 (tl3_inj e ▸ hq)
section
variable {X : Cx} (K : PySem.W.Frag)
theorem kSetT (hc : X.calm = true) (hu : X.A.units + 64 < cLine) (h : X.K = K := by rfl) : CallR X (.type "set") (fun xs H Q => ∃ (p : Addr) (ys : List V) (rs : List Tri), xs = [.ref p] ∧ SqL K H p ys ∧ Trs H ys rs ∧ rs.length ≤ 76 ∧
    ∀ (l : Addr) (m : Nat), H l = none → m ≤ rs.length → (m = rs.length ↔ rs.Nodup) → Q (.ref l) (upd H l (SetN l m))) := by
  intro pins s σ H xs us Q I rv hh
  obtain ⟨p, ys, rs, e, hq, tr, hn, q⟩ := hh
  refine kSetL K hc hu h pins s σ H xs us Q I rv ⟨p, ys, rs.map tl3, e, hq, tr.tus, by rw [List.length_map]; exact hn, fun l m hl h1 h2 => ?_⟩
  rw [List.length_map] at h1 h2
  exact q l m hl h1 (h2.trans (tl3_nodup rs))
end
end L2
namespace L2
open PySem PySem.Spec PyProof.Rows
/-! ### the order in which nodes are found: the mathematics -/
def chT (ks : List Tri) (x : Int) : List Int := match ks[(x - 2).toNat]? with | some r => [r.2.1, r.2.2] | none => []
theorem chT_nd {ks : List Tri} {x : Int} {r : Tri} (n : Nd ks x r) : chT ks x = [r.2.1, r.2.2] := by unfold chT; rw [n.2]
def strm (ks : List Tri) (root : Int) (f : List Int) : List Int := root :: f.flatMap (chT ks)
theorem strm_snoc (ks : List Tri) (root : Int) (f : List Int) (x : Int) : strm ks root (f ++ [x]) = strm ks root f ++ chT ks x := by
  unfold strm
  rw [List.flatMap_append, List.flatMap_cons, List.flatMap_nil, List.append_nil]
  rfl
def New (f : List Int) (x : Int) : Prop := x ≠ 0 ∧ x ≠ 1 ∧ x ∉ f
theorem New.num {f : List Int} {x : Int} : New f x ↔ numI f x = none := by
  constructor
  · rintro ⟨h0, h1, h2⟩
    unfold numI
    rw [if_neg h0, if_neg h1, Option.map_eq_none_iff, List.idxOf?_eq_none_iff]
    exact h2
  · intro h
    exact numI_none h
def Ext (ks : List Tri) (root : Int) (f : List Int) (x : Int) : Prop := ∃ p q, strm ks root f = p ++ x :: q ∧ New f x ∧ ∀ y ∈ p, ¬ New f y
theorem Ext.one {ks : List Tri} {root : Int} {f : List Int} {x y : Int} (h : Ext ks root f x) (h' : Ext ks root f y) : x = y := by
  obtain ⟨p, q, e, n, a⟩ := h
  obtain ⟨p', q', e', n', a'⟩ := h'
  have g1 : (strm ks root f)[p.length]? = some x := by rw [e, List.getElem?_append_right (Nat.le_refl _), Nat.sub_self]; rfl
  have g2 : (strm ks root f)[p'.length]? = some y := by rw [e', List.getElem?_append_right (Nat.le_refl _), Nat.sub_self]; rfl
  rcases Nat.lt_trichotomy p.length p'.length with z | z | z
  · rw [e', List.getElem?_append_left z] at g1
    exact absurd n (a' x (List.mem_of_getElem? g1))
  · rw [z, g2] at g1
    cases g1
    rfl
  · rw [e, List.getElem?_append_left z] at g2
    exact absurd n' (a y (List.mem_of_getElem? g2))
inductive Rch (ks : List Tri) (root : Int) : List Int → Prop
  | nil : Rch ks root []
  | snoc {f : List Int} {x : Int} : Rch ks root f → Ext ks root f x → Rch ks root (f ++ [x])
def Fin (ks : List Tri) (root : Int) (f : List Int) : Prop := ∀ y ∈ strm ks root f, ¬ New f y
theorem Ext.notFin {ks : List Tri} {root : Int} {f : List Int} {x : Int} (h : Ext ks root f x) (g : Fin ks root f) : False := by
  obtain ⟨p, q, e, n, _⟩ := h
  exact g x (by rw [e]; exact List.mem_append_right _ List.mem_cons_self) n
/-- a list that is found holds the step at each of its numbers -/
theorem Rch.at {ks : List Tri} {root : Int} {g : List Int} (h : Rch ks root g) : ∀ i x, g[i]? = some x → Ext ks root (g.take i) x := by
  induction h with
  | nil => intro i x e; simp at e
  | @snoc f y h ex ih =>
    intro i x e
    by_cases hi : i < f.length
    · rw [List.getElem?_append_left hi] at e
      rw [List.take_append_of_le_length (Nat.le_of_lt hi)]
      exact ih i x e
    · have hz : i = f.length := by
        have := (List.getElem?_eq_some_iff.mp e).1
        rw [List.length_append, List.length_singleton] at this
        omega
      subst hz
      rw [List.getElem?_append_right (Nat.le_refl _), Nat.sub_self] at e
      cases e
      rw [List.take_left]
      exact ex
theorem Rch.eq {ks : List Tri} {root : Int} {f g : List Int} (hf : Rch ks root f) (ff : Fin ks root f) (hg : Rch ks root g) (fg : Fin ks root g) : f = g := by
  have key : ∀ i, i ≤ f.length → i ≤ g.length → f.take i = g.take i := by
    intro i
    induction i with
    | zero => intro _ _; rw [List.take_zero, List.take_zero]
    | succ i ih =>
      intro h1 h2
      have e := ih (by omega) (by omega)
      have a := hf.at i _ (List.getElem?_eq_getElem (by omega))
      have b := hg.at i _ (List.getElem?_eq_getElem (by omega))
      rw [e] at a
      have := a.one b
      rw [List.take_succ_eq_append_getElem (by omega), List.take_succ_eq_append_getElem (by omega), e, this]
  rcases Nat.lt_trichotomy f.length g.length with z | z | z
  · exfalso
    have e := key f.length (Nat.le_refl _) (by omega)
    rw [List.take_length] at e
    have b := hg.at f.length _ (List.getElem?_eq_getElem z)
    rw [← e] at b
    exact b.notFin ff
  · have e := key f.length (Nat.le_refl _) (by omega)
    rw [List.take_length, z, List.take_length] at e
    exact e
  · exfalso
    have e := key g.length (by omega) (Nat.le_refl _)
    rw [List.take_length] at e
    have b := hf.at g.length _ (List.getElem?_eq_getElem z)
    rw [e] at b
    exact b.notFin fg
/-! what the loop of the finding knows -/
theorem strm_split {ks : List Tri} {root : Int} {fs : List Int} {k : Nat} {x : Int} (e : fs[k]? = some x) : strm ks root fs = strm ks root (fs.take k) ++ (chT ks x ++ (fs.drop (k + 1)).flatMap (chT ks)) := by
  obtain ⟨hk, e'⟩ := List.getElem?_eq_some_iff.mp e
  have h : fs = fs.take k ++ x :: fs.drop (k + 1) := by
    rw [← e', List.getElem_cons_drop, List.take_append_drop]
  unfold strm
  rw [List.cons_append, ← List.flatMap_cons, ← List.flatMap_append, ← h]
theorem Fnd.old {ks : List Tri} {root : Int} {fs : List Int} {kvs : List (Key × V)} {k : Nat} (F : Fnd ks root fs kvs k) (hrt : (numI fs root).isSome) : ∀ y ∈ strm ks root (fs.take k), ¬ New fs y := by
  intro y hy nw
  have hn := New.num.mp nw
  unfold strm at hy
  rcases List.mem_cons.mp hy with h | h
  · rw [← h, hn] at hrt
    cases hrt
  · obtain ⟨x, hx, hxy⟩ := List.mem_flatMap.mp h
    obtain ⟨j, hj, ej⟩ := List.getElem_of_mem hx
    rw [List.length_take] at hj
    have hk := F.kle
    have ej' : fs[j]? = some x := by
      rw [← ej, List.getElem_take]
      exact List.getElem?_eq_getElem _
    obtain ⟨r, n⟩ := F.nod x (List.mem_of_getElem? ej')
    obtain ⟨h1, h2⟩ := F.cl j (by omega) x r ej' n
    rw [chT_nd n] at hxy
    rcases List.mem_cons.mp hxy with z | z
    · rw [← z, hn] at h1; cases h1
    · rw [List.mem_singleton] at z
      rw [← z, hn] at h2; cases h2
theorem Fnd.ext {ks : List Tri} {root : Int} {fs : List Int} {kvs : List (Key × V)} {k : Nat} (F : Fnd ks root fs kvs k) (hrt : (numI fs root).isSome) {x c : Int} {r : Tri} (hx : fs[k]? = some x) (n : Nd ks x r) {pre post : List Int} (e : [r.2.1, r.2.2] = pre ++ c :: post) (hp : ∀ y ∈ pre, (numI fs y).isSome) (hc : numI fs c = none) : Ext ks root fs c := by
  refine ⟨strm ks root (fs.take k) ++ pre, post ++ (fs.drop (k + 1)).flatMap (chT ks), ?_, New.num.mpr hc, fun y hy nw => ?_⟩
  · rw [strm_split hx, chT_nd n, e]
    simp
  · rcases List.mem_append.mp hy with h | h
    · exact F.old hrt y h nw
    · have := hp y h
      rw [New.num.mp nw] at this
      cases this
theorem Fnd.fin {ks : List Tri} {root : Int} {fs : List Int} {kvs : List (Key × V)} (F : Fnd ks root fs kvs fs.length) (hrt : (numI fs root).isSome) : Fin ks root fs := by
  have := F.old hrt
  rw [List.take_length] at this
  exact this
/-! the order is that of the table -/
def seq2 (n : Nat) : List Int := (List.range n).map fun (i : Nat) => (i : Int) + 2
theorem seq2_len (n : Nat) : (seq2 n).length = n := by unfold seq2; rw [List.length_map, List.length_range]
theorem seq2_get {n i : Nat} (h : i < n) : (seq2 n)[i]? = some ((i : Int) + 2) := by
  unfold seq2
  rw [List.getElem?_map, List.getElem?_range h]
  rfl
theorem seq2_nodup (n : Nat) : (seq2 n).Nodup := by
  unfold seq2
  show List.Pairwise (· ≠ ·) _
  rw [List.pairwise_map]
  have h : (List.range n).Pairwise (· ≠ ·) := List.nodup_range
  exact h.imp fun {a b} hne z => hne (by have z' : (a : Int) + 2 = (b : Int) + 2 := z; omega)
theorem numI_of {fs : List Int} {x : Int} {i : Nat} (nd : fs.Nodup) (h0 : 1 < x) (e : fs[i]? = some x) : numI fs x = some ((i : Int) + 2) := by
  unfold numI
  rw [if_neg (by omega), if_neg (by omega)]
  have : fs.idxOf? x = some i := by
    rw [List.idxOf?_eq_some_iff]
    obtain ⟨hi, e'⟩ := List.getElem?_eq_some_iff.mp e
    refine ⟨hi, e', fun j hj z => ?_⟩
    have nd' : fs.Pairwise (· ≠ ·) := nd
    exact (List.pairwise_iff_getElem.mp nd') j i (by omega) hi hj (z.trans e'.symm)
  rw [this]
  rfl
theorem numI_seq2 {n : Nat} {x : Int} (h0 : 0 ≤ x) (h1 : x < (n : Int) + 2) : numI (seq2 n) x = some x := by
  by_cases z : 1 < x
  · have h := numI_of (seq2_nodup n) (i := (x - 2).toNat) z (by rw [seq2_get (by omega)]; congr 1; omega)
    rw [h]
    congr 1
    omega
  · have hc : x = 0 ∨ x = 1 := by omega
    rcases hc with rfl | rfl
    · exact numI_zero _
    · exact numI_one _
/-- the table that is told in the order of finding is the table itself, just where the nodes are found in their order -/
theorem said_same {ks : List Tri} {root a0 : Int} {fs : List Int} {us : List Tri} (R : Rch ks root fs) (nd : fs.Nodup) (nod : ∀ x ∈ fs, ∃ r, Nd ks x r) (S : Said ks fs us fs.length) (hl : us.length = fs.length) (T : TabOk ks) (hr0 : 0 ≤ root) (hr1 : root < (ks.length : Int) + 2) (h0 : numI fs root = some a0) :
    (us = ks ∧ a0 = root) ↔ fs = seq2 ks.length := by
  constructor
  · rintro ⟨rfl, rfl⟩
    have key : ∀ (i : Nat) (x : Int), fs[i]? = some x → x = (i : Int) + 2 := by
      intro i
      induction i using Nat.strongRecOn with
      | _ i ih =>
        intro x e
        obtain ⟨p, q, es, nw, _⟩ := R.at i x e
        have hx1 : 1 < x := by
          obtain ⟨r, n⟩ := nod x (List.mem_of_getElem? e)
          have := n.1
          omega
        have self : numI fs x = some x → x = (i : Int) + 2 := fun h => by
          rw [numI_of nd hx1 e] at h
          cases h
          rfl
        have hm : x ∈ strm us a0 (fs.take i) := by rw [es]; exact List.mem_append_right _ List.mem_cons_self
        unfold strm at hm
        rcases List.mem_cons.mp hm with hm | hm
        · rw [← hm] at h0
          exact self h0
        · obtain ⟨y, hy, hxy⟩ := List.mem_flatMap.mp hm
          obtain ⟨j, hj, ej⟩ := List.getElem_of_mem hy
          have hji : j < i := by rw [List.length_take] at hj; omega
          have ej' : fs[j]? = some y := by
            rw [← ej, List.getElem_take]
            exact List.getElem?_eq_getElem _
          have hyj := ih j hji y ej'
          obtain ⟨r, a, b, n, ha, hb, eu⟩ := S j y (List.getElem?_eq_some_iff.mp ej').1 ej'
          have er : us[j]? = some r := by
            have := n.2
            rw [hyj, show ((j : Int) + 2 - 2).toNat = j by omega] at this
            exact this
          rw [er] at eu
          have eu' : r = (r.1, a, b) := Option.some.inj eu
          have e1 : r.2.1 = a := congrArg (fun z : Tri => z.2.1) eu'
          have e2 : r.2.2 = b := congrArg (fun z : Tri => z.2.2) eu'
          rw [chT_nd n] at hxy
          rcases List.mem_cons.mp hxy with h | h
          · exact self (by rw [h, ha, e1])
          · rw [List.mem_singleton] at h
            exact self (by rw [h, hb, e2])
    refine List.ext_getElem? fun i => ?_
    by_cases hi : i < fs.length
    · rw [seq2_get (by omega), List.getElem?_eq_getElem hi, key i _ (List.getElem?_eq_getElem hi)]
    · rw [List.getElem?_eq_none (by omega), List.getElem?_eq_none (by rw [seq2_len]; omega)]
  · rintro rfl
    rw [seq2_len] at hl S
    refine ⟨List.ext_getElem? fun i => ?_, ?_⟩
    · by_cases hi : i < ks.length
      · obtain ⟨r, a, b, n, ha, hb, eu⟩ := S i _ hi (seq2_get hi)
        have er : ks[i]? = some r := by
          have := n.2
          rw [show ((i : Int) + 2 - 2).toNat = i by omega] at this
          exact this
        obtain ⟨_, h1, h2⟩ := T i r er
        have l1 := h1.lt
        have l2 := h2.lt
        rw [numI_seq2 (by omega) (by omega)] at ha hb
        cases ha
        cases hb
        rw [eu, er]
      · rw [List.getElem?_eq_none (by omega), List.getElem?_eq_none (by omega)]
    · rw [numI_seq2 hr0 hr1] at h0
      cases h0
      rfl
end L2
namespace L2
open PySem PySem.Spec PyProof.Rows
/-! ### a comprehension over a tuple; list.extend(tuple) -/
theorem comp_tup {K : PySem.W.Frag} {a D : Addr} {xs : List V} {g : TG} {tc : TT} {te : TE} {σ0 : St} {R : Hp → Prop} {H1 : Hp} (Pv : Nat → List V → Hp → Prop) (h0 : Pv 0 [] (upd H1 D (.lst []))) (hl : ∀ i ys H, i ≤ xs.length → Pv i ys H → SqT K H a xs)
    (hs : ∀ i x ys H, xs[i]? = some x → Pv i ys H → g x σ0 H fun σ4 H4 => keepSt σ0 σ4 ∧ tc σ4 H4 fun b H5 => if b = true then te σ4 H5 fun y H6 => H6 D = some (.lst ys) ∧ ys.length < sizeLine ∧ Pv (i + 1) (ys ++ [y]) (upd H6 D (.lst (ys ++ [y]))) else Pv (i + 1) ys H5)
    (hd : ∀ ys H, Pv xs.length ys H → R H) : ∃ W : Nat → Nat → List V → Hp → Prop, (∃ m, W 0 m [] (upd H1 D (.lst []))) ∧ CompTurns (Itt K a) D g tc te σ0 W R := by
  refine ⟨fun i m ys H => m = xs.length - i ∧ i ≤ xs.length ∧ Pv i ys H, ⟨_, rfl, Nat.zero_le _, h0⟩, ?_⟩
  rintro i m ys H ⟨rfl, hi, p⟩
  have q := hl i ys H hi p
  by_cases hlt : i < xs.length
  · refine .inr ⟨⟨xs, xs[i], q, by simp [hlt]⟩, Pv (i + 1), fun ys' H' p' => ⟨xs.length - (i + 1), by omega, rfl, hlt, p'⟩, fun x H' y => ?_⟩
    obtain ⟨e, y⟩ := y
    subst e
    exact hs i x ys _ (y xs q) p
  · have e : i = xs.length := by omega
    subst e
    exact .inl ⟨⟨xs, q, Nat.le_refl _⟩, hd ys H p⟩
set_option maxRecDepth 8000 in
theorem extend_tup (l : Addr) (items : Array Value) (n : Nat) (b : Addr) (items2 : Array Value) (n2 : Nat) (dc : Option Addr) (sl : Array (Option Value)) (hs0 : ¬(!items.isEmpty && Builtin.List.listTooLong (items.size + items2.size)) = true) (hs1 : items.size ≤ sizeLine) (hs2 : items.size + items2.size ≤ sizeLine + 1) :
    Meets (Builtin.«list.extend» ⟨[.ref l, .ref b], []⟩) (fun _ R s => s.heap.get? l = some { cls := .type "list", dict := none, data := .seq items n, slots := #[] } ∧ s.heap.get? b = some { cls := .type "tuple", dict := dc, data := .seq items2 n2, slots := sl } ∧ R (.ok (.ret Value.none)) { s with heap := s.heap.update l (Obj.mapSeq fun x => x ++ items2), toks := s.toks }) :=
  .of_wp fun prog w A R s h => by
    obtain ⟨hp, g, d, tk, os⟩ := s
    obtain ⟨hl, hb, h⟩ := h
    have f1 := AutoSeq1.idx_int; have f2 := AutoSeq1.sub_tuple_tuple; have f3 := AutoSeq1.sub_list_list; have f4 := AutoSeq1.sub_tuple_list; have f5 := AutoSeq1.sub_list_tuple
    have hz' : (items ++ items2).size ≤ sizeLine + 1 := by rw [Array.size_append]; exact hs2
    wp_walk using (wpAny_updateSeq hl rfl (hz := hs1) (_hz' := hz')), AutoSeq1.wpAny_loadPart' hl, AutoSeq1.wpAny_loadPart' hb
    exact ⟨_, rfl, h⟩
section
variable {X : Cx}
def rExtendT : V → List V → Hp → VK → Prop := fun x vs H Q => ∃ l b xs zs, x = .ref l ∧ vs = [.ref b] ∧ H l = some (.lst xs) ∧ H b = some (.tup zs) ∧ xs.length + zs.length ≤ sizeLine ∧ Q .non (upd H l (.lst (xs ++ zs)))
theorem mt_extendT : MtM X "list.extend" rExtendT := by
  intro pins s σ H x vs v us Q I rx rv h
  obtain ⟨l, b, xs, zs, rfl, rfl, hH, hB, hz, q⟩ := h
  cases rx
  obtain ⟨u, rfl, ru⟩ := rv.one
  cases ru
  obtain ⟨z, its, n, r, hl, e⟩ := I.lstM hH
  obtain ⟨_, its2, r2, o, ho, hc, n2, hd⟩ := I.hok b _ hB
  have hl2 := r2.length
  have hll := r.length
  have hsz : its.toArray.size + its2.toArray.size ≤ sizeLine := by rw [List.size_toArray, List.size_toArray]; omega
  have hlong : ¬ (!its.toArray.isEmpty && Builtin.List.listTooLong (its.toArray.size + its2.toArray.size)) = true := by
    rw [notLongL hsz, Bool.and_false]
    exact Bool.false_ne_true
  refine call_meets F.slot_list_extend ⟨_, e, rfl⟩ F.entry_list_extend (F.args_list_extend_2 _ _)
    (extend_tup l its.toArray n b its2.toArray n2 o.dict o.slots hlong (by rw [List.size_toArray]; omega) (by omega)) ⟨e, ?_, ?_⟩
  · rw [ho]
    cases o
    simp only at hc hd
    rw [hc, hd]
  refine ⟨.non, _, I.lset (its' := its ++ its2) hH e (by simp) (r.append r2) ?_, rfl, q⟩
  rw [List.length_append]
  omega
end
end L2
namespace L2
open PySem PySem.Spec PyProof.Rows
/-! ### max(list of ints); list(range(a, b)) -/
section
variable {X : Cx}
theorem kMax (K : PySem.W.Frag) (hc : X.calm = true) (h : X.K = K := by rfl) : CallR X (.builtin "max") (fun xs H Q => ∃ (p : Addr) (ns : List Int), xs = [.ref p] ∧ SqL K H p (ns.map V.int) ∧ ns ≠ [] ∧ ∀ m, m ∈ ns → (∀ n ∈ ns, n ≤ m) → Q (.int m) H) := by
  subst h
  intro pins s σ H xs us Q I rv h
  obtain ⟨p, ns, rfl, hq, hne, q⟩ := h
  obtain ⟨u, rfl, ru⟩ := rv.one
  cases ru
  obtain ⟨its, r, pl, hz⟩ := I.list hq
  have hh : X.A.in1.handled = none := I.ok.hd hc
  have hl := r.length
  rw [List.length_map] at hl
  have hpos : 0 < ns.length := List.length_pos_iff.mpr hne
  obtain ⟨o, eo, _⟩ := id pl.isList
  have hlt : p < s.heap.objs.size := Heap.lt_size eo
  have hval : ∀ (i : Nat) (v : Value), its.toArray[i]? = some v → ∃ t, v = Value.int (ns.getD i 0) t := fun i v hv => by
    have hv' : its[i]? = some v := by simpa using hv
    have hi : i < its.length := (List.getElem?_eq_some_iff.mp hv').1
    have ex : (ns.map V.int)[i]? = some (.int (ns[i]'(by omega))) := by rw [List.getElem?_map, List.getElem?_eq_getElem (by omega)]; rfl
    obtain ⟨u, gu, ru⟩ := r.get ex
    rw [gu] at hv'
    cases hv'
    obtain ⟨t, rfl⟩ := ru
    exact ⟨t, by rw [List.getD_eq_getElem?_getD, List.getElem?_eq_getElem (by omega)]; rfl⟩
  refine call_max_walk (wpAny_pyIter_list pl.isList ?_)
  refine ⟨s.heap.objs.size, _, _, _, _, _, _, rfl, Walks.list hh s.heap.objs.size p (Nat.ne_of_lt hlt) its.toArray, ⟨⟨_, Heap.get?_push_size _ rfl, rfl, rfl⟩, pl.isList.at fun o e => Heap.get?_push_of_some _ e⟩, ?_, by rw [List.size_toArray]; omega, CmpOf.ints_gt (fun i => ns.getD i 0) hval, fun v h' tk hv hk => ?_⟩
  · intro b hb
    have e : b = s.heap.objs.size ∨ b = p := by simpa using hb
    have hsz : (s.heap.push { cls := .type "list_iterator", data := .fields #[.ref p, .int 0 0] }).objs.size = s.heap.objs.size + 1 := Heap.size_push ..
    show b < (s.heap.push { cls := .type "list_iterator", data := .fields #[.ref p, .int 0 0] }).objs.size
    rw [hsz]
    rcases e with e | e
    · rw [e]; exact Nat.lt_succ_self _
    · rw [e]; exact Nat.lt_succ_of_lt hlt
  · obtain ⟨t, rfl⟩ := hval _ v hv
    have hA := argBest_gt (fun i => ns.getD i 0) (its.toArray.size - 1)
    have hsz : its.toArray.size = ns.length := by rw [List.size_toArray]; exact hl.symm
    generalize hg : argBest (fun i j => decide (ns.getD i 0 > ns.getD j 0)) (its.toArray.size - 1) = g at hA ⊢
    have hg1 : g < ns.length := by omega
    have eg : ns.getD g 0 = ns[g] := by rw [List.getD_eq_getElem?_getD, List.getElem?_eq_getElem hg1]; rfl
    refine ⟨.int (ns.getD g 0), H, I.kept fun b o e' => hk b o ?_ (Heap.get?_push_of_some _ e'), ⟨t, rfl⟩, q _ (by rw [eg]; exact List.getElem_mem hg1) fun n hn => ?_⟩
    · intro z
      have : b = s.heap.objs.size := by simpa using z
      exact absurd (Heap.lt_size e') (by rw [this]; exact Nat.lt_irrefl _)
    · obtain ⟨j, hj, rfl⟩ := List.getElem_of_mem hn
      have := hA.2 j (by omega)
      have ej : ns.getD j 0 = ns[j] := by rw [List.getD_eq_getElem?_getD, List.getElem?_eq_getElem hj]; rfl
      rw [← ej]
      exact this
theorem pe_rng2 {a b : Expr} {ta : TA} {p pos : Pos} (hg : Gl X "range") (hm : X.mg "range" = none) (ha : PA X [a, b] ta) (hs : starEach [a, b] X.env = [(false, eval a X.env), (false, eval b X.env)] := by rfl) (hs2 : starEach [b] X.env = [(false, eval b X.env)] := by rfl) :
    PE X (.Call (.Name "range" p) [a, b] [] pos) (fun σ H Q => ta σ H fun vs H1 => ∃ i j : Int, vs = [.int i, .int j] ∧ ∀ r, H1 r = none → Q (.ref r) (upd H1 r (.rng i j))) := by
  intro pins s σ H Q I h
  refine Call_ (ld_blt I hg hm boot_range (PyProof.Rows.callWith_type1 (thn (ha pos pins s σ H _ I h) fun us s1 ⟨vs, H1, I1, r1, q1⟩ => ?_) (by rw [hs, hs2]) (by rw [hs2]; rfl)))
  obtain ⟨i, j, rfl, q⟩ := q1
  obtain ⟨u1, u2, rfl, ru1, ru2⟩ := r1.two
  obtain ⟨t1, rfl⟩ := ru1
  obtain ⟨t2, rfl⟩ := ru2
  refine call_range_2 ?_
  exact ⟨.ref _, _, I1.laid (o := .rng i j) (fun b o e => Heap.get?_push_of_some _ e) (Nat.le_refl _) ⟨_, _, _, Heap.get?_push_size _ rfl⟩, rfl, q _ I1.fresh⟩
theorem call_list_rng2 (hc : X.calm = true) : CallR X (.type "list") (fun xs H Q => ∃ r n, xs = [.ref r] ∧ H r = some (.rng 2 ((n : Nat) + 2)) ∧ n ≤ 1000 ∧ ∀ l, H l = none → Q (.ref l) (upd H l (.lst ((seq2 n).map V.int)))) := by
  intro pins s σ H xs us Q I rv h
  obtain ⟨r, n, rfl, hr, hn, q⟩ := h
  obtain ⟨u, rfl, ru⟩ := rv.one
  cases ru
  obtain ⟨t, u, v, e⟩ := I.hok r _ hr
  have h16 : (16777216 : Nat) = sizeLine := sizeLine_eq.symm
  refine call_list_range (n := n) (I.ok.hd hc) e (small_one (by omega) (by omega) (by omega) (by omega)) (by rw [rangeSize_one]; split <;> omega) (by omega) fun h' tk acc' c' hk hS hit => ?_
  refine ⟨.ref _, _, I.laid (o := .lst ((seq2 n).map V.int)) hk (Nat.le_refl _) ⟨by rw [List.length_map, seq2_len]; omega, acc'.toList, c', ?_, hS⟩, rfl, q _ I.fresh⟩
  refine vals_get (by rw [List.length_map, seq2_len, Array.length_toList]; exact hit.1.symm) fun i x u e1 e2 => ?_
  rw [Array.getElem?_toList] at e2
  obtain ⟨tk', rfl⟩ := hit.2 i u e2
  have hi : i < n := by
    have := (List.getElem?_eq_some_iff.mp e1).1
    rw [List.length_map, seq2_len] at this
    exact this
  rw [List.getElem?_map, seq2_get hi] at e1
  cases e1
  exact ⟨tk', by congr 1; omega⟩
end
/-! ### what found_from knows -/
theorem chT_len (ks : List Tri) (x : Int) : (chT ks x).length ≤ 2 := by
  unfold chT
  split <;> simp
theorem strm_len (ks : List Tri) (root : Int) (f : List Int) : (strm ks root f).length ≤ 1 + 2 * f.length := by
  unfold strm
  rw [List.length_cons]
  have : (f.flatMap (chT ks)).length ≤ 2 * f.length := by
    induction f with
    | nil => simp
    | cons x f ih =>
      have := chT_len ks x
      rw [List.flatMap_cons, List.length_append, List.length_cons]
      omega
  omega
theorem nodes_le {ks : List Tri} {fs : List Int} (nd : fs.Nodup) (nod : ∀ x ∈ fs, ∃ r, Nd ks x r) : fs.length ≤ ks.length := by
  have := List.Nodup.length_le_of_subset (l₂ := (List.range ks.length).map fun (i : Nat) => (i : Int) + 2) nd fun x hx => by
    obtain ⟨r, n⟩ := nod x hx
    have h1 := n.lt
    have h2 := n.1
    exact List.mem_map.mpr ⟨(x - 2).toNat, List.mem_range.mpr (by omega), by omega⟩
  rw [List.length_map, List.length_range] at this
  exact this
structure Wk (ks : List Tri) (root : Int) (fs : List Int) (kvs : List (Key × V)) (pr ah : List Int) : Prop where
  e : strm ks root fs = pr ++ ah
  old : ∀ y ∈ pr, ¬ New fs y
  seen : ∀ n : Int, valV kvs (.inl n) = none ↔ New fs n
  nd : fs.Nodup
  nod : ∀ x ∈ fs, ∃ r, Nd ks x r
  rch : Rch ks root fs
  kl : kvs.length ≤ fs.length + 2
  ok : ∀ y ∈ ah, At ks y (-1)
theorem Wk.le {ks : List Tri} {root : Int} {fs : List Int} {kvs : List (Key × V)} {pr ah : List Int} (h : Wk ks root fs kvs pr ah) : fs.length ≤ ks.length := nodes_le h.nd h.nod
theorem Wk.ahl {ks : List Tri} {root : Int} {fs : List Int} {kvs : List (Key × V)} {pr ah : List Int} (h : Wk ks root fs kvs pr ah) : ah.length ≤ 1 + 2 * ks.length := by
  have h1 := strm_len ks root fs
  rw [h.e, List.length_append] at h1
  have := h.le
  omega
theorem Wk.skip {ks : List Tri} {root : Int} {fs : List Int} {kvs : List (Key × V)} {pr ah : List Int} {c : Int} (h : Wk ks root fs kvs pr (c :: ah)) (n : ¬ New fs c) : Wk ks root fs kvs (pr ++ [c]) ah := by
  refine ⟨by rw [h.e, List.append_assoc]; rfl, fun y hy => ?_, h.seen, h.nd, h.nod, h.rch, h.kl, fun y hy => h.ok y (List.mem_cons_of_mem _ hy)⟩
  rcases List.mem_append.mp hy with z | z
  · exact h.old y z
  · rw [List.mem_singleton] at z
    rw [z]
    exact n
theorem Wk.take {ks : List Tri} {root : Int} {fs : List Int} {kvs : List (Key × V)} {pr ah : List Int} {c : Int} {r : Tri} {v : V} (T : TabOk ks) (h : Wk ks root fs kvs pr (c :: ah)) (n : New fs c) (d : Nd ks c r) : Wk ks root (fs ++ [c]) (putK kvs (.inl c) v) (pr ++ [c]) (ah ++ [r.2.1, r.2.2]) := by
  obtain ⟨ht, h1, h2⟩ := T.nd d
  have new_iff : ∀ y, New (fs ++ [c]) y ↔ (New fs y ∧ y ≠ c) := fun y => by
    unfold New
    rw [List.mem_append, List.mem_singleton]
    constructor
    · rintro ⟨a, b, e⟩
      exact ⟨⟨a, b, fun z => e (.inl z)⟩, fun z => e (.inr z)⟩
    · rintro ⟨⟨a, b, e⟩, f⟩
      exact ⟨a, b, fun z => z.elim e f⟩
  refine ⟨?_, fun y hy => ?_, fun m => ?_, ?_, fun x hx => ?_, .snoc h.rch ⟨pr, ah, h.e, n, h.old⟩, ?_, fun y hy => ?_⟩
  · rw [strm_snoc, h.e, chT_nd d]
    simp
  · rw [new_iff]
    rintro ⟨a, b⟩
    rcases List.mem_append.mp hy with z | z
    · exact h.old y z a
    · exact b (List.mem_singleton.mp z)
  · rw [valV_put, new_iff, ← h.seen m]
    by_cases e : m = c
    · rw [if_pos (by rw [e])]
      exact ⟨fun z => (by cases z), fun z => absurd e z.2⟩
    · rw [if_neg (fun z => e (Sum.inl.inj z))]
      exact ⟨fun z => ⟨z, e⟩, fun z => z.1⟩
  · exact List.nodup_append.mpr ⟨h.nd, by simp, fun a ha b hb => by rw [List.mem_singleton] at hb; subst hb; exact fun z => n.2.2 (z ▸ ha)⟩
  · rcases List.mem_append.mp hx with z | z
    · exact h.nod x z
    · rw [List.mem_singleton] at z
      subst z
      exact ⟨r, d⟩
  · have := length_putK kvs (.inl c) v
    have := h.kl
    rw [List.length_append, List.length_singleton]
    omega
  · rcases List.mem_append.mp hy with z | z
    · exact h.ok y (List.mem_cons_of_mem _ z)
    · rcases List.mem_cons.mp z with z | z
      · rw [z]; exact h1.mono (by omega)
      · rw [List.mem_singleton] at z
        rw [z]; exact h2.mono (by omega)
theorem Wk.fin {ks : List Tri} {root : Int} {fs : List Int} {kvs : List (Key × V)} {pr : List Int} (h : Wk ks root fs kvs pr []) : Fin ks root fs := by
  intro y hy
  rw [h.e, List.append_nil] at hy
  exact h.old y hy
/-! a table's nodes, looked at -/
structure NodeOk (ts : List Tri) (many : Int) (r : Tri) : Prop where
  road : 0 ≤ r.1 ∧ r.1 < many
  low : 0 ≤ r.2.1 ∧ r.2.1 < (ts.length : Int) + 2
  high : 0 < r.2.2 ∧ r.2.2 < (ts.length : Int) + 2
  lo : ∀ q, Nd ts r.2.1 q → r.1 < q.1
  hi : ∀ q, Nd ts r.2.2 q → r.1 < q.1
theorem at_of {ts : List Tri} {c lo : Int} (h0 : 0 ≤ c) (h1 : c < (ts.length : Int) + 2) (h : ∀ q, Nd ts c q → lo < q.1) : At ts c lo := by
  by_cases z : 1 < c
  · have hn : Nd ts c ts[(c - 2).toNat] := ⟨by omega, List.getElem?_eq_getElem (by omega)⟩
    exact .inr (.inr ⟨_, hn, h _ hn⟩)
  · have : c = 0 ∨ c = 1 := by omega
    rcases this with e | e
    · exact .inl e
    · exact .inr (.inl e)
theorem nd_of {ts : List Tri} {c : Int} (h0 : 1 < c) (h1 : c < (ts.length : Int) + 2) : ∃ q, Nd ts c q := ⟨ts[(c - 2).toNat]'(by omega), ⟨by omega, List.getElem?_eq_getElem (by omega)⟩⟩
theorem tab_of {ts : List Tri} {many : Int} (hm : many ≤ 30) (h : ∀ r ∈ ts, NodeOk ts many r) : TabOk ts := fun i r e => by
  have n := h r (List.mem_of_getElem? e)
  have h1 := n.road
  have h2 := n.low
  have h3 := n.high
  exact ⟨⟨h1.1, by omega⟩, at_of h2.1 h2.2 n.lo, at_of (by omega) h3.2 n.hi⟩
end L2
namespace L2
open PySem PySem.Spec PyProof.Rows
/-! ### lists of triples, cut and changed -/
theorem Trs.app {H : Hp} {xs ys : List V} {rs qs : List Tri} (h : Trs H xs rs) (k : Trs H ys qs) : Trs H (xs ++ ys) (rs ++ qs) := by
  induction h with
  | nil => exact k
  | cons e _ ih => exact .cons e ih
theorem Trs.take {H : Hp} {xs : List V} {rs : List Tri} (h : Trs H xs rs) : ∀ n, Trs H (xs.take n) (rs.take n) := by
  induction h with
  | nil => intro n; rw [List.take_nil, List.take_nil]; exact .nil
  | cons e _ ih =>
    intro n
    cases n with
    | zero => exact .nil
    | succ n => exact .cons e (ih n)
theorem Trs.drop {H : Hp} {xs : List V} {rs : List Tri} (h : Trs H xs rs) : ∀ n, Trs H (xs.drop n) (rs.drop n) := by
  induction h with
  | nil => intro n; rw [List.drop_nil, List.drop_nil]; exact .nil
  | cons e t ih =>
    intro n
    cases n with
    | zero => exact .cons e t
    | succ n => exact ih n
theorem Trs.set {H : Hp} {xs : List V} {rs : List Tri} (h : Trs H xs rs) {p : Addr} {a b c : Int} (e : H p = some (.tup [.int a, .int b, .int c])) : ∀ n, Trs H (xs.set n (.ref p)) (rs.set n (a, b, c)) := by
  induction h with
  | nil => intro n; exact .nil
  | cons e' t ih =>
    intro n
    cases n with
    | zero => exact .cons e t
    | succ n => exact .cons e' (ih n)
theorem Prs.take {H : Hp} {xs : List V} {rs : List (Int × Int)} (h : Prs H xs rs) : ∀ n, Prs H (xs.take n) (rs.take n) := by
  induction h with
  | nil => intro n; rw [List.take_nil, List.take_nil]; exact .nil
  | cons e _ ih =>
    intro n
    cases n with
    | zero => exact .nil
    | succ n => exact .cons e (ih n)
theorem ixN_nat {n k : Nat} (h : k < n) : ixN n (k : Int) = some k := by
  unfold ixN
  rw [if_pos (by omega), if_pos (by omega)]
  rfl
/-! ### tables, a node changed -/
theorem At.set {ts : List Tri} {c lo : Int} {k : Nat} {r r' : Tri} (h : At ts c lo) (e : ts[k]? = some r) (hr : r'.1 = r.1) : At (ts.set k r') c lo := by
  rcases h with h | h | ⟨q, n, g⟩
  · exact .inl h
  · exact .inr (.inl h)
  · by_cases hk : (c - 2).toNat = k
    · have hkl := (List.getElem?_eq_some_iff.mp e).1
      have : q = r := by
        have := n.2
        rw [hk, e] at this
        cases this
        rfl
      subst this
      refine .inr (.inr ⟨r', ⟨n.1, ?_⟩, by omega⟩)
      rw [hk, List.getElem?_set_self hkl]
    · refine .inr (.inr ⟨q, ⟨n.1, ?_⟩, g⟩)
      rw [List.getElem?_set_ne (Ne.symm hk)]
      exact n.2
theorem TabOk.set {ts : List Tri} {k : Nat} {r r' : Tri} (T : TabOk ts) (e : ts[k]? = some r) (hr : r'.1 = r.1) (h1 : At ts r'.2.1 r'.1) (h2 : At ts r'.2.2 r'.1) : TabOk (ts.set k r') := by
  intro i q hq
  by_cases hk : k = i
  · subst hk
    have hkl := (List.getElem?_eq_some_iff.mp e).1
    rw [List.getElem?_set_self hkl] at hq
    cases hq
    obtain ⟨h0, _⟩ := T k r e
    exact ⟨by rw [hr]; exact h0, h1.set e hr, h2.set e hr⟩
  · rw [List.getElem?_set_ne hk] at hq
    obtain ⟨a, b, c⟩ := T i q hq
    exact ⟨a, b.set e hr, c.set e hr⟩
theorem take_cons_drop {α : Type} {xs : List α} {k : Nat} (h : k < xs.length) (x : α) : xs.take k ++ [x] ++ xs.drop (k + 1) = xs.set k x := by
  rw [List.set_eq_take_append_cons_drop, if_pos h, List.append_assoc]
  rfl
end L2
namespace M
open PySem L2
def top (i : Nat) : Stmt := PySem.Challenge.pw_onceways_k26_which_tables_are_least.main.body.getD i (.Pass ⟨0, 0, 0, 0⟩)
abbrev sFou : Stmt := top 1
abbrev sRig : Stmt := top 3
abbrev sLea : Stmt := top 4
abbrev sCel : Stmt := top 6
abbrev sDig : Stmt := top 7
abbrev sRaw : Stmt := top 8
abbrev sIno : Stmt := top 9
abbrev sTab : Stmt := top 10
abbrev sDra : Stmt := top 11
abbrev sLle : Stmt := top 12
abbrev sPai : Stmt := top 13
abbrev sTur : Stmt := top 14
abbrev sTwi : Stmt := top 15
abbrev sNob : Stmt := top 16
abbrev sAny : Stmt := top 17
abbrev sBen : Stmt := top 18
abbrev sLaw : Stmt := top 19
end M
namespace M
open PySem L2
section
variable {P : Program} {w : World} {K : PySem.W.Frag} {mg : Str → Option Value} {base : Heap}
theorem two_le : 2 ≤ sizeLine := by decide
theorem atI_pos {xs : List V} {i : Int} {v : V} (h0 : 0 ≤ i) (h : xs[i.toNat]? = some v) : atI xs i = some v := by
  obtain ⟨k, rfl⟩ := Int.eq_ofNat_of_zero_le h0
  exact atI_nat h
theorem node_at {H : Hp} {xs : List V} {ts : List Tri} (T : Trs H xs ts) {c : Int} {r : Tri} (n : Nd ts c r) : ∃ t, atI xs (c - 2) = some (.ref t) ∧ H t = some (.tup [.int r.1, .int r.2.1, .int r.2.2]) := by
  obtain ⟨t, h1, h2⟩ := T.at n.2
  exact ⟨t, atI_pos (by have := n.1; omega) h1, h2⟩
/-- a table stands at tb -/
structure TabAt (H : Hp) (tb l : Addr) (root : Int) (xs : List V) (ts : List Tri) : Prop where
  w : H tb = some (.tup [.int root, .ref l])
  l : H l = some (.lst xs)
  t : Trs H xs ts
theorem TabAt.same {H H' : Hp} {tb l : Addr} {root : Int} {xs : List V} {ts : List Tri} (h : TabAt H tb l root xs ts) (s : Same H H') : TabAt H' tb l root xs ts := ⟨s _ _ h.w, s _ _ h.l, h.t.same s⟩
theorem ints_get {ns : List Int} {i : Nat} {x : V} (h : (ns.map V.int)[i]? = some x) : ∃ z, x = .int z ∧ ns[i]? = some z := by
  rw [List.getElem?_map] at h
  cases hz : ns[i]? with
  | none => rw [hz] at h; cases h
  | some z => rw [hz] at h; cases h; exact ⟨z, rfl, rfl⟩
end
end M
namespace M
open PySem L2
section
variable {P : Program} {w : World} {K : PySem.W.Frag} {mg : Str → Option Value} {base : Heap}
theorem boot_max : bootBuiltins "max" = some (.builtin "max") := by first | rfl | decide +kernel
theorem lt2_lit {p : Nat} {a : Int} (h : a.natAbs < 2 ^ p := by decide +kernel) : Lt2 p a := h
theorem lt2_n {n : Int} (h : n.natAbs < 2 ^ 40) : Lt2 9000 n := Nat.lt_of_lt_of_le h (Nat.pow_le_pow_right (by decide) (by decide))
theorem getD_eq {ns : List Int} {i : Nat} (h : i < ns.length) : ns.getD i 0 = ns[i] := by
  rw [List.getD_eq_getElem?_getD, List.getElem?_eq_getElem h]
  rfl
theorem getD_mem {ns : List Int} {i : Nat} (h : i < ns.length) : ns.getD i 0 ∈ ns := by
  rw [getD_eq h]
  exact List.getElem_mem h
theorem at_int {ns : List Int} {i : Int} (h0 : 0 ≤ i) (h1 : i < ns.length) : atI (ns.map V.int) i = some (.int (ns.getD i.toNat 0)) := by
  obtain ⟨k, rfl⟩ := Int.eq_ofNat_of_zero_le h0
  have hk : k < ns.length := by omega
  refine atI_nat ?_
  show (ns.map V.int)[k]? = some (.int (ns.getD k 0))
  rw [List.getElem?_map, List.getD_eq_getElem?_getD, List.getElem?_eq_getElem hk]
  rfl
/-! ### _law_cell_at -/
def spCel (K : PySem.W.Frag) : Sp := fun vs H Q _ => ∃ (a : Addr) (ns : List Int) (k : Nat), vs = [.ref a, .int (k : Int)] ∧ SqL K H a (ns.map V.int) ∧ ∀ z : Int, Q (.int z) H
theorem scCel : FnScope ["script", "k"] ["script", "k"] (defScope sCel) := ⟨rfl, rfl, rfl, by decide +kernel, rfl, by decide +kernel, by decide +kernel⟩
theorem ok_cel {f : Addr} {fd : FuncData} (F : Fun K "_law_cell_at" "_law_cell_at" sCel f fd) (mLen : mg "len" = none) : FnOk P w K mg base CX0 1 f fd ["script", "k"] (spCel K) := by
  refine F.ok scCel (fun vs H Q E h => ?_) (fun cdv A outer s H vs Q E hr h => ?_)
  · obtain ⟨_, _, _, rfl, _⟩ := h
    rfl
  · obtain ⟨a, ns, k, rfl, hS, q⟩ := h
    refine ⟨_, pss_cons (ps_if (pt_cmpR op_lt (pv 1) (pe_callB (kLen K) rfl mLen PySem.boot_len (pa_cons (pv 0) pa_nil)) (nomark _)) (pss_one (ps_ret (pe_ix (kIxL K) (pv 0) (pv 1) (fun _ _ => rfl)))) pss_nil)
       (pss_one (ps_ret pe_int)), ?_⟩
    refine ⟨_, rfl, _, rfl, a, _, rfl, .inl hS, _, _, rfl, rfl, _, rfl, ?_⟩
    rw [List.length_map]
    refine ite2 (fun z => ?_) (fun _ => q 0)
    have z' := of_decide_eq_true z
    exact ⟨_, rfl, _, rfl, a, _, _, _, rfl, rfl, hS, at_int (by omega) z', q _⟩
/-! ### _law_digits -/
def spDig : Sp := fun vs H Q _ => ∃ (c b : Int) (m : Nat), vs = [.int c, .int (m : Int), .int b] ∧ m ≤ 40 ∧ 0 < b ∧ b ≤ 2 ^ 31 ∧ ∀ (l : Addr) (row : List Int) (H' : Hp), Same H H' → H l = none → H' l = some (.lst (row.map V.int)) → row.length = m → Q (.ref l) H'
theorem scDig : FnScope ["cell", "many", "top", "found", "rest", "k", "stir"] ["cell", "many", "top"] (defScope sDig) := ⟨rfl, rfl, rfl, by decide +kernel, rfl, by decide +kernel, by decide +kernel⟩
theorem ok_dig {f : Addr} {fd : FuncData} (F : Fun K "_law_digits" "_law_digits" sDig f fd) (mRange : mg "range" = none) : FnOk P w K mg base CX0 1 f fd ["cell", "many", "top"] spDig := by
  refine F.ok scDig (fun vs H Q E h => ?_) (fun cdv A outer s H vs Q E hr h => ?_)
  · obtain ⟨_, _, _, rfl, _⟩ := h
    rfl
  · obtain ⟨c, b, m, rfl, hm, b0, b1, q⟩ := h
    have h16 : (16777216 : Nat) = sizeLine := sizeLine_eq.symm
    refine ⟨_, pss_cons (ps_set (i := 3) scDig.nd rfl (Or.inl rfl) (pe_lst pa_nil))
       (pss_cons (ps_set (i := 4) scDig.nd rfl (Or.inl rfl) (pv 0))
       (pss_cons (ps_for PassesOwn.never rfl (pi_range1 rfl mRange (pa_cons (pv 1) pa_nil)) (pg_name (i := 5) scDig.nd rfl (Or.inl rfl))
       (pss_cons (ps_set (i := 6) scDig.nd rfl (Or.inl rfl) (pe_op op_mod (pe_op op_mul (pe_op op_add (pe_op op_add (pv 0) (pe_op op_mul pe_int (pv 5))) pe_int) pe_int) pe_int))
       (pss_cons (ps_set (i := 6) scDig.nd rfl (Or.inl rfl) (pe_op op_mod (pe_op op_mul (pv 6) (pv 6)) pe_int))
       (pss_cons (ps_set (i := 6) scDig.nd rfl (Or.inl rfl) (pe_op op_fdivB (pe_op op_mod (pe_op op_mul (pe_op op_add (pv 6) (pe_op op_mul pe_int (pe_op op_add (pv 5) pe_int))) pe_int) pe_int) pe_int))
       (pss_cons (ps_if (pt_cmpR op_ge (pv 0) (pe_op op_pow pe_int pe_int) (nomark _)) (pss_one (ps_set (i := 6) scDig.nd rfl (Or.inl rfl) (pv 4))) pss_nil)
       (pss_cons (ps_expr (pe_bm PySem.F.plainAttrs_list PySem.F.slot_list_append PySem.F.type_list_append mt_append (pv 3) (pa_cons (pe_op op_mod (pv 6) (pv 2)) pa_nil)))
       (pss_one (ps_set (i := 4) scDig.nd rfl (Or.inl rfl) (pe_op op_fdivB (pv 4) (pv 2))))))))))
       (pss_one (ps_ret (pv 3))))), ?_⟩
    refine ⟨Nat.zero_le _, fun l hl => ?_⟩
    refine ⟨_, rfl, ?_⟩
    refine ⟨_, rfl, _, rfl, by omega, by omega, ?_⟩
    rw [Int.toNat_natCast]
    refine for_range (lo := 0) (n := m) (fun i σ H2 => ∃ (row : List Int) (r : Int) (v5 v6 : Option V), σ = [some (.int c), some (.int (m : Int)), some (.int b), some (.ref l), some (.int r), v5, v6] ∧ Same H H2 ∧ H2 l = some (.lst (row.map V.int)) ∧ row.length = i) ⟨[], _, none, none, rfl, Same.new hl, upd_same, rfl⟩ ?_ ?_
    · rintro i σ H2 hi ⟨row, r, v5, v6, rfl, s2, e2, rl⟩
      rw [Int.zero_add]
      refine ⟨_, rfl, _, rfl, _, _, rfl, rfl, .inl ⟨by decide, by decide⟩, _, _, rfl, rfl, _, _, rfl, rfl, _, _, rfl, rfl, .inr ⟨by decide, by decide⟩, _, _, rfl, rfl, (by show (0 : Int) < 2147483647; decide), ?_⟩
      refine ⟨_, rfl, _, rfl, _, _, rfl, rfl, .inl ⟨by omega, by omega⟩, _, _, rfl, rfl, (by show (0 : Int) < 2147483629; decide), ?_⟩
      refine ⟨_, rfl, _, rfl, _, _, rfl, rfl, _, _, rfl, rfl, .inl ⟨by decide, by decide⟩, _, _, rfl, rfl, _, _, rfl, rfl, .inr ⟨by decide, by decide⟩, _, _, rfl, rfl, (by show (0 : Int) < 2147483423; decide), _, _, rfl, rfl, ⟨by decide, lt2_lit⟩, ?_⟩
      try dsimp only [gName]
      refine seq_mid (fun σ' H' => ∃ (x : Int), σ' = [some (.int c), some (.int (m : Int)), some (.int b), some (.ref l), some (.int r), some (.int (i : Int)), some (.int x)] ∧ H' = H2) ?snd ?fst
      case fst =>
        intro hk
        refine ⟨_, rfl, _, _, rfl, rfl, ⟨by decide, by decide, by decide⟩, _, _, rfl, rfl, _, rfl, ?_⟩
        refine ite2 (fun _ => ?_) (fun _ => hk _ _ ⟨_, rfl, rfl⟩)
        refine ⟨_, rfl, ?_⟩
        exact hk _ _ ⟨_, rfl, rfl⟩
      case snd =>
        rintro σ' H' ⟨x, rfl, rfl⟩
        refine ⟨_, rfl, .inl ⟨rfl, _, SqL.of e2⟩, _, rfl, _, rfl, _, _, rfl, rfl, b0, l, _, _, rfl, rfl, e2, by rw [List.length_map]; omega, ?_⟩
        refine ⟨_, rfl, _, rfl, _, _, rfl, rfl, ⟨b0, lt2_n (by omega)⟩, ?_⟩
        exact ⟨row ++ [x % b], _, _, _, rfl, s2.put hl, by rw [upd_same, List.map_append]; rfl, by rw [List.length_append, List.length_singleton, rl]⟩
    · rintro σ H2 ⟨row, r, v5, v6, rfl, s2, e2, rl⟩
      exact ⟨_, rfl, q l row H2 s2 hl e2 rl⟩
/-! ### _law_raw -/
def spRaw : Sp := fun vs H Q _ => ∃ (cl : Addr) (cs : List Int) (road : Int), vs = [.ref cl, .int road] ∧ H cl = some (.lst (cs.map V.int)) ∧ cs.length ≤ 60 ∧ 0 ≤ road ∧ road < 30 ∧
  ∀ (l : Addr) (xs : List V) (ts : List Tri) (H' : Hp), Same H H' → H l = none → H' l = some (.lst xs) → Trs H' xs ts → TabOk ts → Bk ts → ts.length = cs.length → Q (.ref l) H'
theorem scRaw : FnScope ["cells", "road", "nodes", "steps", "cell", "free", "many", "low", "high"] ["cells", "road"] (defScope sRaw) := ⟨rfl, rfl, rfl, by decide +kernel, rfl, by decide +kernel, by decide +kernel⟩
theorem ok_raw {f : Addr} {fd : FuncData} (F : Fun K "_law_raw" "_law_raw" sRaw f fd) (mRange : mg "range" = none) (mLen : mg "len" = none) (mMax : mg "max" = none) : FnOk P w K mg base CX0 1 f fd ["cells", "road"] spRaw := by
  refine F.ok scRaw (fun vs H Q E h => ?_) (fun cdv A outer s H vs Q E hr h => ?_)
  · obtain ⟨_, _, _, rfl, _⟩ := h
    rfl
  · obtain ⟨cl, cs, road, rfl, ecl, hcs, hr0, hr1, q⟩ := h
    have h16 : (16777216 : Nat) = sizeLine := sizeLine_eq.symm
    refine ⟨_, pss_cons (ps_set (i := 2) scRaw.nd rfl (Or.inr rfl) (pe_lst pa_nil))
       (pss_cons (ps_set (i := 3) scRaw.nd rfl (Or.inl rfl) (pe_tup (pa_cons pe_int (pa_cons pe_int (pa_cons pe_int (pa_cons pe_int (pa_cons pe_int (pa_cons pe_int pa_nil))))))))
       (pss_cons (ps_if (pt_cmpR op_gt (pe_callB (kLen K) rfl mLen PySem.boot_len (pa_cons (pv 0) pa_nil)) pe_int (nomark _)) (pss_one (ps_set (i := 3) scRaw.nd rfl (Or.inl rfl) (pe_tup (pa_cons pe_int (pa_cons pe_int (pa_cons pe_int (pa_cons pe_int (pa_cons pe_int (pa_cons pe_int (pa_cons pe_int (pa_cons pe_int (pa_cons pe_int (pa_cons pe_int pa_nil))))))))))))) pss_nil)
       (pss_cons (ps_for PassesOwn.never rfl (kList K (pv 0)) (pg_name (i := 4) scRaw.nd rfl (Or.inl rfl))
       (pss_cons (ps_set (i := 1) scRaw.nd rfl (Or.inr rfl) (pe_callB (call_max2 rfl) rfl mMax boot_max (pa_cons pe_int (pa_cons (pe_op op_sub (pv 1) (pe_ix (kIxT K) (pv 3) (pe_op op_mod (pv 4) (pe_callB (kLen K) rfl mLen PySem.boot_len (pa_cons (pv 3) pa_nil))) (fun _ _ => rfl))) pa_nil))))
       (pss_cons (ps_set (i := 5) scRaw.nd rfl (Or.inl rfl) (pe_op op_cat (pe_lst (pa_cons pe_int (pa_cons pe_int pa_nil))) (pe_comp (own := ["k"]) rfl (compScope_free (fr := [("road", 1), ("nodes", 2)]) [(".0", .local), ("k", .local), ("nodes", .cell), ("road", .cell)] rfl rfl (by decide +kernel) rfl (by decide +kernel) ⟨rfl, rfl, trivial⟩ ⟨fun h => no_cf h, fun h => no_cf h, fun _ => ⟨_, rfl⟩, fun _ => ⟨_, rfl⟩, trivial⟩ ⟨⟨rfl, .inl rfl, .inl rfl⟩, ⟨rfl, .inl rfl, .inl rfl⟩, trivial⟩) (pi_range1 rfl mRange (pa_cons (pe_callB (kLen K) rfl mLen PySem.boot_len (pa_cons (pv 2) pa_nil)) pa_nil)) (fun _ _ _ _ => pg_name (i := 0) (show List.Nodup (["k", "road", "nodes"] : List Str) by decide +kernel) rfl (Or.inl rfl)) (fun _ _ _ _ => pifs_one (pt_cmpR op_gt (pe_ix (kIxT K) (pe_ix (kIxL K) (pv 2) (pv 0) (fun _ _ => rfl)) pe_int (fun _ _ => rfl)) (pv 1) (nomark _))) (fun _ _ _ _ => pe_op op_add (pv 0) pe_int))))
       (pss_cons (ps_set (i := 6) scRaw.nd rfl (Or.inl rfl) (pe_callB (kLen K) rfl mLen PySem.boot_len (pa_cons (pv 5) pa_nil)))
       (pss_cons (ps_set (i := 7) scRaw.nd rfl (Or.inl rfl) (pe_ix (kIxL K) (pv 5) (pe_op op_sub (pe_op op_sub (pv 6) pe_int) (pe_op op_mod (pe_op op_fdivB (pv 4) pe_int) (pv 6))) (fun _ _ => rfl)))
       (pss_cons (ps_set (i := 8) scRaw.nd rfl (Or.inl rfl) (pe_ix (kIxL K) (pv 5) (pe_op op_sub (pe_op op_sub (pv 6) pe_int) (pe_op op_mod (pe_op op_fdivB (pe_op op_fdivB (pv 4) pe_int) (pv 6)) (pe_op op_sub (pv 6) pe_int))) (fun _ _ => rfl)))
       (pss_one (ps_expr (pe_bm PySem.F.plainAttrs_list PySem.F.slot_list_append PySem.F.type_list_append mt_append (pv 2) (pa_cons (pe_tup (pa_cons (pv 1) (pa_cons (pv 7) (pa_cons (pv 8) pa_nil)))) pa_nil))))))))))
       (pss_one (ps_ret (pv 2)))))), ?_⟩
    refine ⟨Nat.zero_le _, fun l hl => ?_⟩
    have s1 : Same H (upd H l (.lst [])) := Same.new hl
    have el0 : upd H l (.lst []) l = some (.lst []) := upd_same
    generalize upd H l (.lst []) = H1 at s1 el0 ⊢
    refine ⟨(by show 6 ≤ sizeLine; decide), fun st hst => ?_⟩
    have s2 : Same H1 (upd H1 st (.tup [.int 0, .int 1, .int 1, .int 2, .int 1, .int 7])) := Same.new hst
    have est : upd H1 st (.tup [.int 0, .int 1, .int 1, .int 2, .int 1, .int 7]) st = some (.tup (([0, 1, 1, 2, 1, 7] : List Int).map V.int)) := upd_same
    generalize upd H1 st (.tup [.int 0, .int 1, .int 1, .int 2, .int 1, .int 7]) = H2 at s2 est ⊢
    dsimp only [gName]
    refine seq_mid (fun σ' H' => ∃ (st : Addr) (ss : List Int), σ' = [some (.ref cl), some (.int road), some (.ref l), some (.ref st), none, none, none, none, none] ∧ Same H1 H' ∧ H' st = some (.tup (ss.map V.int)) ∧ 0 < ss.length ∧ ss.length ≤ 10 ∧ ∀ x ∈ ss, 0 ≤ x) ?snd ?fst
    case fst =>
      intro hk
      refine ⟨_, rfl, cl, _, rfl, .inl (SqL.of (s2 _ _ (s1 _ _ ecl))), _, _, rfl, rfl, _, rfl, ite2 (fun _ => ?_) (fun _ => ?_)⟩
      · refine ⟨(by show 10 ≤ sizeLine; decide), fun st2 hst2 => ?_⟩
        exact hk _ _ ⟨st2, [0, 0, 0, 1, 0, 0, 1, 0, 0, 4], rfl, s2.put (s2.free hst2), upd_same, by decide, by decide, by decide⟩
      · exact hk _ _ ⟨st, [0, 1, 1, 2, 1, 7], rfl, s2, est, by decide, by decide, by decide⟩
    case snd =>
      clear est s2 hst
      rintro σ' H2 ⟨st, ss, rfl, s2, est, ss0, ss1, ssp⟩
      refine ⟨_, rfl, cl, rfl, ⟨_, SqL.of (s2 _ _ (s1 _ _ ecl))⟩, ?_⟩
      have hlst : st ≠ l := fun z => by rw [z, s2 _ _ el0] at est; cases est
      refine for_list (K := K) (a := cl) (xs := cs.map V.int) (fun i σ H3 => ∃ (rd : Int) (xs : List V) (ts : List Tri) (v4 v5 v6 v7 v8 : Option V), σ = [some (.ref cl), some (.int rd), some (.ref l), some (.ref st), v4, v5, v6, v7, v8] ∧ Same H H3 ∧ H3 l = some (.lst xs) ∧ Trs H3 xs ts ∧ TabOk ts ∧ Bk ts ∧ ts.length = i ∧ (0 ≤ rd ∧ rd < 30) ∧ H3 st = some (.tup (ss.map V.int)))
        ⟨road, [], [], none, none, none, none, none, rfl, s1.trans s2, s2 _ _ el0, .nil, TabOk.nil, fun i r h => by simp at h, rfl, ⟨hr0, hr1⟩, est⟩ (fun i σ H3 _ ⟨_, _, _, _, _, _, _, _, _, s3, _⟩ => SqL.of (s3 _ _ ecl)) ?_ ?_
      · rintro i x σ H3 hxi ⟨rd, xs, ts, v4, v5, v6, v7, v8, rfl, s3, el, tr, T, bk, hti, hrd, est3⟩
        obtain ⟨z, rfl, hz⟩ := ints_get hxi
        have hi : i < cs.length := (List.getElem?_eq_some_iff.mp hz).1
        have hxl := tr.len
        dsimp only [gName]
        -- road
        refine seq_mid (fun σ' H' => ∃ rd : Int, σ' = [some (.ref cl), some (.int rd), some (.ref l), some (.ref st), some (.int z), v5, v6, v7, v8] ∧ H' = H3 ∧ 0 ≤ rd ∧ rd < 30) ?rs ?rf
        case rf =>
          intro hk
          have hmod0 : 0 ≤ z % (ss.length : Int) := Int.emod_nonneg _ (by omega)
          have hmod1 : z % (ss.length : Int) < (ss.length : Int) := Int.emod_lt_of_pos _ (by omega)
          refine ⟨_, rfl, _, rfl, _, rfl, _, rfl, st, _, rfl, .inr (SqT.of est3), _, _, rfl, rfl, (by show (0 : Int) < ((ss.map V.int).length : Int); rw [List.length_map]; omega), st, _, _, _, rfl, rfl, SqT.of est3, (by rw [List.length_map]; exact at_int hmod0 hmod1), _, _, rfl, rfl, _, _, rfl, ?_⟩
          refine hk _ _ ⟨_, rfl, rfl, ?_⟩
          have hp := ssp _ (getD_mem (ns := ss) (i := (z % (ss.length : Int)).toNat) (by omega))
          split <;> omega
        case rs =>
          clear hrd
          rintro σ' H' ⟨rd, rfl, rfl, hrd0, hrd1⟩
          -- free
          refine ⟨two_le, fun p hp => ?_⟩
          have s4 : Same H' (upd H' p (.lst [.int 0, .int 1])) := Same.new hp
          have ep : upd H' p (.lst [.int 0, .int 1]) p = some (.lst [.int 0, .int 1]) := upd_same
          generalize upd H' p (.lst [.int 0, .int 1]) = H4 at s4 ep ⊢
          refine ⟨_, rfl, l, xs, rfl, .inl (SqL.of (s4 _ _ el)), _, rfl, by omega, by omega, fun D hD => ?_⟩
          rw [Int.toNat_natCast]
          refine comp_range (lo := 0) (n := xs.length) (fun j ys H5 => Same H4 H5 ∧ H5 D = some (.lst ys) ∧ ∃ fs : List Int, ys = fs.map V.int ∧ fs.length ≤ j ∧ ∀ x ∈ fs, At ts x rd) ⟨Same.new hD, upd_same, [], rfl, Nat.le_refl _, fun x hx => (by cases hx)⟩ ?_ ?_
          · rintro j ys H5 hj ⟨s5, eD, fs, rfl, fl, fa⟩
            rw [show (0 : Int) + (j : Int) = (j : Int) by omega]
            have tr5 := (tr.same s4).same s5
            have hjt : j < ts.length := by omega
            obtain ⟨t, et1, et2⟩ := tr5.at (List.getElem?_eq_getElem hjt)
            refine ⟨⟨rfl, rfl, trivial⟩, ?_⟩
            refine ⟨_, rfl, _, rfl, l, _, _, _, rfl, rfl, SqL.of (s5 _ _ (s4 _ _ el)), atI_nat et1, t, _, _, _, rfl, rfl, SqT.of et2, atI_nat (j := 0) rfl, _, rfl, _, _, rfl, rfl, _, rfl, ite2 (fun c1 => ?_) (fun _ => ⟨s5, eD, fs, rfl, by omega, fa⟩)⟩
            have c1' : rd < ts[j].1 := of_decide_eq_true c1
            refine ⟨_, rfl, _, _, rfl, rfl, eD, by rw [List.length_map]; omega, s5.put hD, upd_same, fs ++ [(j : Int) + 2], by rw [List.map_append]; rfl, by rw [List.length_append, List.length_singleton]; omega, fun x hx => ?_⟩
            rcases List.mem_append.mp hx with h | h
            · exact fa x h
            · rw [List.mem_singleton] at h
              subst h
              refine .inr (.inr ⟨ts[j], ⟨by omega, ?_⟩, c1'⟩)
              rw [show ((j : Int) + 2 - 2).toNat = j by omega]
              exact List.getElem?_eq_getElem hjt
          · rintro ys H5 ⟨s5, eD, fs, rfl, fl, fa⟩
            refine ⟨p, D, _, _, rfl, rfl, s5 _ _ ep, eD, by rw [List.length_map]; show 2 + _ ≤ _; omega, fun pn hpn => ?_⟩
            have S5 := s4.trans s5
            have s6 := S5.put (o := .lst ([.int 0, .int 1] ++ fs.map V.int)) (S5.free hpn)
            have epn : upd H5 pn (.lst ([.int 0, .int 1] ++ fs.map V.int)) pn = some (.lst ((0 :: 1 :: fs).map V.int)) := upd_same
            generalize upd H5 pn (.lst ([.int 0, .int 1] ++ fs.map V.int)) = H6 at s6 epn ⊢
            have hfa : ∀ x ∈ (0 :: 1 :: fs : List Int), At ts x rd := fun x hx => by
              rcases List.mem_cons.mp hx with h | h
              · exact .inl h
              rcases List.mem_cons.mp h with h | h
              · exact .inr (.inl h)
              · exact fa x h
            have hfl : (0 :: 1 :: fs : List Int).length = fs.length + 2 := rfl
            generalize (0 :: 1 :: fs : List Int) = gs at epn hfa hfl ⊢
            -- many
            dsimp only [gName]
            refine seq_mid (fun σ' H7 => ∃ N : Nat, σ' = [some (.ref cl), some (.int rd), some (.ref l), some (.ref st), some (.int z), some (.ref pn), some (.int (N : Int)), v7, v8] ∧ H7 = H6 ∧ N = gs.length) ?ms ?mf
            case mf =>
              intro hk
              refine ⟨_, rfl, pn, _, rfl, .inl (SqL.of epn), ?_⟩
              exact hk _ _ ⟨_, rfl, rfl, List.length_map _⟩
            case ms =>
              rintro σ' H7 ⟨N, rfl, rfl, hN⟩
              have m0 : 0 ≤ z / 10 % (N : Int) := Int.emod_nonneg _ (by omega)
              have m1 : z / 10 % (N : Int) < (N : Int) := Int.emod_lt_of_pos _ (by omega)
              refine ⟨_, rfl, _, rfl, _, _, rfl, rfl, _, rfl, _, _, rfl, rfl, ⟨by decide, lt2_lit⟩, _, rfl, _, _, rfl, rfl, (by show (0 : Int) < (N : Int); omega), _, _, rfl, rfl, pn, _, _, _, rfl, rfl, SqL.of epn, at_int (by omega) (by omega), ?_⟩
              have n0 : 0 ≤ z / 10 / (N : Int) % ((N : Int) - 1) := Int.emod_nonneg _ (by omega)
              have n1 : z / 10 / (N : Int) % ((N : Int) - 1) < (N : Int) - 1 := Int.emod_lt_of_pos _ (by omega)
              refine ⟨_, rfl, _, rfl, _, _, rfl, rfl, _, rfl, _, _, rfl, rfl, ⟨by decide, lt2_lit⟩, _, rfl, _, _, rfl, rfl, ⟨(by show (0 : Int) < (N : Int); omega), lt2_n (by omega)⟩, _, rfl, _, _, rfl, rfl, _, _, rfl, rfl, (by show (0 : Int) < (N : Int) - 1; omega), _, _, rfl, rfl, pn, _, _, _, rfl, rfl, SqL.of epn, at_int (by omega) (by omega), ?_⟩
              have a1 := hfa _ (getD_mem (ns := gs) (i := ((N : Int) - 1 - z / 10 % (N : Int)).toNat) (by omega))
              have a2 := hfa _ (getD_mem (ns := gs) (i := ((N : Int) - 1 - z / 10 / (N : Int) % ((N : Int) - 1)).toNat) (by omega))
              generalize gs.getD ((N : Int) - 1 - z / 10 % (N : Int)).toNat 0 = low at a1 ⊢
              generalize gs.getD ((N : Int) - 1 - z / 10 / (N : Int) % ((N : Int) - 1)).toNat 0 = high at a2 ⊢
              refine ⟨_, rfl, .inl ⟨rfl, _, SqL.of (s6 _ _ el)⟩, _, rfl, _, rfl, _, rfl, (by show 3 ≤ sizeLine; decide), fun t ht => ?_⟩
              have s7 := s6.put (o := .tup [.int rd, .int low, .int high]) (s6.free ht)
              have et : upd H7 t (.tup [.int rd, .int low, .int high]) t = some (.tup [.int rd, .int low, .int high]) := upd_same
              generalize upd H7 t (.tup [.int rd, .int low, .int high]) = H8 at s7 et ⊢
              refine ⟨l, xs, _, rfl, rfl, s7 _ _ el, by omega, ?_⟩
              have k8 := tups_lst (o := .lst (xs ++ [.ref t])) (s7 _ _ el)
              refine ⟨rd, xs ++ [.ref t], ts ++ [(rd, low, high)], _, _, _, _, _, rfl, ((s3.trans s7).put hl), upd_same, ?_, T.snoc ⟨hrd0, hrd1⟩ a1 a2, bk.snoc a1.lt.2 a2.lt.2, by rw [List.length_append, List.length_singleton, hti], ⟨hrd0, hrd1⟩, k8 _ _ (s7 _ _ est3)⟩
              exact ((tr.same s7).keep k8).snoc (k8 _ _ et)
      · rintro σ H3 ⟨rd, xs, ts, v4, v5, v6, v7, v8, rfl, s3, el, tr, T, bk, hti, hrd, est3⟩
        rw [List.length_map] at hti
        exact ⟨_, rfl, q l xs ts H3 s3 hl el tr T bk hti⟩
end
end M
namespace M
open PySem L2
section
variable {P : Program} {w : World} {K : PySem.W.Frag} {mg : Str → Option Value} {base : Heap}
theorem tups_dK {H : Hp} {l : Addr} {zs : List (Key × V)} {o : HO} (h : H l = some (.dK zs)) : ∀ p ys, H p = some (.tup ys) → upd H l o p = some (.tup ys) := fun p ys e => upd_eq e (ne_of e h (fun z => by cases z))
theorem tups_dT {H : Hp} {l : Addr} {zs : List (List Key × V)} {o : HO} (h : H l = some (.dT zs)) : ∀ p ys, H p = some (.tup ys) → upd H l o p = some (.tup ys) := fun p ys e => upd_eq e (ne_of e h (fun z => by cases z))
/-- a table told -/
def Told (H : Hp) (n : Nat) (Q : VK) : Prop := ∀ (p l : Addr) (root : Int) (xs : List V) (us : List Tri) (H' : Hp), Same H H' → H p = none → H l = none → TabAt H' p l root xs us → TabOk us → At us root (-1) → us.length ≤ n → Q (.ref p) H'
theorem Told.same {H H1 : Hp} {m : Nat} {Q : VK} (h : Told H m Q) (s : Same H H1) : Told H1 m Q := fun p l root xs us H' s' hp hl W T a n => h p l root xs us H' (s.trans s') (s.free hp) (s.free hl) W T a n
/-! ### _law_in_order -/
/-- a table told in the order of finding -/
def Told2 (H : Hp) (ks : List Tri) (root : Int) (Q : VK) : Prop := ∀ (p l : Addr) (a0 : Int) (xs : List V) (us : List Tri) (fs : List Int) (H' : Hp), Same H H' → H p = none → H l = none → TabAt H' p l a0 xs us → Rch ks root fs → Fin ks root fs → fs.Nodup → (∀ x ∈ fs, ∃ r, Nd ks x r) → Said ks fs us fs.length → us.length = fs.length → fs.length ≤ ks.length → numI fs root = some a0 → Q (.ref p) H'
theorem Told.two {H : Hp} {n : Nat} {Q : VK} {ks : List Tri} {root : Int} (h : Told H n Q) (T : TabOk ks) (hn : ks.length ≤ n) (ar : At ks root (-1)) : Told2 H ks root Q := fun p l a0 xs us fs H' s hp hl W R Fi nd nod S hus hle h0 => h p l a0 xs us H' s hp hl W (S.tab T hus) (S.at ar h0) (by omega)
def spIno : Sp := fun vs H Q _ => ∃ (l : Addr) (root : Int) (xs : List V) (ks : List Tri), vs = [.int root, .ref l] ∧ H l = some (.lst xs) ∧ Trs H xs ks ∧ TabOk ks ∧ ks.length ≤ 70 ∧ At ks root (-1) ∧ Told2 H ks root Q
theorem scIno : FnScope ["root", "nodes", "found", "numbers", "k", "one", "said", "road", "low", "high"] ["root", "nodes"] (defScope sIno) := ⟨rfl, rfl, rfl, by decide +kernel, rfl, by decide +kernel, by decide +kernel⟩
theorem num0 (n : Int) : valV (mergeK [] [(Sum.inl 0, .int 0), (Sum.inl 1, .int 1)] : List (Key × V)) (.inl n) = (numI [] n).map V.int := by
  show valV (putK (putK [] (Sum.inl 0) (.int 0)) (Sum.inl 1) (.int 1) : List (Key × V)) (.inl n) = _
  rw [valV_put, valV_put]
  unfold numI
  by_cases h1 : n = 1
  · subst h1
    rfl
  · rw [if_neg (fun z => h1 (Sum.inl.inj z))]
    by_cases h0 : n = 0
    · subst h0
      rfl
    · rw [if_neg (fun z => h0 (Sum.inl.inj z)), if_neg h0, if_neg h1]
      rfl
theorem ok_ino {f : Addr} {fd : FuncData} (F : Fun K "_law_in_order" "_law_in_order" sIno f fd) (mLen : mg "len" = none) : FnOk P w K mg base CX0 1 f fd ["root", "nodes"] spIno := by
  refine F.ok scIno (fun vs H Q E h => ?_) (fun cdv A outer s H vs Q E hr h => ?_)
  · obtain ⟨_, _, _, _, rfl, _⟩ := h
    rfl
  · obtain ⟨l, root, xs, ks, rfl, el, tr, T, hks, ar, q⟩ := h
    have h16 : (16777216 : Nat) = sizeLine := sizeLine_eq.symm
    have hu1 : (A.deeper (PyProof.Rows.envOfC "_law_in_order" (defScope sIno) s.heap.objs.size f cdv)).units + 1 < cLine := by have := hr.un; omega
    refine ⟨_, pss_cons (ps_set (i := 2) scIno.nd rfl (Or.inl rfl) (pe_lst pa_nil))
       (pss_cons (ps_set (i := 3) scIno.nd rfl (Or.inl rfl) (pe_disp (pps_cons pe_int pe_int (pps_cons pe_int pe_int pps_nil)) rfl rfl (by decide) (by decide)))
       (pss_cons (ps_if (pt_cmpR op_gt (pv 0) pe_int (nomark _)) (pss_cons (ps_expr (pe_bm PySem.F.plainAttrs_list PySem.F.slot_list_append PySem.F.type_list_append mt_append (pv 2) (pa_cons (pv 0) pa_nil)))
       (pss_one (ps_dput hu1 (pv 3) (pv 0) pe_int rfl))) pss_nil)
       (pss_cons (ps_set (i := 4) scIno.nd rfl (Or.inl rfl) pe_int)
       (pss_cons (ps_while PassesOwn.never (pt_cmpR op_lt (pv 4) (pe_callB (kLen K) rfl mLen PySem.boot_len (pa_cons (pv 2) pa_nil)) (nomark _))
       (pss_cons (ps_for PassesOwn.never rfl (kTupI K (pe_slice (kSlT K) (pe_ix (kIxL K) (pv 1) (pe_op op_sub (pe_ix (kIxL K) (pv 2) (pv 4) (fun _ _ => rfl)) pe_int) (fun _ _ => rfl)) (po_some pe_int) po_none)) (pg_name (i := 5) scIno.nd rfl (Or.inl rfl))
       (pss_one (ps_if (pt_cmp (pc_dnotin hu1 (pv 5) (pv 3)) rfl) (pss_cons (ps_expr (pe_bm PySem.F.plainAttrs_list PySem.F.slot_list_append PySem.F.type_list_append mt_append (pv 2) (pa_cons (pv 5) pa_nil)))
       (pss_one (ps_dput hu1 (pv 3) (pv 5) (pe_op op_add (pe_callB (kLen K) rfl mLen PySem.boot_len (pa_cons (pv 2) pa_nil)) pe_int) rfl))) pss_nil)))
       (pss_one (ps_set (i := 4) scIno.nd rfl (Or.inl rfl) (pe_op op_add (pv 4) pe_int)))))
       (pss_cons (ps_set (i := 6) scIno.nd rfl (Or.inl rfl) (pe_lst pa_nil))
       (pss_cons (ps_for PassesOwn.never rfl (kList K (pv 2)) (pg_name (i := 5) scIno.nd rfl (Or.inl rfl))
       (pss_cons (ps_asg (pe_ix (kIxL K) (pv 1) (pe_op op_sub (pv 5) pe_int) (fun _ _ => rfl)) (kTup K (n := 3) rfl (pgs_cons (pg_name (i := 7) scIno.nd rfl (Or.inl rfl)) (pgs_cons (pg_name (i := 8) scIno.nd rfl (Or.inl rfl)) (pgs_cons (pg_name (i := 9) scIno.nd rfl (Or.inl rfl)) pgs_nil)))))
       (pss_one (ps_expr (pe_bm PySem.F.plainAttrs_list PySem.F.slot_list_append PySem.F.type_list_append mt_append (pv 6) (pa_cons (pe_tup (pa_cons (pv 7) (pa_cons (pe_dget hu1 (pv 3) (pv 8) (fun _ _ => rfl)) (pa_cons (pe_dget hu1 (pv 3) (pv 9) (fun _ _ => rfl)) pa_nil)))) pa_nil))))))
       (pss_one (ps_ret (pe_tup (pa_cons (pe_dget hu1 (pv 3) (pv 0) (fun _ _ => rfl)) (pa_cons (pv 6) pa_nil))))))))))), ?_⟩
    refine ⟨Nat.zero_le _, fun fl hfl => ?_⟩
    have s1 : Same H (upd H fl (.lst [])) := Same.new hfl
    have efl : upd H fl (.lst []) fl = some (.lst []) := upd_same
    generalize upd H fl (.lst []) = H1 at s1 efl ⊢
    intro d hd
    refine ⟨upd_same, [(.inl 0, .int 0), (.inl 1, .int 1)], rfl, by decide, ?_⟩
    have s2 : Same H1 (upd (upd H1 d (.dK [])) d (.dK (mergeK [] [(.inl 0, .int 0), (.inl 1, .int 1)]))) := (Same.new hd).put hd
    have ed : upd (upd H1 d (.dK [])) d (.dK (mergeK [] [(.inl 0, .int 0), (.inl 1, .int 1)])) d = some (.dK (mergeK [] [(.inl 0, .int 0), (.inl 1, .int 1)])) := upd_same
    generalize upd (upd H1 d (.dK [])) d (.dK (mergeK [] [(.inl 0, .int 0), (.inl 1, .int 1)])) = H2 at s2 ed ⊢
    have hHd : H d = none := s1.free hd
    have hfd : fl ≠ d := ne_of_none efl hd
    have F0 : Fnd ks root [] (mergeK [] [(Sum.inl 0, .int 0), (Sum.inl 1, .int 1)]) 0 := ⟨num0, List.nodup_nil, fun x hx => (by cases hx), Nat.le_refl _, fun i hi => absurd hi (Nat.not_lt_zero _), by decide⟩
    dsimp only [gName]
    -- the root
    refine seq_mid (fun σ' H' => ∃ (fs : List Int) (kvs : List (Key × V)), σ' = [some (.int root), some (.ref l), some (.ref fl), some (.ref d), none, none, none, none, none, none] ∧ Same H H' ∧ H' fl = some (.lst (fs.map V.int)) ∧ H' d = some (.dK kvs) ∧ Fnd ks root fs kvs 0 ∧ (numI fs root).isSome ∧ Rch ks root fs) ?snd ?fst
    case fst =>
      intro hk
      refine ⟨_, rfl, _, _, rfl, rfl, _, rfl, ite2 (fun c1 => ?_) (fun c1 => ?_)⟩
      · have c1' : 1 < root := of_decide_eq_true c1
        obtain ⟨r, n, _⟩ := ar.nd c1'
        refine ⟨_, rfl, .inl ⟨rfl, _, SqL.of (s2 _ _ efl)⟩, _, rfl, fl, _, _, rfl, rfl, s2 _ _ efl, by decide, ?_⟩
        refine ⟨_, rfl, _, rfl, d, _, rfl, DPut.k (k := .inl root) (upd_eq ed (Ne.symm hfd)) (by show 2 < sizeLine; decide), ?_⟩
        have hn : numI [] root = none := by
          unfold numI
          rw [if_neg (by omega), if_neg (by omega)]
          rfl
        refine hk _ _ ⟨[root], _, rfl, ((s1.trans s2).put hfl).put hHd, upd_eq upd_same hfd, upd_same, F0.add hn n rfl, ?_, Rch.snoc (f := []) .nil ⟨[], [], rfl, New.num.mpr hn, fun y hy => (by cases hy)⟩⟩
        show (numI ([] ++ [root]) root).isSome = true
        rw [numI_app [] root root hn, if_pos rfl]
        rfl
      · have c1' : ¬ 1 < root := fun z => c1 (decide_eq_true z)
        have h0 := ar.lt
        refine hk _ _ ⟨[], _, rfl, s1.trans s2, s2 _ _ efl, ed, F0, ?_, .nil⟩
        have hc : root = 0 ∨ root = 1 := by omega
        rcases hc with rfl | rfl
        · rw [numI_zero]; rfl
        · rw [numI_one]; rfl
    case snd =>
      clear efl ed F0 s1 s2 hd
      rintro σ' H2 ⟨fs, kvs, rfl, s2, efl, ed, F0, hrt, rch⟩
      -- k = 0
      refine seq_mid (fun σ' H' => σ' = [some (.int root), some (.ref l), some (.ref fl), some (.ref d), some (.int 0), none, none, none, none, none] ∧ H' = H2) ?k0 (fun hk => hk _ _ ⟨rfl, rfl⟩)
      rintro σ' H' ⟨rfl, rfl⟩
      -- the while
      refine seq_mid (fun σ' H' => ∃ (k : Int) (fs : List Int) (kvs : List (Key × V)) (v5 : Option V), σ' = [some (.int root), some (.ref l), some (.ref fl), some (.ref d), some (.int k), v5, none, none, none, none] ∧ Same H H' ∧ H' fl = some (.lst (fs.map V.int)) ∧ H' d = some (.dK kvs) ∧ Fnd ks root fs kvs fs.length ∧ (numI fs root).isSome ∧ Rch ks root fs) ?after ?loop
      case loop =>
        intro hk
        refine ⟨fun m σ' H' => ∃ (k : Nat) (fs : List Int) (kvs : List (Key × V)) (v5 : Option V), σ' = [some (.int root), some (.ref l), some (.ref fl), some (.ref d), some (.int (k : Int)), v5, none, none, none, none] ∧ Same H H' ∧ H' fl = some (.lst (fs.map V.int)) ∧ H' d = some (.dK kvs) ∧ Fnd ks root fs kvs k ∧ (numI fs root).isSome ∧ Rch ks root fs ∧ m = ks.length - k, ⟨ks.length - 0, 0, fs, kvs, none, rfl, s2, efl, ed, F0, hrt, rch, rfl⟩, ?_⟩
        clear efl ed F0 s2 hrt rch
        rintro m σ' H2 ⟨k, fs, kvs, v5, rfl, s2, efl, ed, F0, hrt, rch, rfl⟩
        have hle := F0.le
        refine ⟨_, rfl, _, rfl, fl, _, rfl, .inl (SqL.of efl), _, _, rfl, rfl, _, rfl, ite2 (fun c1 => ?_) (fun c1 => ?_)⟩
        · have c1' : (k : Int) < ((fs.map V.int).length : Int) := of_decide_eq_true c1
          rw [List.length_map] at c1'
          have hkl : k < fs.length := by omega
          have hx : fs[k]? = some fs[k] := List.getElem?_eq_getElem hkl
          generalize fs[k] = x at hx
          obtain ⟨r, n⟩ := F0.nod x (List.mem_of_getElem? hx)
          obtain ⟨t, et1, et2⟩ := node_at (tr.same s2) n
          obtain ⟨hT0, hT1, hT2⟩ := T.nd n
          refine ⟨_, fun _ _ h => h, ?_⟩
          refine ⟨_, rfl, _, rfl, _, rfl, fl, _, _, _, rfl, rfl, SqL.of efl, atI_nat (j := k) (v := .int x) (by rw [List.getElem?_map, hx]; rfl), _, _, rfl, rfl, l, _, _, _, rfl, rfl, SqL.of (s2 _ _ el), et1, _, rfl, t, _, rfl, SqT.of et2, (fun z => by have := z.1; simp [HT.sIx] at this), fun ps hps => ?_⟩
          have s3 : Same H2 (upd H2 ps (.tup (cutV [.int r.1, .int r.2.1, .int r.2.2] (some 1) none))) := Same.new hps
          have eps : upd H2 ps (.tup (cutV [.int r.1, .int r.2.1, .int r.2.2] (some 1) none)) ps = some (.tup [.int r.2.1, .int r.2.2]) := upd_same
          generalize upd H2 ps (.tup (cutV [.int r.1, .int r.2.1, .int r.2.2] (some 1) none)) = H3 at s3 eps ⊢
          refine ⟨ps, rfl, ⟨_, SqT.of eps⟩, ?_⟩
          have hmem : ∀ (i : Nat) (y : V), ([.int r.2.1, .int r.2.2] : List V)[i]? = some y → ∃ c, y = .int c ∧ At ks c r.1 := by
            intro i y e
            match i, e with
            | 0, e => simp at e; exact ⟨_, e.symm, hT1⟩
            | 1, e => simp at e; exact ⟨_, e.symm, hT2⟩
          refine for_tup (K := K) (a := ps) (xs := [.int r.2.1, .int r.2.2]) (fun i σ' H' => ∃ (fs' : List Int) (kvs' : List (Key × V)) (v5 : Option V), σ' = [some (.int root), some (.ref l), some (.ref fl), some (.ref d), some (.int (k : Int)), v5, none, none, none, none] ∧ Same H H' ∧ H' fl = some (.lst (fs'.map V.int)) ∧ H' d = some (.dK kvs') ∧ H' ps = some (.tup [.int r.2.1, .int r.2.2]) ∧ Fnd ks root fs' kvs' k ∧ (numI fs' root).isSome ∧ Rch ks root fs' ∧ fs'[k]? = some x ∧ ∀ (j : Nat) (c : Int), j < i → ([.int r.2.1, .int r.2.2] : List V)[j]? = some (.int c) → (numI fs' c).isSome)
            ⟨fs, kvs, v5, rfl, s2.trans s3, s3 _ _ efl, s3 _ _ ed, eps, F0, hrt, rch, hx, fun j c hj => absurd hj (Nat.not_lt_zero _)⟩ (fun i σ' H' _ ⟨_, _, _, _, _, _, _, e, _⟩ => SqT.of e) ?_ ?_
          · clear efl ed eps F0 hrt rch hx s3 hle c1 c1' hkl
            rintro i y σ' H4 hy ⟨fs', kvs', v5', rfl, s4, efl, ed, eps, F1, hrt, rch, hx, hch⟩
            obtain ⟨c, rfl, ac⟩ := hmem i y hy
            have hle := F1.le
            refine ⟨_, rfl, _, rfl, d, _, rfl, DGet.k (k := .inl c) ed, _, rfl, ?_⟩
            rw [F1.num c]
            cases hc : numI fs' c with
            | some a =>
              refine iteF ?_
              refine ⟨fs', kvs', _, rfl, s4, efl, ed, eps, F1, hrt, rch, hx, fun j c' hj hc' => ?_⟩
              by_cases h : j < i
              · exact hch j c' h hc'
              · have : j = i := by omega
                subst this
                rw [hy] at hc'
                cases hc'
                rw [hc]; rfl
            | none =>
              refine iteT ?_
              obtain ⟨h0, h1, _⟩ := numI_none hc
              obtain ⟨rc, nc, _⟩ := ac.nd (by have := ac.lt; omega)
              refine ⟨_, rfl, .inl ⟨rfl, _, SqL.of efl⟩, _, rfl, fl, _, _, rfl, rfl, efl, by rw [List.length_map]; omega, ?_⟩
              have efl5 : upd H4 fl (.lst (fs'.map V.int ++ [.int c])) fl = some (.lst ((fs' ++ [c]).map V.int)) := by rw [upd_same, List.map_append]; rfl
              have ed5 : upd H4 fl (.lst (fs'.map V.int ++ [.int c])) d = some (.dK kvs') := upd_eq ed (Ne.symm hfd)
              have eps5 := (tups_lst (o := .lst (fs'.map V.int ++ [.int c])) efl) _ _ eps
              have s5 : Same H (upd H4 fl (.lst (fs'.map V.int ++ [.int c]))) := s4.put hfl
              generalize upd H4 fl (.lst (fs'.map V.int ++ [.int c])) = H5 at efl5 ed5 eps5 s5 ⊢
              have hkl5 := F1.kl
              refine ⟨_, rfl, fl, _, rfl, .inl (SqL.of efl5), _, _, rfl, rfl, _, rfl, _, rfl, d, _, rfl, DPut.k (k := .inl c) ed5 (by omega), ?_⟩
              have hv : (((fs' ++ [c]).map V.int).length : Int) + 1 = (fs'.length : Int) + 2 := by
                rw [List.length_map, List.length_append, List.length_singleton]
                push_cast
                omega
              have ex : Ext ks root fs' c := by
                match i, hy with
                | 0, hy =>
                  simp at hy
                  subst hy
                  exact F1.ext hrt hx n (pre := []) (post := [r.2.2]) rfl (fun y hy => by cases hy) hc
                | 1, hy =>
                  simp at hy
                  subst hy
                  exact F1.ext hrt hx n (pre := [r.2.1]) (post := []) rfl (fun y hy => by rw [List.mem_singleton] at hy; subst hy; exact hch 0 _ (by decide) rfl) hc
              refine ⟨fs' ++ [c], _, _, rfl, s5.put hHd, upd_eq efl5 hfd, upd_same, (tups_dK ed5) _ _ eps5, F1.add hc nc hv, some_mono hc hrt, .snoc rch ex, ?_, fun j c' hj hc' => ?_⟩
              · rw [List.getElem?_append_left (List.getElem?_eq_some_iff.mp hx).1]
                exact hx
              · by_cases h : j < i
                · exact some_mono hc (hch j c' h hc')
                · have : j = i := by omega
                  subst this
                  rw [hy] at hc'
                  cases hc'
                  rw [numI_app fs' c c hc, if_pos rfl]
                  rfl
          · clear efl ed eps F0 hrt rch s3
            rintro σ' H4 ⟨fs', kvs', v5', rfl, s4, efl, ed, eps, F1, hrt, rch, hx', hch⟩
            refine ⟨_, rfl, _, _, rfl, rfl, ?_⟩
            have F2 := F1.next hx' n (hch 0 r.2.1 (show 0 < 2 by decide) rfl) (hch 1 r.2.2 (show 1 < 2 by decide) rfl)
            have hl2 := F2.le
            have hk2 := F2.kle
            exact ⟨ks.length - (k + 1), by omega, k + 1, fs', kvs', _, rfl, s4, efl, ed, F2, hrt, rch, rfl⟩
        · have c1' : ¬ ((k : Int) < ((fs.map V.int).length : Int)) := fun z => c1 (decide_eq_true z)
          rw [List.length_map] at c1'
          have hk' : k = fs.length := by
            have := F0.kle
            omega
          subst hk'
          exact hk _ _ ⟨_, fs, kvs, _, rfl, s2, efl, ed, F0, hrt, rch⟩
      case after =>
        clear efl ed F0 s2 hrt rch
        rintro σ' Hw ⟨k, fs, kvs, v5, rfl, s2, efl, ed, F0, hrt, rch⟩
        have hle := F0.le
        refine ⟨Nat.zero_le _, fun sl hsl => ?_⟩
        have s3 : Same Hw (upd Hw sl (.lst [])) := Same.new hsl
        refine ⟨_, rfl, fl, rfl, ⟨_, SqL.of (s3 _ _ efl)⟩, ?_⟩
        refine for_list (K := K) (a := fl) (xs := fs.map V.int) (fun i σ' H' => ∃ (ys : List V) (us : List Tri) (v5 v7 v8 v9 : Option V), σ' = [some (.int root), some (.ref l), some (.ref fl), some (.ref d), some (.int k), v5, some (.ref sl), v7, v8, v9] ∧ Same Hw H' ∧ H' sl = some (.lst ys) ∧ Trs H' ys us ∧ us.length = i ∧ Said ks fs us i)
          ⟨[], [], _, none, none, none, rfl, s3, upd_same, .nil, rfl, fun j x hj => absurd hj (Nat.not_lt_zero _)⟩ (fun i σ' H' _ ⟨_, _, _, _, _, _, _, s4, _⟩ => SqL.of (s4 _ _ efl)) ?_ ?_
        · rintro i y σ' H4 hy ⟨ys, us, v5, v7, v8, v9, rfl, s4, esl, tus, hus, S⟩
          obtain ⟨x, rfl, hx⟩ := ints_get hy
          have hi : i < fs.length := (List.getElem?_eq_some_iff.mp hx).1
          obtain ⟨r, n⟩ := F0.nod x (List.mem_of_getElem? hx)
          obtain ⟨t, et1, et2⟩ := node_at (tr.same (s2.trans s4)) n
          obtain ⟨i1, i2⟩ := F0.cl i hi x r hx n
          obtain ⟨a1, ha1⟩ := Option.isSome_iff_exists.mp i1
          obtain ⟨a2, ha2⟩ := Option.isSome_iff_exists.mp i2
          have g1 : valV kvs (.inl r.2.1) = some (.int a1) := by rw [F0.num, ha1]; rfl
          have g2 : valV kvs (.inl r.2.2) = some (.int a2) := by rw [F0.num, ha2]; rfl
          have ed4 := s4 _ _ ed
          have hyl := tus.len
          refine ⟨_, rfl, _, rfl, _, _, rfl, rfl, l, _, _, _, rfl, rfl, SqL.of ((s2.trans s4) _ _ el), et1, t, _, rfl, SqT.of et2, rfl, _, _, rfl, _, _, rfl, _, _, rfl, rfl, ?_⟩
          refine ⟨_, rfl, .inl ⟨rfl, _, SqL.of esl⟩, _, rfl, _, rfl, _, rfl, d, _, rfl, g1 ▸ DGet.k (k := .inl r.2.1) ed4, _, rfl, _, rfl, d, _, rfl, g2 ▸ DGet.k (k := .inl r.2.2) ed4, (by show 3 ≤ sizeLine; decide), fun t5 ht5 => ?_⟩
          have s5 : Same H4 (upd H4 t5 (.tup [.int r.1, .int a1, .int a2])) := Same.new ht5
          have et5 : upd H4 t5 (.tup [.int r.1, .int a1, .int a2]) t5 = some (.tup [.int r.1, .int a1, .int a2]) := upd_same
          generalize upd H4 t5 (.tup [.int r.1, .int a1, .int a2]) = H5 at s5 et5 ⊢
          refine ⟨sl, ys, _, rfl, rfl, s5 _ _ esl, by omega, ?_⟩
          have k5 := tups_lst (o := .lst (ys ++ [.ref t5])) (s5 _ _ esl)
          exact ⟨ys ++ [.ref t5], us ++ [(r.1, a1, a2)], _, _, _, _, rfl, (s4.trans s5).put hsl, upd_same, ((tus.same s5).keep k5).snoc (k5 _ _ et5), by rw [List.length_append, List.length_singleton, hus], S.snoc hus hx n ha1 ha2⟩
        · rintro σ' H4 ⟨ys, us, v5, v7, v8, v9, rfl, s4, esl, tus, hus, S⟩
          rw [List.length_map] at hus S
          obtain ⟨a0, ha0⟩ := Option.isSome_iff_exists.mp hrt
          have g0 : valV kvs (.inl root) = some (.int a0) := by rw [F0.num, ha0]; rfl
          refine ⟨_, rfl, _, rfl, d, _, rfl, g0 ▸ DGet.k (k := .inl root) (s4 _ _ ed), _, rfl, two_le, fun p hp => ?_⟩
          have s5 : Same H4 (upd H4 p (.tup [.int a0, .ref sl])) := Same.new hp
          have S5 := (s2.trans s4).trans s5
          exact q p sl a0 ys us fs _ S5 ((s2.trans s4).free hp) (s2.free hsl) ⟨upd_same, s5 _ _ esl, tus.same s5⟩ rch (F0.fin hrt) F0.nd F0.nod S hus hle ha0
end
end M
namespace M
open PySem L2
section
variable {P : Program} {w : World} {K : PySem.W.Frag} {mg : Str → Option Value} {base : Heap}
/-! ### _law_table -/
def spTab : Sp := fun vs H Q _ => ∃ (l : Addr) (root : Int) (xs : List V) (ts : List Tri), vs = [.int root, .ref l] ∧ H l = some (.lst xs) ∧ Trs H xs ts ∧ TabOk ts ∧ Bk ts ∧ ts.length ≤ 60 ∧ At ts root (-1) ∧ Told H ts.length Q
theorem scTab : FnScope ["root", "nodes", "same", "seen", "kept", "road", "low", "high", "node"] ["root", "nodes"] (defScope sTab) := ⟨rfl, rfl, rfl, by decide +kernel, rfl, by decide +kernel, by decide +kernel⟩
theorem ok_tab {f fO : Addr} {fd fdO : FuncData} (F : Fun K "_law_table" "_law_table" sTab f fd) (FO : Fun K "_law_in_order" "_law_in_order" sIno fO fdO) (bO : Binds K fdO ["root", "nodes"] []) (mO : mg "_law_in_order" = some (.ref fO)) (mLen : mg "len" = none) : FnOk P w K mg base CX0 2 f fd ["root", "nodes"] spTab := by
  have GO : FnOk P w K mg base CX0 1 fO fdO ["root", "nodes"] spIno := ok_ino FO mLen
  refine F.ok scTab (fun vs H Q E h => ?_) (fun cdv A outer s H vs Q E hr h => ?_)
  · obtain ⟨_, _, _, _, rfl, _⟩ := h
    rfl
  · obtain ⟨l, root, xs, ts, rfl, el, tr, T, bk, hts, ar, q⟩ := h
    have h16 : (16777216 : Nat) = sizeLine := sizeLine_eq.symm
    have hu1 : (A.deeper (PyProof.Rows.envOfC "_law_table" (defScope sTab) s.heap.objs.size f cdv)).units + 1 < cLine := by have := hr.un; omega
    refine ⟨_, pss_cons (ps_set (i := 2) scTab.nd rfl (Or.inl rfl) (pe_lst (pa_cons pe_int (pa_cons pe_int pa_nil))))
       (pss_cons (ps_set (i := 3) scTab.nd rfl (Or.inl rfl) pe_dnewT)
       (pss_cons (ps_set (i := 4) scTab.nd rfl (Or.inl rfl) (pe_lst pa_nil))
       (pss_cons (ps_for PassesOwn.never rfl (kList K (pv 1)) (kTup K (n := 3) rfl (pgs_cons (pg_name (i := 5) scTab.nd rfl (Or.inl rfl)) (pgs_cons (pg_name (i := 6) scTab.nd rfl (Or.inl rfl)) (pgs_cons (pg_name (i := 7) scTab.nd rfl (Or.inl rfl)) pgs_nil))))
       (pss_cons (ps_set (i := 8) scTab.nd rfl (Or.inl rfl) (pe_tup (pa_cons (pv 5) (pa_cons (pe_ix (kIxL K) (pv 2) (pv 6) (fun _ _ => rfl)) (pa_cons (pe_ix (kIxL K) (pv 2) (pv 7) (fun _ _ => rfl)) pa_nil)))))
       (pss_cons (ps_if (pt_cmp (pc_dnotin hu1 (pv 8) (pv 3)) rfl) (pss_cons (ps_expr (pe_bm PySem.F.plainAttrs_list PySem.F.slot_list_append PySem.F.type_list_append mt_append (pv 4) (pa_cons (pv 8) pa_nil)))
       (pss_one (ps_dput hu1 (pv 3) (pv 8) (pe_op op_add (pe_callB (kLen K) rfl mLen PySem.boot_len (pa_cons (pv 4) pa_nil)) pe_int) rfl))) pss_nil)
       (pss_one (ps_expr (pe_bm PySem.F.plainAttrs_list PySem.F.slot_list_append PySem.F.type_list_append mt_append (pv 2) (pa_cons (pe_dget hu1 (pv 3) (pv 8) (fun _ _ => rfl)) pa_nil)))))))
       (pss_one (ps_ret (pe_call GO (hr.mono (by decide)) rfl mO FO.kp bO .nil pass0 (pa_cons (pe_ix (kIxL K) (pv 2) (pv 0) (fun _ _ => rfl)) (pa_cons (pv 4) pa_nil)))))))), ?_⟩
    refine ⟨two_le, fun ms hms => ?_⟩
    have s1 : Same H (upd H ms (.lst [.int 0, .int 1])) := Same.new hms
    have ems : upd H ms (.lst [.int 0, .int 1]) ms = some (.lst (([0, 1] : List Int).map V.int)) := upd_same
    generalize upd H ms (.lst [.int 0, .int 1]) = H1 at s1 ems ⊢
    intro sn hsn
    have s2 : Same H1 (upd H1 sn (.dT [])) := Same.new hsn
    have esn : upd H1 sn (.dT []) sn = some (.dT []) := upd_same
    have hmsn : ms ≠ sn := ne_of_none ems hsn
    generalize upd H1 sn (.dT []) = H2 at s2 esn ⊢
    refine ⟨Nat.zero_le _, fun kp hkp => ?_⟩
    have s3 : Same H2 (upd H2 kp (.lst [])) := Same.new hkp
    have ekp : upd H2 kp (.lst []) kp = some (.lst []) := upd_same
    have hmkp : ms ≠ kp := ne_of_none (s2 _ _ ems) hkp
    have hsnkp : sn ≠ kp := ne_of_none esn hkp
    have hHsn : H sn = none := s1.free hsn
    have hHkp : H kp = none := (s1.trans s2).free hkp
    generalize upd H2 kp (.lst []) = H3 at s3 ekp ⊢
    refine ⟨_, rfl, l, rfl, ⟨_, SqL.of (s3 _ _ (s2 _ _ (s1 _ _ el)))⟩, ?_⟩
    refine for_list (K := K) (a := l) (xs := xs) (fun i σ H' => ∃ (sm : List Int) (kvs : List (List Key × V)) (ys : List V) (ks : List Tri) (v5 v6 v7 v8 : Option V), σ = [some (.int root), some (.ref l), some (.ref ms), some (.ref sn), some (.ref kp), v5, v6, v7, v8] ∧ Same H H' ∧ H' ms = some (.lst (sm.map V.int)) ∧ H' sn = some (.dT kvs) ∧ H' kp = some (.lst ys) ∧ Trs H' ys ks ∧ TabOk ks ∧ ks.length ≤ i ∧ kvs.length ≤ i ∧ MapOk ts ks sm i ∧ SeenOk kvs ks)
      ⟨[0, 1], [], [], [], none, none, none, none, rfl, (s1.trans s2).trans s3, s3 _ _ (s2 _ _ ems), s3 _ _ esn, ekp, .nil, TabOk.nil, Nat.le_refl _, Nat.le_refl _, MapOk.start _ _, fun r v e => by cases e⟩ (fun i σ H' _ ⟨_, _, _, _, _, _, _, _, _, s4, _⟩ => SqL.of (s4 _ _ el)) ?_ ?_
    · clear ems esn ekp s1 s2 s3
      rintro i x σ H4 hxi ⟨sm, kvs, ys, ks, v5, v6, v7, v8, rfl, s4, ems, esn, ekp, tk, Tk, hki, hvi, M, S⟩
      obtain ⟨t, r, rfl, et, er⟩ := (tr.same s4).get hxi
      have hi : i < ts.length := (List.getElem?_eq_some_iff.mp er).1
      obtain ⟨hT0, hT1, hT2⟩ := T i r er
      obtain ⟨b1, b2⟩ := bk i r er
      have hl1 := hT1.lt
      have hl2 := hT2.lt
      have hml := M.len
      have hyl := tk.len
      refine ⟨t, _, rfl, SqT.of et, rfl, _, _, rfl, _, _, rfl, _, _, rfl, rfl, ?_⟩
      refine ⟨_, rfl, _, rfl, _, rfl, ms, _, _, _, rfl, rfl, SqL.of ems, at_int (by omega) (by omega), _, rfl, _, rfl, ms, _, _, _, rfl, rfl, SqL.of ems, at_int (by omega) (by omega), (by show 3 ≤ sizeLine; decide), fun nd hnd => ?_⟩
      have a1 := M.at_ _ _ b1 hT1
      have a2 := M.at_ _ _ b2 hT2
      generalize sm.getD r.2.1.toNat 0 = c1 at a1 ⊢
      generalize sm.getD r.2.2.toNat 0 = c2 at a2 ⊢
      have s5 : Same H4 (upd H4 nd (.tup [.int r.1, .int c1, .int c2])) := Same.new hnd
      have end_ : upd H4 nd (.tup [.int r.1, .int c1, .int c2]) nd = some (.tup ((keyT (r.1, c1, c2)).map kV)) := upd_same
      generalize upd H4 nd (.tup [.int r.1, .int c1, .int c2]) = H5 at s5 end_ ⊢
      dsimp only [gName]
      refine seq_mid (fun σ' H' => ∃ (kvs : List (List Key × V)) (ys : List V) (ks : List Tri) (c : Int), σ' = [some (.int root), some (.ref l), some (.ref ms), some (.ref sn), some (.ref kp), some (.int r.1), some (.int r.2.1), some (.int r.2.2), some (.ref nd)] ∧ Same H H' ∧ H' ms = some (.lst (sm.map V.int)) ∧ H' sn = some (.dT kvs) ∧ H' kp = some (.lst ys) ∧ H' nd = some (.tup ((keyT (r.1, c1, c2)).map kV)) ∧ Trs H' ys ks ∧ TabOk ks ∧ ks.length ≤ i + 1 ∧ kvs.length ≤ i + 1 ∧ MapOk ts ks sm i ∧ SeenOk kvs ks ∧ valV kvs (keyT (r.1, c1, c2)) = some (.int c) ∧ Nd ks c (r.1, c1, c2)) ?snd ?fst
      case fst =>
        intro hk
        refine ⟨_, rfl, _, rfl, sn, _, rfl, DGet.t (k := keyT (r.1, c1, c2)) (s5 _ _ esn) end_, _, rfl, ?_⟩
        cases hv : valV kvs (keyT (r.1, c1, c2)) with
        | some v =>
          refine iteF ?_
          obtain ⟨c, rfl, nc⟩ := S _ v hv
          exact hk _ _ ⟨kvs, ys, ks, c, rfl, s4.trans s5, s5 _ _ ems, s5 _ _ esn, s5 _ _ ekp, end_, tk.same s5, Tk, by omega, by omega, M, S, hv, nc⟩
        | none =>
          refine iteT ?_
          refine ⟨_, rfl, .inl ⟨rfl, _, SqL.of (s5 _ _ ekp)⟩, _, rfl, kp, ys, _, rfl, rfl, s5 _ _ ekp, by omega, ?_⟩
          have k6 := tups_lst (o := .lst (ys ++ [.ref nd])) (s5 _ _ ekp)
          have ekp6 : upd H5 kp (.lst (ys ++ [.ref nd])) kp = some (.lst (ys ++ [.ref nd])) := upd_same
          have ems6 : upd H5 kp (.lst (ys ++ [.ref nd])) ms = some (.lst (sm.map V.int)) := upd_eq (s5 _ _ ems) hmkp
          have esn6 : upd H5 kp (.lst (ys ++ [.ref nd])) sn = some (.dT kvs) := upd_eq (s5 _ _ esn) hsnkp
          have s6 : Same H (upd H5 kp (.lst (ys ++ [.ref nd]))) := (s4.trans s5).put hHkp
          have end6 := k6 _ _ end_
          have tk6 := ((tk.same s5).keep k6).snoc end6
          generalize upd H5 kp (.lst (ys ++ [.ref nd])) = H6 at k6 ekp6 ems6 esn6 s6 end6 tk6 ⊢
          refine ⟨_, rfl, kp, _, rfl, .inl (SqL.of ekp6), _, _, rfl, rfl, _, rfl, _, rfl, sn, _, rfl, DPut.t (k := keyT (r.1, c1, c2)) esn6 end6 (by omega), ?_⟩
          have hc : ((ys ++ [V.ref nd]).length : Int) + 1 = (ks.length : Int) + 2 := by
            rw [List.length_append, List.length_singleton, hyl]
            push_cast
            omega
          have k7 := tups_dT (o := .dT (putK kvs (keyT (r.1, c1, c2)) (.int (((ys ++ [V.ref nd]).length : Int) + 1)))) esn6
          have hpl := length_putK kvs (keyT (r.1, c1, c2)) (.int (((ys ++ [V.ref nd]).length : Int) + 1))
          refine hk _ _ ⟨_, _, ks ++ [(r.1, c1, c2)], _, rfl, s6.put hHsn, upd_eq ems6 hmsn, upd_same, upd_eq ekp6 (Ne.symm hsnkp), k7 _ _ end6, tk6.keep k7, Tk.snoc hT0 a1 a2, by rw [List.length_append, List.length_singleton]; omega, Nat.le_trans hpl (by omega), M.grow _, S.add hc, by rw [valV_put, if_pos rfl], ?_⟩
          rw [hc]
          exact Nd.last ks _
      case snd =>
        clear ems esn ekp tk Tk hki hvi M S s5 end_ a1 a2 hyl s4
        rintro σ' H5 ⟨kvs, ys, ks, c, rfl, s5, ems, esn, ekp, end_, tk, Tk, hki, hvi, M, S, hv, nc⟩
        refine ⟨_, rfl, .inl ⟨rfl, _, SqL.of ems⟩, _, rfl, _, rfl, sn, _, rfl, hv ▸ DGet.t (k := keyT (r.1, c1, c2)) esn end_, ms, _, _, rfl, rfl, ems, by rw [List.length_map]; omega, ?_⟩
        have k6 := tups_lst (o := .lst (sm.map V.int ++ [.int c])) ems
        exact ⟨sm ++ [c], kvs, ys, ks, _, _, _, _, rfl, s5.put hms, by rw [upd_same, List.map_append]; rfl, upd_eq esn (Ne.symm hmsn), upd_eq ekp (Ne.symm hmkp), tk.keep k6, Tk, hki, hvi, M.snoc er nc rfl, S⟩
    · rintro σ H4 ⟨sm, kvs, ys, ks, v5, v6, v7, v8, rfl, s4, ems', esn', ekp', tk, Tk, hki, hvi, M, S⟩
      have hxl := tr.len
      have hl0 := ar.lt
      have hml := M.len
      refine ⟨_, rfl, _, rfl, ms, _, _, _, rfl, rfl, SqL.of ems', at_int (by omega) (by omega), _, rfl, ?_⟩
      refine ⟨kp, _, ys, ks, rfl, ekp', tk, Tk, by omega, M.at_ _ _ (by omega) ar, (q.same s4).two Tk (by omega) (M.at_ _ _ (by omega) ar)⟩
/-! ### _law_drawn -/
def spDra : Sp := fun vs H Q _ => ∃ (cl : Addr) (cs : List Int) (first : Int), vs = [.ref cl, .int first] ∧ H cl = some (.lst (cs.map V.int)) ∧ cs.length ≤ 60 ∧ Told H cs.length Q
theorem scDra : FnScope ["cells", "first", "nodes"] ["cells", "first"] (defScope sDra) := ⟨rfl, rfl, rfl, by decide +kernel, rfl, by decide +kernel, by decide +kernel⟩
theorem ok_dra {f fR fT fO : Addr} {fd fdR fdT fdO : FuncData} (F : Fun K "_law_drawn" "_law_drawn" sDra f fd) (FR : Fun K "_law_raw" "_law_raw" sRaw fR fdR) (bR : Binds K fdR ["cells", "road"] []) (mR : mg "_law_raw" = some (.ref fR))
    (FT : Fun K "_law_table" "_law_table" sTab fT fdT) (bT : Binds K fdT ["root", "nodes"] []) (mT : mg "_law_table" = some (.ref fT)) (FO : Fun K "_law_in_order" "_law_in_order" sIno fO fdO) (bO : Binds K fdO ["root", "nodes"] []) (mO : mg "_law_in_order" = some (.ref fO))
    (mRange : mg "range" = none) (mLen : mg "len" = none) (mMax : mg "max" = none) : FnOk P w K mg base CX0 3 f fd ["cells", "first"] spDra := by
  have GR : FnOk P w K mg base CX0 1 fR fdR ["cells", "road"] spRaw := ok_raw FR mRange mLen mMax
  have GT : FnOk P w K mg base CX0 2 fT fdT ["root", "nodes"] spTab := ok_tab FT FO bO mO mLen
  refine F.ok scDra (fun vs H Q E h => ?_) (fun cdv A outer s H vs Q E hr h => ?_)
  · obtain ⟨_, _, _, rfl, _⟩ := h
    rfl
  · obtain ⟨cl, cs, first, rfl, ecl, hcs, q⟩ := h
    have hu := hr.units
    refine ⟨_, pss_cons (ps_set (i := 2) scDra.nd rfl (Or.inl rfl) (pe_call GR (hr.mono (by decide)) rfl mR FR.kp bR .nil pass0 (pa_cons (pv 0) (pa_cons (pe_op op_mod (pv 1) pe_int) pa_nil))))
       (pss_cons (ps_if (pt_cmpR (kEqD K hu) (pv 2) (pe_lst pa_nil) (nomark _)) (pss_one (ps_ret (pe_tup (pa_cons (pe_op op_mod (pe_op op_fdivB (pv 1) pe_int) pe_int) (pa_cons (pe_lst pa_nil) pa_nil))))) pss_nil)
       (pss_one (ps_ret (pe_call GT (hr.mono (by decide)) rfl mT FT.kp bT .nil pass0 (pa_cons (pe_op op_add (pe_callB (kLen K) rfl mLen PySem.boot_len (pa_cons (pv 2) pa_nil)) pe_int) (pa_cons (pv 2) pa_nil)))))), ?_⟩
    refine ⟨_, rfl, _, rfl, _, _, rfl, rfl, (by show (0 : Int) < 30; decide), cl, cs, first % 30, rfl, ecl, hcs, Int.emod_nonneg _ (by decide), Int.emod_lt_of_pos _ (by decide), fun l xs ts H1 s1 hl el tr T bk hlen => ?_⟩
    refine ⟨_, rfl, Nat.zero_le _, fun e he => ?_⟩
    have s2 := s1.put (o := .lst []) (s1.free he)
    have s12 : Same H1 (upd H1 e (.lst [])) := Same.new he
    refine ⟨.list (ts.map trD), .list (([] : List Tri).map trD), .lst (SqL.of (s12 _ _ el)) (tr.same s12).dats, .lst (SqL.of upd_same) .nil, trs_shaped _, trs_shaped _, _, rfl, ?_⟩
    rw [trl_eqv]
    generalize upd H1 e (.lst []) = H2 at s2 s12 ⊢
    by_cases c : ts = []
    · rw [decide_eq_true c]
      refine iteT ?_
      refine ⟨_, rfl, _, _, rfl, rfl, ⟨by decide, lt2_lit⟩, _, _, rfl, rfl, (by show (0 : Int) < 2; decide), Nat.zero_le _, fun l2 hl2 => ⟨two_le, fun p hp => ?_⟩⟩
      have s3 := s2.put (o := .lst []) (s2.free hl2)
      have e3 : upd H2 l2 (.lst []) l2 = some (.lst []) := upd_same
      have s4 : Same (upd H2 l2 (.lst [])) (upd (upd H2 l2 (.lst [])) p (.tup [.int (first / 30 % 2), .ref l2])) := Same.new hp
      refine q p l2 (first / 30 % 2) [] [] _ (s3.trans s4) (s3.free hp) (s2.free hl2) ⟨upd_same, s4 _ _ e3, .nil⟩ TabOk.nil ?_ (Nat.zero_le _)
      have h0 : 0 ≤ first / 30 % 2 := Int.emod_nonneg _ (by decide)
      have h1 : first / 30 % 2 < 2 := Int.emod_lt_of_pos _ (by decide)
      have : first / 30 % 2 = 0 ∨ first / 30 % 2 = 1 := by omega
      rcases this with h | h
      · exact .inl h
      · exact .inr (.inl h)
    · rw [decide_eq_false c]
      refine iteF ?_
      have hp : 0 < ts.length := List.length_pos_iff.mpr c
      have hxl := tr.len
      refine ⟨_, rfl, l, xs, rfl, .inl (SqL.of (s12 _ _ el)), _, _, rfl, rfl, _, rfl, ?_⟩
      refine ⟨l, _, xs, ts, rfl, s12 _ _ el, tr.same s12, T, bk, by omega, ?_, fun p l r xs us H' s hp hl W T a n => q.same s2 p l r xs us H' s hp hl W T a (by omega)⟩
      refine .inr (.inr ⟨ts[ts.length - 1], ⟨by omega, ?_⟩, ?_⟩)
      · rw [show ((xs.length : Int) + 1 - 2).toNat = ts.length - 1 by omega]
        exact List.getElem?_eq_getElem (by omega)
      · have := (T (ts.length - 1) _ (List.getElem?_eq_getElem (by omega))).1
        omega
end
end M
namespace M
open PySem L2
section
variable {P : Program} {w : World} {K : PySem.W.Frag} {mg : Str → Option Value} {base : Heap}
/-! ### found_from -/
def spFou : Sp := fun vs H Q _ => ∃ (l : Addr) (root : Int) (xs : List V) (ks : List Tri), vs = [.int root, .ref l] ∧ H l = some (.lst xs) ∧ Trs H xs ks ∧ TabOk ks ∧ ks.length ≤ 76 ∧ At ks root (-1) ∧
  ∀ (fl : Addr) (fs : List Int) (H' : Hp), Same H H' → H' fl = some (.lst (fs.map V.int)) → Rch ks root fs → Fin ks root fs → fs.Nodup → (∀ x ∈ fs, ∃ r, Nd ks x r) → Q (.ref fl) H'
theorem scFou : FnScope ["root", "nodes", "found", "seen", "ahead", "new", "number"] ["root", "nodes"] (defScope sFou) := ⟨rfl, rfl, rfl, by decide +kernel, rfl, by decide +kernel, by decide +kernel⟩
theorem seen0 (n : Int) : valV (mergeK [] [(Sum.inl 0, .bl true), (Sum.inl 1, .bl true)] : List (Key × V)) (.inl n) = none ↔ New [] n := by
  show valV (putK (putK [] (Sum.inl 0) (.bl true)) (Sum.inl 1) (.bl true) : List (Key × V)) (.inl n) = none ↔ _
  rw [valV_put, valV_put]
  unfold New
  by_cases h1 : n = 1
  · rw [if_pos (by rw [h1])]
    exact ⟨fun z => (by cases z), fun z => absurd h1 z.2.1⟩
  · rw [if_neg (fun z => h1 (Sum.inl.inj z))]
    by_cases h0 : n = 0
    · rw [if_pos (by rw [h0])]
      exact ⟨fun z => (by cases z), fun z => absurd h0 z.1⟩
    · rw [if_neg (fun z => h0 (Sum.inl.inj z))]
      exact ⟨fun _ => ⟨h0, h1, fun z => (by cases z)⟩, fun _ => rfl⟩
theorem ok_fou {f : Addr} {fd : FuncData} (F : Fun K "found_from" "found_from" sFou f fd) : FnOk P w K mg base CX0 1 f fd ["root", "nodes"] spFou := by
  refine F.ok scFou (fun vs H Q E h => ?_) (fun cdv A outer s H vs Q E hr h => ?_)
  · obtain ⟨_, _, _, _, rfl, _⟩ := h
    rfl
  · obtain ⟨l, root, xs, ks, rfl, el, tr, T, hks, ar, q⟩ := h
    have h16 : (16777216 : Nat) = sizeLine := sizeLine_eq.symm
    have hu1 : (A.deeper (PyProof.Rows.envOfC "found_from" (defScope sFou) s.heap.objs.size f cdv)).units + 1 < cLine := by have := hr.un; omega
    refine ⟨_, pss_cons (ps_set (i := 2) scFou.nd rfl (Or.inl rfl) (pe_lst pa_nil))
       (pss_cons (ps_set (i := 3) scFou.nd rfl (Or.inl rfl) (pe_disp (pps_cons pe_int pe_bl (pps_cons pe_int pe_bl pps_nil)) rfl rfl (by decide) (by decide)))
       (pss_cons (ps_set (i := 4) scFou.nd rfl (Or.inl rfl) (pe_lst (pa_cons (pv 0) pa_nil)))
       (pss_cons (ps_while PassesOwn.never (pt_truth (pv 4) (fun _ => rfl))
       (pss_cons (ps_set (i := 5) scFou.nd rfl (Or.inl rfl) (pe_lst pa_nil))
       (pss_cons (ps_for PassesOwn.never rfl (kList K (pv 4)) (pg_name (i := 6) scFou.nd rfl (Or.inl rfl))
       (pss_one (ps_if (pt_cmp (pc_dnotin hu1 (pv 6) (pv 3)) rfl) (pss_cons (ps_dput hu1 (pv 3) (pv 6) pe_bl rfl)
       (pss_cons (ps_expr (pe_bm PySem.F.plainAttrs_list PySem.F.slot_list_append PySem.F.type_list_append mt_append (pv 2) (pa_cons (pv 6) pa_nil)))
       (pss_one (ps_expr (pe_bm PySem.F.plainAttrs_list PySem.F.slot_list_extend PySem.F.type_list_extend mt_extendT (pv 5) (pa_cons (pe_slice (kSlT K) (pe_ix (kIxL K) (pv 1) (pe_op op_sub (pv 6) pe_int) (fun _ _ => rfl)) (po_some pe_int) po_none) pa_nil)))))) pss_nil)))
       (pss_one (ps_set (i := 4) scFou.nd rfl (Or.inl rfl) (pv 5))))))
       (pss_one (ps_ret (pv 2)))))), ?_⟩
    refine ⟨Nat.zero_le _, fun fl hfl => ?_⟩
    have s1 : Same H (upd H fl (.lst [])) := Same.new hfl
    have efl : upd H fl (.lst []) fl = some (.lst (([] : List Int).map V.int)) := upd_same
    generalize upd H fl (.lst []) = H1 at s1 efl ⊢
    intro d hd
    refine ⟨upd_same, [(.inl 0, .bl true), (.inl 1, .bl true)], rfl, by decide, ?_⟩
    have s2 : Same H1 (upd (upd H1 d (.dK [])) d (.dK (mergeK [] [(.inl 0, .bl true), (.inl 1, .bl true)]))) := (Same.new hd).put hd
    have ed : upd (upd H1 d (.dK [])) d (.dK (mergeK [] [(.inl 0, .bl true), (.inl 1, .bl true)])) d = some (.dK (mergeK [] [(.inl 0, .bl true), (.inl 1, .bl true)])) := upd_same
    generalize upd (upd H1 d (.dK [])) d (.dK (mergeK [] [(.inl 0, .bl true), (.inl 1, .bl true)])) = H2 at s2 ed ⊢
    have hHd : H d = none := s1.free hd
    have hfd : fl ≠ d := ne_of_none efl hd
    have efl2 := s2 _ _ efl
    have s12 := s1.trans s2
    clear efl s1 s2
    refine ⟨_, rfl, (by show 1 ≤ sizeLine; decide), fun al hal => ?_⟩
    have s3 : Same H2 (upd H2 al (.lst [.int root])) := Same.new hal
    have eal : upd H2 al (.lst [.int root]) al = some (.lst (([root] : List Int).map V.int)) := upd_same
    have hafl : al ≠ fl := fun z => by rw [z, efl2] at hal; cases hal
    generalize upd H2 al (.lst [.int root]) = H3 at s3 eal ⊢
    have W0 : Wk ks root [] (mergeK [] [(.inl 0, .bl true), (.inl 1, .bl true)]) [] [root] := ⟨rfl, fun y hy => (by cases hy), seen0, List.nodup_nil, fun x hx => (by cases hx), .nil, by decide, fun y hy => by rw [List.mem_singleton] at hy; rw [hy]; exact ar⟩
    refine ⟨fun m σ' H' => ∃ (al : Addr) (fs : List Int) (kvs : List (Key × V)) (pr ah : List Int) (v5 v6 : Option V), σ' = [some (.int root), some (.ref l), some (.ref fl), some (.ref d), some (.ref al), v5, v6] ∧ Same H H' ∧ H' fl = some (.lst (fs.map V.int)) ∧ H' d = some (.dK kvs) ∧ H' al = some (.lst (ah.map V.int)) ∧ al ≠ fl ∧ Wk ks root fs kvs pr ah ∧ m = ks.length - fs.length + (if ah = [] then 0 else 1),
      ⟨_, al, [], _, [], [root], none, none, rfl, s12.trans s3, s3 _ _ efl2, s3 _ _ ed, eal, hafl, W0, rfl⟩, ?_⟩
    clear W0 eal s3 efl2 ed s12 hal hafl
    rintro m σ' H4 ⟨al, fs, kvs, pr, ah, v5, v6, rfl, s4, efl, ed, eal, hafl, W, rfl⟩
    have hle := W.le
    have hah := W.ahl
    by_cases hz : ah = []
    · subst hz
      refine ⟨_, rfl, false, .inl ⟨_, SqL.of eal, rfl⟩, iteF ?_⟩
      exact ⟨_, rfl, q fl fs _ s4 efl W.rch W.fin W.nd W.nod⟩
    · refine ⟨_, rfl, true, .inl ⟨_, SqL.of eal, by cases ah with | nil => exact absurd rfl hz | cons a b => rfl⟩, iteT ?_⟩
      refine ⟨_, fun _ _ h => h, ?_⟩
      refine ⟨Nat.zero_le _, fun nl hnl => ?_⟩
      have s5 : Same H4 (upd H4 nl (.lst [])) := Same.new hnl
      have enl : upd H4 nl (.lst []) nl = some (.lst (([] : List Int).map V.int)) := upd_same
      have hna : nl ≠ al := fun z => by rw [z, eal] at hnl; cases hnl
      have hnf : nl ≠ fl := fun z => by rw [z, efl] at hnl; cases hnl
      have hHnl : H nl = none := s4.free hnl
      generalize upd H4 nl (.lst []) = H5 at s5 enl ⊢
      refine ⟨_, rfl, al, rfl, ⟨_, SqL.of (s5 _ _ eal)⟩, ?_⟩
      refine for_list (K := K) (a := al) (xs := ah.map V.int) (fun i σ' H' => ∃ (fs' : List Int) (kvs' : List (Key × V)) (nw : List Int) (v6 : Option V), σ' = [some (.int root), some (.ref l), some (.ref fl), some (.ref d), some (.ref al), some (.ref nl), v6] ∧ Same H H' ∧ H' fl = some (.lst (fs'.map V.int)) ∧ H' d = some (.dK kvs') ∧ H' al = some (.lst (ah.map V.int)) ∧ H' nl = some (.lst (nw.map V.int)) ∧ Wk ks root fs' kvs' (pr ++ ah.take i) (ah.drop i ++ nw) ∧ ((fs' = fs ∧ nw = []) ∨ fs.length < fs'.length))
        ⟨fs, kvs, [], _, rfl, s4.trans s5, s5 _ _ efl, s5 _ _ ed, s5 _ _ eal, enl, by rw [List.take_zero, List.drop_zero, List.append_nil, List.append_nil]; exact W, .inl ⟨rfl, rfl⟩⟩ (fun i σ' H' _ ⟨_, _, _, _, _, _, _, _, e, _⟩ => SqL.of e) ?_ ?_
      · clear efl ed eal enl s5 W hah
        rintro i y σ' H6 hy ⟨fs', kvs', nw, v6', rfl, s6, efl, ed, eal, enl, W, hd⟩
        obtain ⟨c, rfl, hc⟩ := ints_get hy
        have e1 : ah.drop i = c :: ah.drop (i + 1) := by
          obtain ⟨hi, e⟩ := List.getElem?_eq_some_iff.mp hc
          rw [List.drop_eq_getElem_cons hi, e]
        have e2 : pr ++ ah.take (i + 1) = (pr ++ ah.take i) ++ [c] := by
          obtain ⟨hi, e⟩ := List.getElem?_eq_some_iff.mp hc
          rw [List.take_succ_eq_append_getElem hi, e, List.append_assoc]
        rw [e1, List.cons_append] at W
        have hle' := W.le
        have hah' := W.ahl
        rw [List.length_cons, List.length_append] at hah'
        have hkl := W.kl
        refine ⟨_, rfl, _, rfl, d, _, rfl, DGet.k (k := .inl c) ed, _, rfl, ?_⟩
        cases hv : valV kvs' (.inl c) with
        | some v =>
          refine iteF ?_
          refine ⟨fs', kvs', nw, _, rfl, s6, efl, ed, eal, enl, ?_, hd⟩
          rw [e2]
          exact W.skip fun z => by rw [(W.seen c).mpr z] at hv; cases hv
        | none =>
          refine iteT ?_
          have hnew := (W.seen c).mp hv
          obtain ⟨r, n, _⟩ := (W.ok c List.mem_cons_self).nd (by have := (W.ok c List.mem_cons_self).lt; have := hnew.1; have := hnew.2.1; omega)
          have W' := W.take (v := .bl true) T hnew n
          refine ⟨_, rfl, _, rfl, d, _, rfl, DPut.k (k := .inl c) ed (by omega), ?_⟩
          have k7 := tups_dK (o := .dK (putK kvs' (.inl c) (.bl true))) ed
          have efl7 : upd H6 d (.dK (putK kvs' (.inl c) (.bl true))) fl = some (.lst (fs'.map V.int)) := upd_eq efl hfd
          have eal7 : upd H6 d (.dK (putK kvs' (.inl c) (.bl true))) al = some (.lst (ah.map V.int)) := upd_eq eal (ne_of eal ed (fun z => by cases z))
          have enl7 : upd H6 d (.dK (putK kvs' (.inl c) (.bl true))) nl = some (.lst (nw.map V.int)) := upd_eq enl (ne_of enl ed (fun z => by cases z))
          have ed7 : upd H6 d (.dK (putK kvs' (.inl c) (.bl true))) d = some (.dK (putK kvs' (.inl c) (.bl true))) := upd_same
          have s7 : Same H (upd H6 d (.dK (putK kvs' (.inl c) (.bl true)))) := s6.put hHd
          generalize upd H6 d (.dK (putK kvs' (.inl c) (.bl true))) = H7 at efl7 eal7 enl7 ed7 s7 ⊢
          clear k7
          refine ⟨_, rfl, .inl ⟨rfl, _, SqL.of efl7⟩, _, rfl, fl, _, _, rfl, rfl, efl7, by rw [List.length_map]; omega, ?_⟩
          have efl8 : upd H7 fl (.lst (fs'.map V.int ++ [.int c])) fl = some (.lst ((fs' ++ [c]).map V.int)) := by rw [upd_same, List.map_append]; rfl
          have eal8 : upd H7 fl (.lst (fs'.map V.int ++ [.int c])) al = some (.lst (ah.map V.int)) := upd_eq eal7 hafl
          have enl8 : upd H7 fl (.lst (fs'.map V.int ++ [.int c])) nl = some (.lst (nw.map V.int)) := upd_eq enl7 hnf
          have ed8 : upd H7 fl (.lst (fs'.map V.int ++ [.int c])) d = some (.dK (putK kvs' (.inl c) (.bl true))) := upd_eq ed7 (Ne.symm hfd)
          have s8 : Same H (upd H7 fl (.lst (fs'.map V.int ++ [.int c]))) := s7.put hfl
          generalize upd H7 fl (.lst (fs'.map V.int ++ [.int c])) = H8 at efl8 eal8 enl8 ed8 s8 ⊢
          obtain ⟨t, et1, et2⟩ := node_at (tr.same s8) n
          refine ⟨_, rfl, .inl ⟨rfl, _, SqL.of enl8⟩, _, rfl, _, rfl, _, _, rfl, rfl, l, _, _, _, rfl, rfl, SqL.of (s8 _ _ el), et1, _, rfl, t, _, rfl, SqT.of et2, (fun z => by have := z.1; simp [HT.sIx] at this), fun ps hps => ?_⟩
          have s9 : Same H8 (upd H8 ps (.tup (cutV [.int r.1, .int r.2.1, .int r.2.2] (some 1) none))) := Same.new hps
          have eps : upd H8 ps (.tup (cutV [.int r.1, .int r.2.1, .int r.2.2] (some 1) none)) ps = some (.tup [.int r.2.1, .int r.2.2]) := upd_same
          generalize upd H8 ps (.tup (cutV [.int r.1, .int r.2.1, .int r.2.2] (some 1) none)) = H9 at s9 eps ⊢
          refine ⟨nl, ps, _, _, rfl, rfl, s9 _ _ enl8, eps, by rw [List.length_map]; show nw.length + 2 ≤ sizeLine; omega, ?_⟩
          refine ⟨fs' ++ [c], _, nw ++ [r.2.1, r.2.2], _, rfl, (s8.trans s9).put hHnl, upd_eq (s9 _ _ efl8) (Ne.symm hnf), upd_eq (s9 _ _ ed8) (ne_of ed8 enl8 (fun z => by cases z)), upd_eq (s9 _ _ eal8) (Ne.symm hna), by rw [upd_same, List.map_append]; rfl, ?_, .inr ?_⟩
          · rw [e2, ← List.append_assoc]
            exact W'
          · rw [List.length_append, List.length_singleton]
            rcases hd with ⟨h, _⟩ | h
            · rw [h]; omega
            · omega
      · clear efl ed eal enl s5 W hah
        rintro σ' H6 ⟨fs', kvs', nw, v6', rfl, s6, efl, ed, eal, enl, W, hd⟩
        rw [List.length_map, List.take_length, List.drop_length, List.nil_append] at W
        have hle' := W.le
        refine ⟨_, rfl, ?_⟩
        refine ⟨_, ?_, nl, fs', kvs', pr ++ ah, nw, _, _, rfl, s6, efl, ed, enl, hnf, W, rfl⟩
        rw [if_neg hz]
        rcases hd with ⟨h1, h2⟩ | h
        · rw [h1, h2, if_pos rfl]; omega
        · split <;> omega
end
end M
namespace M
open PySem L2
section
variable {P : Program} {w : World} {K : PySem.W.Frag} {mg : Str → Option Value} {base : Heap}
/-- truths told one by one -/
structure AllB {α : Type} (Pr : α → Prop) (bs : List Bool) (cs : List α) : Prop where
  len : bs.length = cs.length
  all : bs.all id = true ↔ ∀ c ∈ cs, Pr c
theorem AllB.nil {α : Type} {Pr : α → Prop} : AllB Pr [] [] := ⟨rfl, ⟨fun _ c hc => (by cases hc), fun _ => rfl⟩⟩
theorem AllB.snoc {α : Type} {Pr : α → Prop} {bs : List Bool} {cs : List α} (h : AllB Pr bs cs) {b : Bool} {c : α} (hb : b = true ↔ Pr c) : AllB Pr (bs ++ [b]) (cs ++ [c]) := by
  refine ⟨by rw [List.length_append, List.length_append, h.len]; rfl, ?_⟩
  rw [List.all_append, Bool.and_eq_true, h.all]
  constructor
  · rintro ⟨h1, h2⟩ x hx
    rcases List.mem_append.mp hx with z | z
    · exact h1 x z
    · rw [List.mem_singleton] at z
      rw [z]
      exact hb.mp (by simpa using h2)
  · intro hx
    refine ⟨fun c hc => hx c (List.mem_append_left _ hc), ?_⟩
    have := hb.mpr (hx c (List.mem_append_right _ (List.mem_singleton.mpr rfl)))
    rw [this]
    rfl
theorem AllB.next {α : Type} {Pr : α → Prop} {bs : List Bool} {cs : List α} {i : Nat} {c : α} (h : AllB Pr bs (cs.take i)) (e : cs[i]? = some c) {b : Bool} (hb : b = true ↔ Pr c) : AllB Pr (bs ++ [b]) (cs.take (i + 1)) := by
  obtain ⟨hi, e'⟩ := List.getElem?_eq_some_iff.mp e
  rw [List.take_succ_eq_append_getElem hi, e']
  exact h.snoc hb
/-! ### is_right_node -/
def spRig : Sp := fun vs H Q _ => ∃ (wb pl l t : Addr) (p0 : V) (ys xs : List V) (ts : List Tri) (r : Tri), vs = [.ref wb, .ref l, .ref t] ∧ H wb = some (.tup [p0, .ref pl]) ∧ H pl = some (.lst ys) ∧ H l = some (.lst xs) ∧ Trs H xs ts ∧ H t = some (.tup [.int r.1, .int r.2.1, .int r.2.2]) ∧
  ∀ (b : Bool) (H' : Hp), Same H H' → (b = true ↔ NodeOk ts (ys.length : Int) r) → Q (.bl b) H'
theorem scRig : FnScope ["web", "nodes", "node", "road", "low", "high"] ["web", "nodes", "node"] (defScope sRig) := ⟨rfl, rfl, rfl, by decide +kernel, rfl, by decide +kernel, by decide +kernel⟩
theorem ok_rig {f : Addr} {fd : FuncData} (F : Fun K "is_right_node" "is_right_node" sRig f fd) (mLen : mg "len" = none) (mAll : mg "all" = none) : FnOk P w K mg base CX0 1 f fd ["web", "nodes", "node"] spRig := by
  refine F.ok scRig (fun vs H Q E h => ?_) (fun cdv A outer s H vs Q E hr h => ?_)
  · obtain ⟨_, _, _, _, _, _, _, _, _, rfl, _⟩ := h
    rfl
  · obtain ⟨wb, pl, l, t, p0, ys, xs, ts, r, rfl, ew, ep, el, tr, et, q⟩ := h
    have hxl := tr.len
    refine ⟨_, pss_cons (ps_asg (pv 2) (kTup K (n := 3) rfl (pgs_cons (pg_name (i := 3) scRig.nd rfl (Or.inr rfl)) (pgs_cons (pg_name (i := 4) scRig.nd rfl (Or.inl rfl)) (pgs_cons (pg_name (i := 5) scRig.nd rfl (Or.inl rfl)) pgs_nil)))))
       (pss_cons (ps_if (pt_not (PW.pt (pw_and (pt_chain op_le op_lt pe_int (pv 3) (pe_callB (kLen K) rfl mLen PySem.boot_len (pa_cons (pe_ix (kIxT K) (pv 0) pe_int (fun _ _ => rfl)) pa_nil))) (pw_and (pt_chain op_le op_lt pe_int (pv 4) (pe_op op_add (pe_callB (kLen K) rfl mLen PySem.boot_len (pa_cons (pv 1) pa_nil)) pe_int)) (pw_and1 (pt_chain op_lt op_lt pe_int (pv 5) (pe_op op_add (pe_callB (kLen K) rfl mLen PySem.boot_len (pa_cons (pv 1) pa_nil)) pe_int))))))) (pss_one (ps_ret pe_bl)) pss_nil)
       (pss_one (ps_ret (pe_callB (kAll K rfl) rfl mAll boot_all (pa_cons (pe_comp (own := ["number"]) rfl (compScope_free (fr := [("nodes", 1), ("road", 3)]) [(".0", .local), ("number", .local), ("nodes", .cell), ("road", .cell)] rfl rfl (by decide +kernel) rfl (by decide +kernel) ⟨rfl, rfl, trivial⟩ ⟨fun h => no_cf h, fun h => no_cf h, fun _ => ⟨_, rfl⟩, fun _ => ⟨_, rfl⟩, trivial⟩ ⟨⟨rfl, .inl rfl, .inl rfl⟩, ⟨rfl, .inl rfl, .inl rfl⟩, trivial⟩) (kTupI K (pe_tup (pa_cons (pv 4) (pa_cons (pv 5) pa_nil)))) (fun _ _ _ _ => pg_name (i := 0) (show List.Nodup (["number", "nodes", "road"] : List Str) by decide +kernel) rfl (Or.inl rfl)) (fun _ _ _ _ => pifs_nil) (fun _ _ _ _ => pe_or (pe_cmpR op_lt (pv 0) pe_int (nomark _)) (pe_one (pe_cmpR op_gt (pe_ix (kIxT K) (pe_ix (kIxL K) (pv 1) (pe_op op_sub (pv 0) pe_int) (fun _ _ => rfl)) pe_int (fun _ _ => rfl)) (pv 2) (nomark _))))) pa_nil))))), ?_⟩
    refine ⟨_, rfl, t, _, rfl, SqT.of et, rfl, _, _, rfl, _, _, rfl, _, _, rfl, rfl, ?_⟩
    have no : ¬ NodeOk ts (ys.length : Int) r → Q (.bl false) H := fun h => q false H (Same.refl _) ⟨fun z => (by cases z), fun z => absurd z h⟩
    refine ⟨_, rfl, _, _, rfl, rfl, _, rfl, ite2 (fun a1 => ?_) (fun a1 => ?_)⟩
    rotate_left
    · refine ⟨_, rfl, iteF (iteT (no fun z => a1 (decide_eq_true z.road.1)))⟩
    refine ⟨_, rfl, wb, _, _, _, rfl, rfl, SqT.of ew, atI_nat (j := 1) rfl, pl, ys, rfl, .inl (SqL.of ep), _, _, rfl, rfl, _, rfl, ite2 (fun a2 => ?_) (fun a2 => ?_)⟩
    rotate_left
    · exact iteT (no fun z => a2 (decide_eq_true z.road.2))
    refine ⟨_, rfl, _, _, rfl, rfl, _, rfl, ite2 (fun a3 => ?_) (fun a3 => ?_)⟩
    rotate_left
    · refine ⟨_, rfl, iteF (iteT (no fun z => a3 (decide_eq_true z.low.1)))⟩
    refine ⟨_, rfl, l, xs, rfl, .inl (SqL.of el), _, _, rfl, rfl, _, _, rfl, rfl, _, rfl, ite2 (fun a4 => ?_) (fun a4 => ?_)⟩
    rotate_left
    · exact iteT (no fun z => a4 (decide_eq_true (by rw [hxl]; exact z.low.2)))
    refine ⟨_, rfl, _, _, rfl, rfl, _, rfl, ite2 (fun a5 => ?_) (fun a5 => ?_)⟩
    rotate_left
    · refine ⟨_, rfl, iteT (no fun z => a5 (decide_eq_true z.high.1))⟩
    refine ⟨_, rfl, l, xs, rfl, .inl (SqL.of el), _, _, rfl, rfl, _, _, rfl, rfl, _, rfl, ?_⟩
    by_cases a6 : r.2.2 < (xs.length : Int) + 2
    rotate_left
    · rw [decide_eq_false a6]
      exact iteT (no fun z => a6 (by rw [hxl]; exact z.high.2))
    rw [decide_eq_true a6]
    refine iteF ?_
    have a1 := of_decide_eq_true a1
    have a2 := of_decide_eq_true a2
    have a3 := of_decide_eq_true a3
    have a4 := of_decide_eq_true a4
    have a5 := of_decide_eq_true a5
    have a4' : r.2.1 < (ts.length : Int) + 2 := by rw [← hxl]; exact a4
    have a6' : r.2.2 < (ts.length : Int) + 2 := by rw [← hxl]; exact a6
    refine ⟨_, rfl, _, rfl, two_le, fun p hp => ?_⟩
    have s1 : Same H (upd H p (.tup [.int r.2.1, .int r.2.2])) := Same.new hp
    have e1 : upd H p (.tup [.int r.2.1, .int r.2.2]) p = some (.tup (([r.2.1, r.2.2] : List Int).map V.int)) := upd_same
    generalize upd H p (.tup [.int r.2.1, .int r.2.2]) = H1 at s1 e1 ⊢
    refine ⟨p, rfl, ⟨_, SqT.of e1⟩, fun D hD => ?_⟩
    refine comp_tup (K := K) (a := p) (xs := ([r.2.1, r.2.2] : List Int).map V.int) (fun i vs H2 => Same H1 H2 ∧ H2 D = some (.lst vs) ∧ ∃ bs : List Bool, vs = bs.map V.bl ∧ AllB (fun c => ∀ q, Nd ts c q → r.1 < q.1) bs (([r.2.1, r.2.2] : List Int).take i)) ⟨Same.new hD, upd_same, [], rfl, AllB.nil⟩ (fun i vs H2 _ ⟨s2, _⟩ => SqT.of (s2 _ _ e1)) ?_ ?_
    · rintro i x vs H2 hx ⟨s2, hD2, bs, rfl, B⟩
      obtain ⟨c, rfl, hc⟩ := ints_get hx
      have hcr : 0 ≤ c ∧ c < (ts.length : Int) + 2 := by
        match i, hc with
        | 0, hc => simp at hc; subst hc; exact ⟨a3, a4'⟩
        | 1, hc => simp at hc; subst hc; exact ⟨by omega, a6'⟩
      have hbl : bs.length ≤ 2 := by rw [B.len, List.length_take]; exact Nat.min_le_right _ _
      have h16 : (16777216 : Nat) = sizeLine := sizeLine_eq.symm
      refine ⟨⟨rfl, rfl, trivial⟩, ?_⟩
      unfold tYes
      refine iteT ?_
      refine ⟨_, rfl, _, _, rfl, rfl, _, rfl, ite2 (fun c1 => ?_) (fun c1 => ?_)⟩
      · have c1' : c < 2 := of_decide_eq_true c1
        refine ⟨hD2, by rw [List.length_map]; omega, s2.put hD, upd_same, bs ++ [true], by rw [List.map_append]; rfl, B.next hc ⟨fun _ q n => absurd n.1 (by omega), fun _ => rfl⟩⟩
      · have c1' : ¬ c < 2 := fun z => c1 (decide_eq_true z)
        obtain ⟨qn, n⟩ := nd_of (ts := ts) (c := c) (by omega) hcr.2
        obtain ⟨t', et1, et2⟩ := node_at (tr.same (s1.trans s2)) n
        refine ⟨_, rfl, _, rfl, _, _, rfl, rfl, l, _, _, _, rfl, rfl, SqL.of ((s1.trans s2) _ _ el), et1, t', _, _, _, rfl, rfl, SqT.of et2, atI_nat (j := 0) rfl, _, rfl, _, _, rfl, rfl, hD2, by rw [List.length_map]; omega, s2.put hD, upd_same, bs ++ [decide (r.1 < qn.1)], by rw [List.map_append]; rfl, B.next hc ?_⟩
        exact ⟨fun z q n' => by rw [n'.one n]; exact of_decide_eq_true z, fun z => decide_eq_true (z qn n)⟩
    · rintro vs H2 ⟨s2, hD2, bs, rfl, B⟩
      refine ⟨D, bs, rfl, SqL.of hD2, ?_⟩
      refine q _ _ (s1.trans s2) (B.all.trans ⟨fun h => ⟨⟨a1, a2⟩, ⟨a3, a4'⟩, ⟨a5, a6'⟩, h _ (by simp), h _ (by simp)⟩, fun h c hc => ?_⟩)
      rcases List.mem_cons.mp (show c ∈ [r.2.1, r.2.2] from hc) with z | z
      · rw [z]; exact h.lo
      · rw [List.mem_singleton] at z
        rw [z]; exact h.hi
end
end M
namespace M
open PySem L2
section
variable {P : Program} {w : World} {K : PySem.W.Frag} {mg : Str → Option Value} {base : Heap}
/-! ### is_least -/
structure Least (ts : List Tri) (root many : Int) : Prop where
  rt : 0 ≤ root ∧ root < (ts.length : Int) + 2
  nd : ts.Nodup
  ok : ∀ r ∈ ts, NodeOk ts many r
  fnd : ∀ fs, Rch ts root fs → Fin ts root fs → fs = seq2 ts.length
def spLea : Sp := fun vs H Q _ => ∃ (wb pl tb l : Addr) (p0 : V) (root : Int) (ys xs : List V) (ts : List Tri), vs = [.ref wb, .ref tb] ∧ H wb = some (.tup [p0, .ref pl]) ∧ H pl = some (.lst ys) ∧ ys.length ≤ 30 ∧ TabAt H tb l root xs ts ∧ ts.length ≤ 76 ∧
  ∀ (b : Bool) (H' : Hp), Same H H' → (b = true ↔ Least ts root (ys.length : Int)) → Q (.bl b) H'
theorem scLea : FnScope ["web", "table", "root", "nodes"] ["web", "table"] (defScope sLea) := ⟨rfl, rfl, rfl, by decide +kernel, rfl, by decide +kernel, by decide +kernel⟩
theorem ok_lea {f fF fG : Addr} {fd fdF fdG : FuncData} (F : Fun K "is_least" "is_least" sLea f fd) (FF : Fun K "found_from" "found_from" sFou fF fdF) (bF : Binds K fdF ["root", "nodes"] []) (mF : mg "found_from" = some (.ref fF))
    (FG : Fun K "is_right_node" "is_right_node" sRig fG fdG) (bG : Binds K fdG ["web", "nodes", "node"] []) (mG : mg "is_right_node" = some (.ref fG)) (mLen : mg "len" = none) (mAll : mg "all" = none) (mSet : mg "set" = none) (mLst : mg "list" = none) (mRange : mg "range" = none) : FnOk P w K mg base CX0 2 f fd ["web", "table"] spLea := by
  have GF : FnOk P w K mg base CX0 1 fF fdF ["root", "nodes"] spFou := ok_fou FF
  have GG : FnOk P w K mg base CX0 1 fG fdG ["web", "nodes", "node"] spRig := ok_rig FG mLen mAll
  refine F.ok scLea (fun vs H Q E h => ?_) (fun cdv A outer s H vs Q E hr h => ?_)
  · obtain ⟨_, _, _, _, _, _, _, _, _, rfl, _⟩ := h
    rfl
  · obtain ⟨wb, pl, tb, l, p0, root, ys, xs, ts, rfl, ew, ep, hys, W, hts, q⟩ := h
    have hxl := W.t.len
    have hu := hr.units
    have h16 : (16777216 : Nat) = sizeLine := sizeLine_eq.symm
    refine ⟨_, pss_cons (ps_asg (pv 1) (kTup K (n := 2) rfl (pgs_cons (pg_name (i := 2) scLea.nd rfl (Or.inl rfl)) (pgs_cons (pg_name (i := 3) scLea.nd rfl (Or.inr rfl)) pgs_nil))))
       (pss_cons (ps_if (PW.pt (pw_or (pt_not (pt_chain op_le op_lt pe_int (pv 2) (pe_op op_add (pe_callB (kLen K) rfl mLen PySem.boot_len (pa_cons (pv 3) pa_nil)) pe_int))) (pw_or1 (pt_cmpR op_lt (pe_callB kLenN rfl mLen PySem.boot_len (pa_cons (pe_callTy (kSetT K rfl hu) rfl mSet boot_set (pa_cons (pv 3) pa_nil)) pa_nil)) (pe_callB (kLen K) rfl mLen PySem.boot_len (pa_cons (pv 3) pa_nil)) (nomark _))))) (pss_one (ps_ret pe_bl)) pss_nil)
       (pss_cons (ps_if (pt_not (pt_val (pe_callB (kAll K rfl) rfl mAll boot_all (pa_cons (pe_comp (own := ["node"]) rfl (compScope_free (fr := [("web", 0), ("nodes", 3)]) [(".0", .local), ("node", .local), ("is_right_node", .globalImplicit), ("nodes", .cell), ("web", .cell)] rfl rfl (by decide +kernel) rfl (by decide +kernel) ⟨rfl, rfl, trivial⟩ ⟨fun h => no_cf h, fun h => no_cf h, fun h => no_cf h, fun _ => ⟨_, rfl⟩, fun _ => ⟨_, rfl⟩, trivial⟩ ⟨⟨rfl, .inl rfl, .inl rfl⟩, ⟨rfl, .inl rfl, .inl rfl⟩, trivial⟩) (kList K (pv 3)) (fun _ _ _ _ => pg_name (i := 0) (show List.Nodup (["node", "web", "nodes"] : List Str) by decide +kernel) rfl (Or.inl rfl)) (fun _ _ _ _ => pifs_nil) (fun _ _ _ _ => pe_call GG (hr.mono (by decide)) rfl mG FG.kp bG .nil pass0 (pa_cons (pv 1) (pa_cons (pv 2) (pa_cons (pv 0) pa_nil))))) pa_nil)))) (pss_one (ps_ret pe_bl)) pss_nil)
       (pss_one (ps_ret (pe_cmpR (kEqD K hu) (pe_call GF (hr.mono (by decide)) rfl mF FF.kp bF .nil pass0 (pa_cons (pv 2) (pa_cons (pv 3) pa_nil))) (pe_callTy (call_list_rng2 rfl) rfl mLst boot_list (pa_cons (pe_rng2 rfl mRange (pa_cons pe_int (pa_cons (pe_op op_add (pe_callB (kLen K) rfl mLen PySem.boot_len (pa_cons (pv 3) pa_nil)) pe_int) pa_nil))) pa_nil)) (nomark _)))))), ?_⟩
    refine ⟨_, rfl, tb, _, rfl, SqT.of W.w, rfl, _, _, rfl, _, _, rfl, rfl, ?_⟩
    have no : ∀ H', Same H H' → ¬ Least ts root (ys.length : Int) → Q (.bl false) H' := fun H' s h => q false H' s ⟨fun z => (by cases z), fun z => absurd z h⟩
    refine ⟨_, rfl, _, _, rfl, rfl, _, rfl, ite2 (fun a1 => ?_) (fun a1 => ?_)⟩
    rotate_left
    · refine ⟨_, rfl, iteT (iteT (no _ (Same.refl _) fun z => a1 (decide_eq_true z.rt.1)))⟩
    refine ⟨_, rfl, l, xs, rfl, .inl (SqL.of W.l), _, _, rfl, rfl, _, _, rfl, rfl, _, rfl, ?_⟩
    by_cases a2 : root < (xs.length : Int) + 2
    rotate_left
    · rw [decide_eq_false a2]
      exact iteT (iteT (no _ (Same.refl _) fun z => a2 (by rw [hxl]; exact z.rt.2)))
    rw [decide_eq_true a2]
    refine iteF ?_
    have a1 := of_decide_eq_true a1
    have a2' : root < (ts.length : Int) + 2 := by rw [← hxl]; exact a2
    refine ⟨_, rfl, l, xs, ts, rfl, SqL.of W.l, W.t, hts, fun sl m hsl h1 h2 => ?_⟩
    have s1 : Same H (upd H sl (SetN sl m)) := Same.new hsl
    refine ⟨sl, m, rfl, upd_same, _, rfl, l, xs, rfl, .inl (SqL.of (s1 _ _ W.l)), _, _, rfl, rfl, _, rfl, ?_⟩
    generalize upd H sl (SetN sl m) = H1 at s1 ⊢
    by_cases a3 : (m : Int) < (xs.length : Int)
    · rw [decide_eq_true a3]
      exact iteT (no _ s1 fun z => by have := h2.mpr z.nd; omega)
    rw [decide_eq_false a3]
    refine iteF ?_
    have hnd : ts.Nodup := h2.mp (by omega)
    have W1 := W.same s1
    refine ⟨_, rfl, l, rfl, ⟨_, SqL.of W1.l⟩, fun D hD => ?_⟩
    refine comp_list (K := K) (a := l) (xs := xs) (fun i vs H2 => Same H1 H2 ∧ H2 D = some (.lst vs) ∧ ∃ bs : List Bool, vs = bs.map V.bl ∧ AllB (fun r => NodeOk ts (ys.length : Int) r) bs (ts.take i)) ⟨Same.new hD, upd_same, [], rfl, AllB.nil⟩ (fun i vs H2 _ ⟨s2, _⟩ => SqL.of (s2 _ _ W1.l)) ?_ ?_
    · rintro i x vs H2 hx ⟨s2, hD2, bs, rfl, B⟩
      have S2 := s1.trans s2
      obtain ⟨t, r, rfl, et, er⟩ := (W.t.same S2).get hx
      have hbl : bs.length ≤ 76 := by rw [B.len, List.length_take]; omega
      refine ⟨⟨rfl, rfl, trivial⟩, ?_⟩
      unfold tYes
      refine iteT ?_
      refine ⟨_, rfl, _, rfl, _, rfl, wb, pl, l, t, p0, ys, xs, ts, r, rfl, S2 _ _ ew, S2 _ _ ep, S2 _ _ W.l, W.t.same S2, et, fun b H3 s3 hb => ?_⟩
      exact ⟨s3 _ _ hD2, by rw [List.length_map]; omega, (s2.trans s3).put hD, upd_same, bs ++ [b], by rw [List.map_append]; rfl, B.next er hb⟩
    · rintro vs H2 ⟨s2, hD2, bs, rfl, B⟩
      rw [hxl, List.take_length] at B
      have S2 := s1.trans s2
      refine ⟨D, bs, rfl, SqL.of hD2, _, rfl, ?_⟩
      by_cases a4 : bs.all id = true
      rotate_left
      · rw [Bool.eq_false_iff.mpr a4]
        exact iteT (no _ S2 fun z => a4 (B.all.mpr z.ok))
      rw [a4]
      refine iteF ?_
      have hok := B.all.mp a4
      have T : TabOk ts := tab_of (by omega) hok
      have ar : At ts root (-1) := at_of a1 a2' fun q n => by have := (T.nd n).1; omega
      have W2 := W.same S2
      refine ⟨_, rfl, _, rfl, l, root, xs, ts, rfl, W2.l, W2.t, T, hts, ar, fun fl fs H3 s3 efl rch fin nd nod => ?_⟩
      have S3 := S2.trans s3
      have W3 := W.same S3
      refine ⟨_, rfl, l, xs, rfl, .inl (SqL.of W3.l), _, _, rfl, rfl, _, _, rfl, fun rg hrg => ?_⟩
      have s4 : Same H3 (upd H3 rg (.rng 2 ((xs.length : Int) + 2))) := Same.new hrg
      refine ⟨rg, xs.length, rfl, upd_same, by omega, fun rl hrl => ?_⟩
      have s5 := s4.put (o := .lst ((seq2 xs.length).map V.int)) (s4.free hrl)
      refine ⟨.list (fs.map PyData.int), .list ((seq2 xs.length).map PyData.int), .lst (SqL.of (s5 _ _ efl)) (ints_dats _), .lst (SqL.of upd_same) (ints_dats _), ints_shaped _, ints_shaped _, ?_⟩
      rw [ints_eqv, show (false != decide (fs = seq2 xs.length)) = decide (fs = seq2 xs.length) by cases decide (fs = seq2 xs.length) <;> rfl]
      refine q _ _ (S3.trans s5) ⟨fun h => ⟨⟨a1, a2'⟩, hnd, hok, fun fs' r' f' => ?_⟩, fun h => decide_eq_true ?_⟩
      · rw [r'.eq f' rch fin, ← hxl]
        exact of_decide_eq_true h
      · rw [hxl]
        exact h.fnd fs rch fin
/-! ### _law_least -/
def spLle : Sp := fun vs H Q _ => ∃ (tb l : Addr) (root many : Int) (xs : List V) (ts : List Tri), vs = [.ref tb, .int many] ∧ many ≤ 30 ∧ TabAt H tb l root xs ts ∧ ts.length ≤ 70 ∧
  ∀ (b : Bool) (H' : Hp), Same H H' → (b = true ↔ Least ts root many) → Q (.bl b) H'
theorem scLle : FnScope ["table", "many", "root", "nodes", "size", "road", "low", "high"] ["table", "many"] (defScope sLle) := ⟨rfl, rfl, rfl, by decide +kernel, rfl, by decide +kernel, by decide +kernel⟩
theorem ok_lle {f fO : Addr} {fd fdO : FuncData} (F : Fun K "_law_least" "_law_least" sLle f fd) (FO : Fun K "_law_in_order" "_law_in_order" sIno fO fdO) (bO : Binds K fdO ["root", "nodes"] []) (mO : mg "_law_in_order" = some (.ref fO)) (mLen : mg "len" = none) (mSet : mg "set" = none) : FnOk P w K mg base CX0 2 f fd ["table", "many"] spLle := by
  have GO : FnOk P w K mg base CX0 1 fO fdO ["root", "nodes"] spIno := ok_ino FO mLen
  refine F.ok scLle (fun vs H Q E h => ?_) (fun cdv A outer s H vs Q E hr h => ?_)
  · obtain ⟨_, _, _, _, _, _, rfl, _⟩ := h
    rfl
  · obtain ⟨tb, l, root, many, xs, ts, rfl, hmany, W, hts, q⟩ := h
    have hxl := W.t.len
    have hu := hr.units
    have h16 : (16777216 : Nat) = sizeLine := sizeLine_eq.symm
    refine ⟨_, pss_cons (ps_asg (pv 0) (kTup K (n := 2) rfl (pgs_cons (pg_name (i := 2) scLle.nd rfl (Or.inl rfl)) (pgs_cons (pg_name (i := 3) scLle.nd rfl (Or.inl rfl)) pgs_nil))))
       (pss_cons (ps_set (i := 4) scLle.nd rfl (Or.inl rfl) (pe_op op_add (pe_callB (kLen K) rfl mLen PySem.boot_len (pa_cons (pv 3) pa_nil)) pe_int))
       (pss_cons (ps_if (PW.pt (pw_or (pt_cmpR op_lt (pv 2) pe_int (nomark _)) (pw_or (pt_cmpR op_ge (pv 2) (pv 4) (nomark _)) (pw_or1 (pt_cmpR op_ne (pe_callB kLenN rfl mLen PySem.boot_len (pa_cons (pe_callTy (kSetT K rfl hu) rfl mSet boot_set (pa_cons (pv 3) pa_nil)) pa_nil)) (pe_callB (kLen K) rfl mLen PySem.boot_len (pa_cons (pv 3) pa_nil)) (nomark _)))))) (pss_one (ps_ret pe_bl)) pss_nil)
       (pss_cons (ps_for PassesOwn.never rfl (kList K (pv 3)) (kTup K (n := 3) rfl (pgs_cons (pg_name (i := 5) scLle.nd rfl (Or.inl rfl)) (pgs_cons (pg_name (i := 6) scLle.nd rfl (Or.inl rfl)) (pgs_cons (pg_name (i := 7) scLle.nd rfl (Or.inl rfl)) pgs_nil))))
       (pss_cons (ps_if (PW.pt (pw_or (pt_cmpR op_lt (pv 5) pe_int (nomark _)) (pw_or (pt_cmpR op_ge (pv 5) (pv 1) (nomark _)) (pw_or (pt_cmpR op_lt (pv 6) pe_int (nomark _)) (pw_or (pt_cmpR op_ge (pv 6) (pv 4) (nomark _)) (pw_or (pt_cmpR op_lt (pv 7) pe_int (nomark _)) (pw_or1 (pt_cmpR op_ge (pv 7) (pv 4) (nomark _))))))))) (pss_one (ps_ret pe_bl)) pss_nil)
       (pss_one (ps_if (PW.pt (pw_or (PW.pt (pw_and (pt_cmpR op_gt (pv 6) pe_int (nomark _)) (pw_and1 (pt_cmpR op_le (pe_ix (kIxT K) (pe_ix (kIxL K) (pv 3) (pe_op op_sub (pv 6) pe_int) (fun _ _ => rfl)) pe_int (fun _ _ => rfl)) (pv 5) (nomark _))))) (pw_or1 (PW.pt (pw_and (pt_cmpR op_gt (pv 7) pe_int (nomark _)) (pw_and1 (pt_cmpR op_le (pe_ix (kIxT K) (pe_ix (kIxL K) (pv 3) (pe_op op_sub (pv 7) pe_int) (fun _ _ => rfl)) pe_int (fun _ _ => rfl)) (pv 5) (nomark _)))))))) (pss_one (ps_ret pe_bl)) pss_nil))))
       (pss_one (ps_ret (pe_cmpR (kEqD K hu) (pe_call GO (hr.mono (by decide)) rfl mO FO.kp bO .nil pass0 (pa_cons (pv 2) (pa_cons (pv 3) pa_nil))) (pv 0) (nomark _))))))), ?_⟩
    refine ⟨_, rfl, tb, _, rfl, SqT.of W.w, rfl, _, _, rfl, _, _, rfl, rfl, ?_⟩
    have no : ∀ H', Same H H' → ¬ Least ts root many → Q (.bl false) H' := fun H' s h => q false H' s ⟨fun z => (by cases z), fun z => absurd z h⟩
    refine ⟨_, rfl, l, xs, rfl, .inl (SqL.of W.l), _, _, rfl, rfl, ?_⟩
    refine ⟨_, rfl, _, _, rfl, rfl, _, rfl, ite2 (fun a1 => ?_) (fun a1 => ?_)⟩
    · exact iteT (no _ (Same.refl _) fun z => by have := of_decide_eq_true a1; have := z.rt.1; omega)
    have a1 : ¬ root < 0 := fun z => a1 (decide_eq_true z)
    refine ⟨_, rfl, _, rfl, _, _, rfl, rfl, _, rfl, ite2 (fun a2 => ?_) (fun a2 => ?_)⟩
    · exact iteT (no _ (Same.refl _) fun z => by have := of_decide_eq_true a2; have := z.rt.2; omega)
    have a2 : ¬ (xs.length : Int) + 2 ≤ root := fun z => a2 (decide_eq_true z)
    refine ⟨_, rfl, l, xs, ts, rfl, SqL.of W.l, W.t, by omega, fun sl m hsl h1 h2 => ?_⟩
    have s1 : Same H (upd H sl (SetN sl m)) := Same.new hsl
    refine ⟨sl, m, rfl, upd_same, _, rfl, l, xs, rfl, .inl (SqL.of (s1 _ _ W.l)), ?_⟩
    generalize upd H sl (SetN sl m) = H1 at s1 ⊢
    refine ⟨rfl, _, rfl, ?_⟩
    by_cases a3 : V.int (m : Int) = V.int (xs.length : Int)
    rotate_left
    · rw [decide_eq_false a3]
      exact iteT (no _ s1 fun z => a3 (by have := h2.mpr z.nd; rw [this, hxl]))
    rw [decide_eq_true a3]
    refine iteF ?_
    have a3 := V.int.inj a3
    have hnd : ts.Nodup := h2.mp (by omega)
    have W1 := W.same s1
    refine ⟨_, rfl, l, rfl, ⟨_, SqL.of W1.l⟩, ?_⟩
    refine for_list (K := K) (a := l) (xs := xs) (fun i σ' H' => ∃ v5 v6 v7 : Option V, σ' = [some (.ref tb), some (.int many), some (.int root), some (.ref l), some (.int ((xs.length : Int) + 2)), v5, v6, v7] ∧ H1 = H' ∧ ∀ r ∈ ts.take i, NodeOk ts many r)
      ⟨none, none, none, rfl, rfl, fun r hr => by rw [List.take_zero] at hr; cases hr⟩ (fun i σ' H' _ ⟨_, _, _, _, e, _⟩ => by rw [← e]; exact SqL.of W1.l) ?_ ?_
    · rintro i x σ' H' hx ⟨v5, v6, v7, rfl, rfl, hok⟩
      obtain ⟨t, r, rfl, et, er⟩ := W1.t.get hx
      have hrm : r ∈ ts := List.mem_of_getElem? er
      refine ⟨t, _, rfl, SqT.of et, rfl, _, _, rfl, _, _, rfl, _, _, rfl, rfl, ?_⟩
      have no1 : ¬ NodeOk ts many r → Q (.bl false) H1 := fun h => no _ s1 fun z => h (z.ok r hrm)
      refine ⟨_, rfl, _, _, rfl, rfl, _, rfl, ite2 (fun b1 => ?_) (fun b1 => ?_)⟩
      · exact iteT (no1 fun z => by have := of_decide_eq_true b1; have := z.road.1; omega)
      have b1 : ¬ r.1 < 0 := fun z => b1 (decide_eq_true z)
      refine ⟨_, rfl, _, rfl, _, _, rfl, rfl, _, rfl, ite2 (fun b2 => ?_) (fun b2 => ?_)⟩
      · exact iteT (no1 fun z => by have := of_decide_eq_true b2; have := z.road.2; omega)
      have b2 : ¬ many ≤ r.1 := fun z => b2 (decide_eq_true z)
      refine ⟨_, rfl, _, _, rfl, rfl, _, rfl, ite2 (fun b3 => ?_) (fun b3 => ?_)⟩
      · exact iteT (no1 fun z => by have := of_decide_eq_true b3; have := z.low.1; omega)
      have b3 : ¬ r.2.1 < 0 := fun z => b3 (decide_eq_true z)
      refine ⟨_, rfl, _, rfl, _, _, rfl, rfl, _, rfl, ite2 (fun b4 => ?_) (fun b4 => ?_)⟩
      · exact iteT (no1 fun z => by have := of_decide_eq_true b4; have := z.low.2; omega)
      have b4 : ¬ (xs.length : Int) + 2 ≤ r.2.1 := fun z => b4 (decide_eq_true z)
      refine ⟨_, rfl, _, _, rfl, rfl, _, rfl, ite2 (fun b5 => ?_) (fun b5 => ?_)⟩
      · exact iteT (no1 fun z => by have := of_decide_eq_true b5; have := z.high.1; omega)
      have b5 : ¬ r.2.2 < 1 := fun z => b5 (decide_eq_true z)
      refine ⟨_, rfl, _, rfl, _, _, rfl, rfl, _, rfl, ?_⟩
      by_cases b6 : (xs.length : Int) + 2 ≤ r.2.2
      · rw [decide_eq_true b6]
        exact iteT (no1 fun z => by have := z.high.2; omega)
      rw [decide_eq_false b6]
      refine iteF ?_
      have yes : (∀ q, Nd ts r.2.1 q → r.1 < q.1) → (∀ q, Nd ts r.2.2 q → r.1 < q.1) → ∀ r ∈ ts.take (i + 1), NodeOk ts many r := fun h1 h2 r' hr' => by
        obtain ⟨hi, e'⟩ := List.getElem?_eq_some_iff.mp er
        rw [List.take_succ_eq_append_getElem hi, e'] at hr'
        rcases List.mem_append.mp hr' with z | z
        · exact hok r' z
        · rw [List.mem_singleton] at z
          rw [z]
          exact ⟨⟨by omega, by omega⟩, ⟨by omega, by omega⟩, ⟨by omega, by omega⟩, h1, h2⟩
      -- low
      refine ⟨_, rfl, _, _, rfl, rfl, _, rfl, ite2 (fun c1 => ?_) (fun c1 => ?_)⟩
      · have c1 : 1 < r.2.1 := of_decide_eq_true c1
        obtain ⟨ql, nl⟩ := nd_of (ts := ts) c1 (by omega)
        obtain ⟨tl, el1, el2⟩ := node_at W1.t nl
        refine ⟨_, rfl, _, rfl, _, _, rfl, rfl, l, _, _, _, rfl, rfl, SqL.of W1.l, el1, tl, _, _, _, rfl, rfl, SqT.of el2, atI_nat (j := 0) rfl, _, rfl, _, _, rfl, rfl, _, rfl, ite2 (fun c2 => ?_) (fun c2 => ?_)⟩
        · exact iteT (no1 fun z => by have := of_decide_eq_true c2; have := z.lo ql nl; omega)
        have c2 : ¬ ql.1 ≤ r.1 := fun z => c2 (decide_eq_true z)
        have hlo : ∀ q, Nd ts r.2.1 q → r.1 < q.1 := fun q n => by rw [n.one nl]; omega
        refine ⟨_, rfl, _, _, rfl, rfl, _, rfl, ite2 (fun d1 => ?_) (fun d1 => ?_)⟩
        · have d1 : 1 < r.2.2 := of_decide_eq_true d1
          obtain ⟨qh, nh⟩ := nd_of (ts := ts) d1 (by omega)
          obtain ⟨th, eh1, eh2⟩ := node_at W1.t nh
          refine ⟨_, rfl, _, rfl, _, _, rfl, rfl, l, _, _, _, rfl, rfl, SqL.of W1.l, eh1, th, _, _, _, rfl, rfl, SqT.of eh2, atI_nat (j := 0) rfl, _, rfl, _, _, rfl, rfl, _, rfl, ite2 (fun d2 => ?_) (fun d2 => ?_)⟩
          · exact no1 fun z => by have := of_decide_eq_true d2; have := z.hi qh nh; omega
          · have d2 : ¬ qh.1 ≤ r.1 := fun z => d2 (decide_eq_true z)
            exact ⟨_, _, _, rfl, rfl, yes hlo fun q n => by rw [n.one nh]; omega⟩
        · have d1 : ¬ 1 < r.2.2 := fun z => d1 (decide_eq_true z)
          exact iteF ⟨_, _, _, rfl, rfl, yes hlo fun q n => by have := n.1; omega⟩
      · have c1 : ¬ 1 < r.2.1 := fun z => c1 (decide_eq_true z)
        have hlo : ∀ q, Nd ts r.2.1 q → r.1 < q.1 := fun q n => by have := n.1; omega
        refine iteF ?_
        refine ⟨_, rfl, _, _, rfl, rfl, _, rfl, ite2 (fun d1 => ?_) (fun d1 => ?_)⟩
        · have d1 : 1 < r.2.2 := of_decide_eq_true d1
          obtain ⟨qh, nh⟩ := nd_of (ts := ts) d1 (by omega)
          obtain ⟨th, eh1, eh2⟩ := node_at W1.t nh
          refine ⟨_, rfl, _, rfl, _, _, rfl, rfl, l, _, _, _, rfl, rfl, SqL.of W1.l, eh1, th, _, _, _, rfl, rfl, SqT.of eh2, atI_nat (j := 0) rfl, _, rfl, _, _, rfl, rfl, _, rfl, ite2 (fun d2 => ?_) (fun d2 => ?_)⟩
          · exact no1 fun z => by have := of_decide_eq_true d2; have := z.hi qh nh; omega
          · have d2 : ¬ qh.1 ≤ r.1 := fun z => d2 (decide_eq_true z)
            exact ⟨_, _, _, rfl, rfl, yes hlo fun q n => by rw [n.one nh]; omega⟩
        · have d1 : ¬ 1 < r.2.2 := fun z => d1 (decide_eq_true z)
          exact iteF ⟨_, _, _, rfl, rfl, yes hlo fun q n => by have := n.1; omega⟩
    · rintro σ' H' ⟨v5, v6, v7, rfl, rfl, hok⟩
      rw [hxl, List.take_length] at hok
      have T : TabOk ts := tab_of hmany hok
      have ar : At ts root (-1) := at_of (by omega) (by omega) fun q n => by have := (T.nd n).1; omega
      refine ⟨_, rfl, _, rfl, l, root, xs, ts, rfl, W1.l, W1.t, T, hts, ar, fun p l' a0 xs' us fs H2 s2 hp hl' W2 rch fin nd nod S hul hle h0 => ?_⟩
      have W3 := W1.same s2
      refine ⟨_, rfl, .tuple [.int a0, .list (us.map trD)], .tuple [.int root, .list (ts.map trD)], .tup (SqT.of W2.w) (.cons (.int _) (.cons (.lst (SqL.of W2.l) W2.t.dats) .nil)), .tup (SqT.of W3.w) (.cons (.int _) (.cons (.lst (SqL.of W3.l) W3.t.dats) .nil)), tab_shaped _ _, tab_shaped _ _, ?_⟩
      rw [tab_eqv]
      have key := said_same rch nd nod S hul T (by omega) (by omega) h0
      refine q _ _ (s1.trans s2) ?_
      rw [show (false != (decide (a0 = root) && decide (us = ts))) = (decide (a0 = root) && decide (us = ts)) by cases (decide (a0 = root) && decide (us = ts)) <;> rfl, Bool.and_eq_true, decide_eq_true_eq, decide_eq_true_eq]
      constructor
      · rintro ⟨h1, h2⟩
        exact ⟨⟨by omega, by omega⟩, hnd, hok, fun fs' r' f' => by rw [r'.eq f' rch fin]; exact key.mp ⟨h2, h1⟩⟩
      · intro h
        obtain ⟨h1, h2⟩ := key.mpr (h.fnd fs rch fin)
        exact ⟨h2, h1⟩
end
end M
namespace M
open PySem L2
section
variable {P : Program} {w : World} {K : PySem.W.Frag} {mg : Str → Option Value} {base : Heap}
/-- any table, told -/
def Bnt (H : Hp) (Q : VK) : Prop := ∀ (p l : Addr) (root : Int) (xs : List V) (us : List Tri) (H' : Hp), Same H H' → TabAt H' p l root xs us → us.length ≤ 70 → Q (.ref p) H'
theorem Bnt.same {H H1 : Hp} {Q : VK} (h : Bnt H Q) (s : Same H H1) : Bnt H1 Q := fun p l root xs us H' s' W n => h p l root xs us H' (s.trans s') W n
theorem Bnt.two {H : Hp} {Q : VK} {ks : List Tri} {root : Int} (h : Bnt H Q) (hn : ks.length ≤ 70) : Told2 H ks root Q := fun p l a0 xs us fs H' s hp hl W R Fi nd nod S hus hle h0 => h p l a0 xs us H' s W (by omega)
/-! ### _law_pairs -/
def triN : Nat → Nat
  | 0 => 0
  | n + 1 => triN n + n
def spPai : Sp := fun vs H Q _ => ∃ (many : Nat), vs = [.int 9, .int (many : Int)] ∧ many ≤ 30 ∧ ∀ (l : Addr) (ys : List V) (rs : List (Int × Int)) (H' : Hp), Same H H' → H' l = some (.lst ys) → Prs H' ys rs → ys.length = many → Q (.ref l) H'
theorem scPai : FnScope ["places", "many", "found", "b", "a"] ["places", "many"] (defScope sPai) := ⟨rfl, rfl, rfl, by decide +kernel, rfl, by decide +kernel, by decide +kernel⟩
theorem triN_le : ∀ i, i ≤ 9 → triN i ≤ 36 := by decide
theorem ok_pai {f : Addr} {fd : FuncData} (F : Fun K "_law_pairs" "_law_pairs" sPai f fd) (mRange : mg "range" = none) : FnOk P w K mg base CX0 1 f fd ["places", "many"] spPai := by
  refine F.ok scPai (fun vs H Q E h => ?_) (fun cdv A outer s H vs Q E hr h => ?_)
  · obtain ⟨_, rfl, _⟩ := h
    rfl
  · obtain ⟨many, rfl, hm, q⟩ := h
    have h16 : (16777216 : Nat) = sizeLine := sizeLine_eq.symm
    refine ⟨_, pss_cons (ps_set (i := 2) scPai.nd rfl (Or.inl rfl) (pe_lst pa_nil))
       (pss_cons (ps_for PassesOwn.never rfl (pi_range1 rfl mRange (pa_cons (pv 0) pa_nil)) (pg_name (i := 3) scPai.nd rfl (Or.inl rfl))
       (pss_one (ps_for PassesOwn.never rfl (pi_range1 rfl mRange (pa_cons (pv 3) pa_nil)) (pg_name (i := 4) scPai.nd rfl (Or.inl rfl))
       (pss_one (ps_expr (pe_bm PySem.F.plainAttrs_list PySem.F.slot_list_append PySem.F.type_list_append mt_append (pv 2) (pa_cons (pe_tup (pa_cons (pv 4) (pa_cons (pv 3) pa_nil))) pa_nil)))))))
       (pss_one (ps_ret (pe_slice (kSl K) (pv 2) po_none (po_some (pv 1)))))), ?_⟩
    refine ⟨Nat.zero_le _, fun l hl => ?_⟩
    refine ⟨_, rfl, _, rfl, by decide, by decide, ?_⟩
    refine for_range (lo := 0) (n := 9) (fun i σ H2 => ∃ (ys : List V) (rs : List (Int × Int)) (v3 v4 : Option V), σ = [some (.int 9), some (.int (many : Int)), some (.ref l), v3, v4] ∧ Same H H2 ∧ H2 l = some (.lst ys) ∧ Prs H2 ys rs ∧ ys.length = triN i) ⟨[], [], none, none, rfl, Same.new hl, upd_same, .nil, rfl⟩ ?_ ?_
    · rintro i σ H2 hi ⟨ys, rs, v3, v4, rfl, s2, e2, pr, ln⟩
      rw [Int.zero_add]
      have htr := triN_le i (by omega)
      refine ⟨_, rfl, _, rfl, by omega, by omega, ?_⟩
      rw [Int.toNat_natCast]
      refine for_range (lo := 0) (n := i) (fun j σ H2 => ∃ (ys : List V) (rs : List (Int × Int)) (v4 : Option V), σ = [some (.int 9), some (.int (many : Int)), some (.ref l), some (.int (i : Int)), v4] ∧ Same H H2 ∧ H2 l = some (.lst ys) ∧ Prs H2 ys rs ∧ ys.length = triN i + j) ⟨ys, rs, v4, rfl, s2, e2, pr, ln⟩ ?_ ?_
      · clear s2 e2 pr ln
        rintro j σ H3 hj ⟨ys, rs, v4, rfl, s3, e3, pr, ln⟩
        rw [Int.zero_add]
        refine ⟨_, rfl, .inl ⟨rfl, _, SqL.of e3⟩, _, rfl, _, rfl, two_le, fun T hT => ?_⟩
        have s4 : Same H3 (upd H3 T (.tup [.int (j : Int), .int (i : Int)])) := Same.new hT
        have eT : upd H3 T (.tup [.int (j : Int), .int (i : Int)]) T = some (.tup [.int (j : Int), .int (i : Int)]) := upd_same
        generalize upd H3 T (.tup [.int (j : Int), .int (i : Int)]) = H4 at s4 eT ⊢
        refine ⟨l, ys, _, rfl, rfl, s4 _ _ e3, by omega, ?_⟩
        have k5 := tups_lst (o := .lst (ys ++ [.ref T])) (s4 _ _ e3)
        exact ⟨ys ++ [.ref T], rs ++ [((j : Int), (i : Int))], _, rfl, (s3.trans s4).put hl, upd_same, ((pr.same s4).keep k5).snoc (k5 _ _ eT), by rw [List.length_append, List.length_singleton]; omega⟩
      · rintro σ H3 ⟨ys, rs, v4, rfl, s3, e3, pr, ln⟩
        exact ⟨ys, rs, _, _, rfl, s3, e3, pr, ln⟩
    · rintro σ H2 ⟨ys, rs, v3, v4, rfl, s2, e2, pr, ln⟩
      have ln : ys.length = 36 := ln
      refine ⟨_, rfl, _, rfl, _, rfl, l, _, rfl, SqL.of e2, fun p hp => ?_⟩
      have s3 : Same H2 (upd H2 p (.lst (cutV ys none (some (many : Int))))) := Same.new hp
      refine q p (ys.take many) (rs.take many) _ (s2.trans s3) (by rw [upd_same, cut_to]) ((pr.same s3).take many) (by rw [List.length_take]; omega)
/-! ### _law_node_bent -/
theorem at_two {a b j : Int} (h0 : 0 ≤ j) (h1 : j < 2) : ∃ z : Int, atI ([.int a, .int b] : List V) j = some (.int z) ∧ (z = a ∨ z = b) := by
  have hj : j = 0 ∨ j = 1 := by omega
  rcases hj with rfl | rfl
  · exact ⟨a, rfl, .inl rfl⟩
  · exact ⟨b, rfl, .inr rfl⟩
def spNob : Sp := fun vs H Q _ => ∃ (tb l : Addr) (root way num : Int) (at' : Nat) (xs : List V) (ts : List Tri), vs = [.ref tb, .int way, .int (at' : Int), .int num] ∧ TabAt H tb l root xs ts ∧ TabOk ts ∧ ts.length ≤ 60 ∧ at' < ts.length ∧
  ∀ (p : Addr) (a b c : Int) (H' : Hp), Same H H' → H' p = some (.tup [.int a, .int b, .int c]) → Q (.ref p) H'
theorem scNob : FnScope ["table", "way", "at", "number", "root", "nodes", "road", "low", "high", "size", "none", "child"] ["table", "way", "at", "number"] (defScope sNob) := ⟨rfl, rfl, rfl, by decide +kernel, rfl, by decide +kernel, by decide +kernel⟩
theorem ok_nob {f : Addr} {fd : FuncData} (F : Fun K "_law_node_bent" "_law_node_bent" sNob f fd) (mLen : mg "len" = none) : FnOk P w K mg base CX0 1 f fd ["table", "way", "at", "number"] spNob := by
  refine F.ok scNob (fun vs H Q E h => ?_) (fun cdv A outer s H vs Q E hr h => ?_)
  · obtain ⟨_, _, _, _, _, _, _, _, rfl, _⟩ := h
    rfl
  · obtain ⟨tb, l, root, way, num, at', xs, ts, rfl, W, T, hts, hat, q⟩ := h
    have h16 : (16777216 : Nat) = sizeLine := sizeLine_eq.symm
    have hxl := W.t.len
    have n3 : 3 ≤ sizeLine := by omega
    refine ⟨_, pss_cons (ps_asg (pv 0) (kTup K (n := 2) rfl (pgs_cons (pg_name (i := 4) scNob.nd rfl (Or.inl rfl)) (pgs_cons (pg_name (i := 5) scNob.nd rfl (Or.inl rfl)) pgs_nil))))
       (pss_cons (ps_asg (pe_ix (kIxL K) (pv 5) (pv 2) (fun _ _ => rfl)) (kTup K (n := 3) rfl (pgs_cons (pg_name (i := 6) scNob.nd rfl (Or.inl rfl)) (pgs_cons (pg_name (i := 7) scNob.nd rfl (Or.inl rfl)) (pgs_cons (pg_name (i := 8) scNob.nd rfl (Or.inl rfl)) pgs_nil)))))
       (pss_cons (ps_set (i := 9) scNob.nd rfl (Or.inl rfl) (pe_op op_add (pe_callB (kLen K) rfl mLen PySem.boot_len (pa_cons (pv 5) pa_nil)) pe_int))
       (pss_cons (ps_set (i := 10) scNob.nd rfl (Or.inl rfl) (pe_ix (kIxL K) (pe_lst (pa_cons (pe_op op_add (pv 9) (pe_op op_mod (pv 3) pe_int)) (pa_cons (pe_op op_sub (pe_un op_negI pe_int) (pe_op op_mod (pv 3) pe_int)) pa_nil))) (pe_op op_mod (pe_op op_fdivB (pv 3) pe_int) pe_int) (fun _ _ => rfl)))
       (pss_cons (ps_if (pt_cmpR op_eq (pv 1) pe_int (nomark _)) (pss_one (ps_ret (pe_tup (pa_cons (pv 6) (pa_cons (pv 7) (pa_cons pe_int pa_nil)))))) pss_nil)
       (pss_cons (ps_if (PW.pt (pw_and (pt_cmpR op_eq (pv 1) pe_int (nomark _)) (pw_and1 (pt_cmpR op_eq (pe_op op_mod (pe_op op_fdivB (pv 3) pe_int) pe_int) pe_int (nomark _))))) (pss_one (ps_ret (pe_tup (pa_cons (pv 6) (pa_cons (pv 10) (pa_cons (pv 8) pa_nil)))))) pss_nil)
       (pss_cons (ps_if (pt_cmpR op_eq (pv 1) pe_int (nomark _)) (pss_one (ps_ret (pe_tup (pa_cons (pv 6) (pa_cons (pv 7) (pa_cons (pv 10) pa_nil)))))) pss_nil)
       (pss_cons (ps_if (pt_cmpR op_eq (pv 1) pe_int (nomark _)) (pss_cons (ps_set (i := 11) scNob.nd rfl (Or.inl rfl) (pe_ix (kIxL K) (pe_lst (pa_cons (pv 7) (pa_cons (pv 8) pa_nil))) (pe_op op_mod (pv 3) pe_int) (fun _ _ => rfl)))
       (pss_cons (ps_if (pt_cmpR op_gt (pv 11) pe_int (nomark _)) (pss_one (ps_set (i := 6) scNob.nd rfl (Or.inl rfl) (pe_op op_add (pe_ix (kIxT K) (pe_ix (kIxL K) (pv 5) (pe_op op_sub (pv 11) pe_int) (fun _ _ => rfl)) pe_int (fun _ _ => rfl)) (pe_op op_mod (pe_op op_fdivB (pv 3) pe_int) pe_int)))) pss_nil)
       (pss_one (ps_ret (pe_tup (pa_cons (pv 6) (pa_cons (pv 7) (pa_cons (pv 8) pa_nil)))))))) pss_nil)
       (pss_cons (ps_if (PW.pt (pw_and (pt_cmpR op_eq (pv 1) pe_int (nomark _)) (pw_and1 (pt_cmpR op_eq (pe_op op_mod (pv 3) pe_int) pe_int (nomark _))))) (pss_one (ps_ret (pe_tup (pa_cons (pv 6) (pa_cons (pe_op op_add (pv 2) pe_int) (pa_cons (pv 8) pa_nil)))))) pss_nil)
       (pss_one (ps_ret (pe_tup (pa_cons (pv 6) (pa_cons (pv 7) (pa_cons (pv 4) pa_nil)))))))))))))), ?_⟩
    refine ⟨_, rfl, tb, _, rfl, SqT.of W.w, rfl, _, _, rfl, _, _, rfl, rfl, ?_⟩
    have er : ts[at']? = some ts[at'] := List.getElem?_eq_getElem hat
    generalize ts[at'] = r at er
    obtain ⟨hT0, hT1, hT2⟩ := T at' r er
    obtain ⟨t, et1, et2⟩ := W.t.at er
    refine ⟨_, rfl, _, rfl, l, _, _, _, rfl, rfl, SqL.of W.l, atI_nat et1, t, _, rfl, SqT.of et2, rfl, _, _, rfl, _, _, rfl, _, _, rfl, rfl, ?_⟩
    refine ⟨_, rfl, l, xs, rfl, .inl (SqL.of W.l), _, _, rfl, rfl, ?_⟩
    dsimp only [gName]
    refine seq_mid (fun σ' H' => ∃ z : Int, σ' = [some (.ref tb), some (.int way), some (.int (at' : Int)), some (.int num), some (.int root), some (.ref l), some (.int r.1), some (.int r.2.1), some (.int r.2.2), some (.int ((xs.length : Int) + 2)), some (.int z), none] ∧ Same H H') ?s1 ?f1
    case f1 =>
      intro hk
      refine ⟨_, rfl, _, rfl, _, _, rfl, rfl, (by show (0 : Int) < 3; decide), _, _, rfl, rfl, _, rfl, _, rfl, _, _, rfl, rfl, (by show (0 : Int) < 3; decide), _, _, rfl, rfl, two_le, fun p hp => ?_⟩
      obtain ⟨z, ez, _⟩ := at_two (a := (xs.length : Int) + 2 + num % 3) (b := -1 - num % 3) (j := num / 3 % 2) (Int.emod_nonneg _ (by decide)) (Int.emod_lt_of_pos _ (by decide))
      refine ⟨_, rfl, _, _, rfl, rfl, ⟨by decide, lt2_lit⟩, _, _, rfl, rfl, (by show (0 : Int) < 2; decide), p, _, _, _, rfl, rfl, SqL.of upd_same, ez, ?_⟩
      exact hk _ _ ⟨z, rfl, Same.new hp⟩
    rintro σ' H1 ⟨z, rfl, s1⟩
    have tell : ∀ {H2 : Hp}, Same H H2 → ∀ a b c : Int, ∀ p, H2 p = none → Q (.ref p) (upd H2 p (.tup [.int a, .int b, .int c])) := fun s2 a b c p hp => q p a b c _ (s2.put (s2.free hp)) upd_same
    -- 1
    refine ⟨_, rfl, rfl, _, rfl, ite2 (fun _ => ?_) (fun _ => ?_)⟩
    · exact ⟨_, rfl, _, rfl, n3, tell s1 _ _ _⟩
    -- 2
    dsimp only [tNext]
    refine seq_mid (fun σ' H' => σ' = [some (.ref tb), some (.int way), some (.int (at' : Int)), some (.int num), some (.int root), some (.ref l), some (.int r.1), some (.int r.2.1), some (.int r.2.2), some (.int ((xs.length : Int) + 2)), some (.int z), none] ∧ H1 = H') ?s2 ?f2
    case f2 =>
      intro hk
      refine ⟨_, rfl, rfl, _, rfl, ite2 (fun _ => ?_) (fun _ => ?_)⟩
      · refine ⟨_, rfl, _, _, rfl, rfl, ⟨by decide, lt2_lit⟩, _, _, rfl, rfl, (by show (0 : Int) < 2; decide), rfl, _, rfl, ite2 (fun _ => ?_) (fun _ => ?_)⟩
        · exact ⟨_, rfl, _, rfl, _, rfl, n3, tell s1 _ _ _⟩
        · exact hk _ _ ⟨rfl, rfl⟩
      · exact iteF (hk _ _ ⟨rfl, rfl⟩)
    rintro σ' H' ⟨rfl, rfl⟩
    refine ⟨_, rfl, rfl, _, rfl, ite2 (fun _ => ?_) (fun _ => ?_)⟩
    · exact ⟨_, rfl, _, rfl, _, rfl, n3, tell s1 _ _ _⟩
    -- 3
    refine ⟨_, rfl, rfl, _, rfl, ite2 (fun _ => ?_) (fun _ => ?_)⟩
    · refine ⟨_, rfl, _, rfl, two_le, fun p hp => ?_⟩
      have s2 := s1.put (o := .lst [.int r.2.1, .int r.2.2]) (s1.free hp)
      obtain ⟨c, ec, hc⟩ := at_two (a := r.2.1) (b := r.2.2) (j := num % 2) (Int.emod_nonneg _ (by decide)) (Int.emod_lt_of_pos _ (by decide))
      refine ⟨_, rfl, _, _, rfl, rfl, (by show (0 : Int) < 2; decide), p, _, _, _, rfl, rfl, SqL.of upd_same, ec, ?_⟩
      generalize upd H1 p (.lst [.int r.2.1, .int r.2.2]) = H2 at s2 ⊢
      have ac : At ts c r.1 := by
        rcases hc with e | e
        · rw [e]; exact hT1
        · rw [e]; exact hT2
      dsimp only [gName]
      refine seq_mid (fun σ' H' => ∃ rd : Int, σ' = [some (.ref tb), some (.int way), some (.int (at' : Int)), some (.int num), some (.int root), some (.ref l), some (.int rd), some (.int r.2.1), some (.int r.2.2), some (.int ((xs.length : Int) + 2)), some (.int z), some (.int c)] ∧ H2 = H') ?s3 ?f3
      case f3 =>
        intro hk
        refine ⟨_, rfl, _, _, rfl, rfl, _, rfl, ite2 (fun c1 => ?_) (fun _ => ?_)⟩
        · have c1 : 1 < c := of_decide_eq_true c1
          obtain ⟨qc, nc, _⟩ := ac.nd c1
          obtain ⟨tc, ec1, ec2⟩ := node_at (W.t.same s2) nc
          refine ⟨_, rfl, _, rfl, _, _, rfl, rfl, l, _, _, _, rfl, rfl, SqL.of (s2 _ _ W.l), ec1, tc, _, _, _, rfl, rfl, SqT.of ec2, atI_nat (j := 0) rfl, _, rfl, _, _, rfl, rfl, ⟨by decide, lt2_lit⟩, _, _, rfl, rfl, (by show (0 : Int) < 2; decide), _, _, rfl, rfl, ?_⟩
          exact hk _ _ ⟨_, rfl, rfl⟩
        · exact hk _ _ ⟨_, rfl, rfl⟩
      rintro σ' H' ⟨rd, rfl, rfl⟩
      exact ⟨_, rfl, _, rfl, _, rfl, n3, tell s2 _ _ _⟩
    -- 4
    dsimp only [tNext]
    refine seq_mid (fun σ' H' => σ' = [some (.ref tb), some (.int way), some (.int (at' : Int)), some (.int num), some (.int root), some (.ref l), some (.int r.1), some (.int r.2.1), some (.int r.2.2), some (.int ((xs.length : Int) + 2)), some (.int z), none] ∧ H1 = H') ?s4 ?f4
    case f4 =>
      intro hk
      refine ⟨_, rfl, rfl, _, rfl, ite2 (fun _ => ?_) (fun _ => ?_)⟩
      · refine ⟨_, rfl, _, _, rfl, rfl, (by show (0 : Int) < 2; decide), rfl, _, rfl, ite2 (fun _ => ?_) (fun _ => ?_)⟩
        · exact ⟨_, rfl, _, rfl, _, _, rfl, rfl, _, rfl, n3, tell s1 _ _ _⟩
        · exact hk _ _ ⟨rfl, rfl⟩
      · exact iteF (hk _ _ ⟨rfl, rfl⟩)
    rintro σ' H' ⟨rfl, rfl⟩
    exact ⟨_, rfl, _, rfl, _, rfl, n3, tell s1 _ _ _⟩
/-! ### _law_any -/
def spAny : Sp := fun vs H Q _ => ∃ (cl : Addr) (cs : List Int), vs = [.ref cl] ∧ H cl = some (.lst (cs.map V.int)) ∧ cs ≠ [] ∧ cs.length ≤ 60 ∧ Bnt H Q
theorem scAny : FnScope ["cells", "size", "nodes", "cell"] ["cells"] (defScope sAny) := ⟨rfl, rfl, rfl, by decide +kernel, rfl, by decide +kernel, by decide +kernel⟩
theorem cut_tail1 (ns : List Int) : cutV (ns.map V.int) (some 1) none = (ns.drop 1).map V.int := by
  rw [show (some (1 : Int)) = some ((1 : Nat) : Int) from rfl, cut_from, List.map_drop]
theorem ok_any {f : Addr} {fd : FuncData} (F : Fun K "_law_any" "_law_any" sAny f fd) (mLen : mg "len" = none) : FnOk P w K mg base CX0 1 f fd ["cells"] spAny := by
  refine F.ok scAny (fun vs H Q E h => ?_) (fun cdv A outer s H vs Q E hr h => ?_)
  · obtain ⟨_, _, rfl, _⟩ := h
    rfl
  · obtain ⟨cl, cs, rfl, ecl, hne, hcs, q⟩ := h
    have h16 : (16777216 : Nat) = sizeLine := sizeLine_eq.symm
    have n3 : 3 ≤ sizeLine := by omega
    have hpos : 0 < cs.length := List.length_pos_iff.mpr hne
    have hml : (cs.map V.int).length = cs.length := List.length_map ..
    refine ⟨_, pss_cons (ps_set (i := 1) scAny.nd rfl (Or.inl rfl) (pe_op op_add (pe_callB (kLen K) rfl mLen PySem.boot_len (pa_cons (pv 0) pa_nil)) pe_int))
       (pss_cons (ps_set (i := 2) scAny.nd rfl (Or.inl rfl) (pe_lst pa_nil))
       (pss_cons (ps_for PassesOwn.never rfl (kList K (pe_slice (kSl K) (pv 0) (po_some pe_int) po_none)) (pg_name (i := 3) scAny.nd rfl (Or.inl rfl))
       (pss_one (ps_expr (pe_bm PySem.F.plainAttrs_list PySem.F.slot_list_append PySem.F.type_list_append mt_append (pv 2) (pa_cons (pe_tup (pa_cons (pe_op op_sub (pe_op op_mod (pv 3) pe_int) pe_int) (pa_cons (pe_op op_sub (pe_op op_mod (pe_op op_fdivB (pv 3) pe_int) (pe_op op_add (pv 1) pe_int)) pe_int) (pa_cons (pe_op op_sub (pe_op op_mod (pe_op op_fdivB (pe_op op_fdivB (pv 3) pe_int) (pe_op op_add (pv 1) pe_int)) (pe_op op_add (pv 1) pe_int)) pe_int) pa_nil)))) pa_nil)))))
       (pss_one (ps_ret (pe_tup (pa_cons (pe_op op_sub (pe_op op_mod (pe_ix (kIxL K) (pv 0) pe_int (fun _ _ => rfl)) (pe_op op_add (pv 1) pe_int)) pe_int) (pa_cons (pv 2) pa_nil))))))), ?_⟩
    refine ⟨_, rfl, cl, _, rfl, .inl (SqL.of ecl), _, _, rfl, rfl, ?_⟩
    refine ⟨Nat.zero_le _, fun nl hnl => ?_⟩
    have s1 : Same H (upd H nl (.lst [])) := Same.new hnl
    have enl0 : upd H nl (.lst []) nl = some (.lst []) := upd_same
    generalize upd H nl (.lst []) = H1 at s1 enl0 ⊢
    refine ⟨_, rfl, _, rfl, cl, _, rfl, SqL.of (s1 _ _ ecl), fun p hp => ?_⟩
    rw [cut_tail1]
    have s2 : Same H1 (upd H1 p (.lst ((cs.drop 1).map V.int))) := Same.new hp
    have ep : upd H1 p (.lst ((cs.drop 1).map V.int)) p = some (.lst ((cs.drop 1).map V.int)) := upd_same
    have hpn : p ≠ nl := fun z => by rw [z, enl0] at hp; cases hp
    generalize upd H1 p (.lst ((cs.drop 1).map V.int)) = H2 at s2 ep ⊢
    have sz : (0 : Int) < ((cs.map V.int).length : Int) + 2 + 2 := by omega
    refine ⟨p, rfl, ⟨_, SqL.of ep⟩, ?_⟩
    refine for_list (K := K) (a := p) (xs := (cs.drop 1).map V.int) (fun i σ' H' => ∃ (ys : List V) (us : List Tri) (v3 : Option V), σ' = [some (.ref cl), some (.int (((cs.map V.int).length : Int) + 2)), some (.ref nl), v3] ∧ Same H H' ∧ H' nl = some (.lst ys) ∧ H' p = some (.lst ((cs.drop 1).map V.int)) ∧ Trs H' ys us ∧ us.length = i)
      ⟨[], [], none, rfl, s1.trans s2, s2 _ _ enl0, ep, .nil, rfl⟩ (fun i σ' H' _ ⟨_, _, _, _, _, _, e, _⟩ => SqL.of e) ?_ ?_
    · rintro i y σ' H4 hy ⟨ys, us, v3, rfl, s4, enl, ep4, tus, hus⟩
      obtain ⟨c, rfl, hc⟩ := ints_get hy
      have hi := (List.getElem?_eq_some_iff.mp hc).1
      rw [List.length_drop] at hi
      have hyl := tus.len
      refine ⟨_, rfl, .inl ⟨rfl, _, SqL.of enl⟩, _, rfl, _, _, rfl, rfl, (by show (0 : Int) < 7; decide), _, _, rfl, rfl, _, rfl, _, _, rfl, rfl, ⟨by decide, lt2_lit⟩, _, rfl, _, _, rfl, rfl, _, _, rfl, rfl, sz, _, _, rfl, rfl, _, rfl, _, _, rfl, rfl, ⟨by decide, lt2_lit⟩, _, rfl, _, _, rfl, rfl, _, _, rfl, rfl, ⟨sz, lt2_n (by omega)⟩, _, rfl, _, _, rfl, rfl, _, _, rfl, rfl, sz, _, _, rfl, rfl, n3, fun T hT => ?_⟩
      have s5 := Same.new (o := .tup [.int (c % 7 - 1), .int (c / 7 % (((cs.map V.int).length : Int) + 2 + 2) - 1), .int (c / 7 / (((cs.map V.int).length : Int) + 2 + 2) % (((cs.map V.int).length : Int) + 2 + 2) - 1)]) hT
      refine ⟨nl, ys, _, rfl, rfl, s5 _ _ enl, by omega, ?_⟩
      have k6 := tups_lst (o := .lst (ys ++ [.ref T])) (s5 _ _ enl)
      exact ⟨ys ++ [.ref T], us ++ [(_, _, _)], _, rfl, (s4.trans s5).put hnl, upd_same, upd_eq (s5 _ _ ep4) hpn, ((tus.same s5).keep k6).snoc (k6 _ _ upd_same), by rw [List.length_append, List.length_singleton, hus]⟩
    · rintro σ' H4 ⟨ys, us, v3, rfl, s4, enl, ep4, tus, hus⟩
      rw [List.length_map, List.length_drop] at hus
      refine ⟨_, rfl, cl, _, _, _, rfl, rfl, SqL.of (s4 _ _ ecl), at_int (by omega) (by omega), _, rfl, _, _, rfl, rfl, _, _, rfl, rfl, sz, _, _, rfl, rfl, _, rfl, two_le, fun T hT => ?_⟩
      have s5 := Same.new (o := .tup [.int (cs.getD (0 : Int).toNat 0 % (((cs.map V.int).length : Int) + 2 + 2) - 1), .ref nl]) hT
      exact q T nl _ ys us _ (s4.trans s5) ⟨upd_same, s5 _ _ enl, tus.same s5⟩ (by omega)
end
end M
namespace M
open PySem L2
section
variable {P : Program} {w : World} {K : PySem.W.Frag} {mg : Str → Option Value} {base : Heap}
/-! ### _law_turned -/
def spTur : Sp := fun vs H Q _ => ∃ (tb l : Addr) (root : Int) (one other : Nat) (xs : List V) (ts : List Tri), vs = [.ref tb, .int (one : Int), .int (other : Int)] ∧ TabAt H tb l root xs ts ∧ TabOk ts ∧ At ts root (-1) ∧ ts.length ≤ 60 ∧ one < ts.length ∧ other < ts.length ∧ Bnt H Q
theorem scTur : FnScope ["table", "one", "other", "root", "nodes", "names", "said", "first"] ["table", "one", "other"] (defScope sTur) := ⟨rfl, rfl, rfl, by decide +kernel, rfl, by decide +kernel, by decide +kernel⟩
theorem ok_tur {f : Addr} {fd : FuncData} (F : Fun K "_law_turned" "_law_turned" sTur f fd) (mLen : mg "len" = none) (mLst : mg "list" = none) (mRange : mg "range" = none) : FnOk P w K mg base CX0 1 f fd ["table", "one", "other"] spTur := by
  refine F.ok scTur (fun vs H Q E h => ?_) (fun cdv A outer s H vs Q E hr h => ?_)
  · obtain ⟨_, _, _, _, _, _, _, rfl, _⟩ := h
    rfl
  · obtain ⟨tb, l, root, one, other, xs, ts, rfl, W, T, ar, hts, h1, h2, q⟩ := h
    have h16 : (16777216 : Nat) = sizeLine := sizeLine_eq.symm
    have hxl := W.t.len
    have n3 : 3 ≤ sizeLine := by omega
    have hroot := ar.lt
    refine ⟨_, pss_cons (ps_asg (pv 0) (kTup K (n := 2) rfl (pgs_cons (pg_name (i := 3) scTur.nd rfl (Or.inl rfl)) (pgs_cons (pg_name (i := 4) scTur.nd rfl (Or.inl rfl)) pgs_nil))))
       (pss_cons (ps_set (i := 5) scTur.nd rfl (Or.inr rfl) (pe_callTy (call_list_rng rfl) rfl mLst boot_list (pa_cons (pe_rng1 rfl mRange (pa_cons (pe_op op_add (pe_callB (kLen K) rfl mLen PySem.boot_len (pa_cons (pv 4) pa_nil)) pe_int) pa_nil)) pa_nil)))
       (pss_cons (ps_asg (pe_op op_add (pv 2) pe_int) (pg_sub (pv 5) (pe_op op_add (pv 1) pe_int) set_list))
       (pss_cons (ps_asg (pe_op op_add (pv 1) pe_int) (pg_sub (pv 5) (pe_op op_add (pv 2) pe_int) set_list))
       (pss_cons (ps_comp (i := 6) scTur.nd rfl (Or.inl rfl) (own := ["road", "low", "high"]) rfl (compScope_free (fr := [("names", 5)]) [(".0", .local), ("road", .local), ("low", .local), ("high", .local), ("names", .cell)] rfl rfl (by decide +kernel) rfl (by decide +kernel) ⟨rfl, trivial⟩ ⟨fun h => no_cf h, fun h => no_cf h, fun h => no_cf h, fun h => no_cf h, fun _ => ⟨_, rfl⟩, trivial⟩ ⟨⟨rfl, .inl rfl, .inl rfl⟩, trivial⟩) (kList K (pv 4)) (fun _ _ _ _ => kTup K (n := 3) rfl (pgs_cons (pg_name (i := 0) (show List.Nodup (["road", "low", "high", "names"] : List Str) by decide +kernel) rfl (Or.inl rfl)) (pgs_cons (pg_name (i := 1) (show List.Nodup (["road", "low", "high", "names"] : List Str) by decide +kernel) rfl (Or.inl rfl)) (pgs_cons (pg_name (i := 2) (show List.Nodup (["road", "low", "high", "names"] : List Str) by decide +kernel) rfl (Or.inl rfl)) pgs_nil)))) (fun _ _ _ _ => pifs_nil) (fun _ _ _ _ => pe_tup (pa_cons (pv 0) (pa_cons (pe_ix (kIxL K) (pv 3) (pv 1) (fun _ _ => rfl)) (pa_cons (pe_ix (kIxL K) (pv 3) (pv 2) (fun _ _ => rfl)) pa_nil)))))
       (pss_cons (ps_set (i := 7) scTur.nd rfl (Or.inl rfl) (pe_ix (kIxL K) (pv 6) (pv 1) (fun _ _ => rfl)))
       (pss_cons (ps_asg (pe_ix (kIxL K) (pv 6) (pv 2) (fun _ _ => rfl)) (pg_sub (pv 6) (pv 1) set_list))
       (pss_cons (ps_asg (pv 7) (pg_sub (pv 6) (pv 2) set_list))
       (pss_one (ps_ret (pe_tup (pa_cons (pe_ix (kIxL K) (pv 5) (pv 3) (fun _ _ => rfl)) (pa_cons (pv 6) pa_nil)))))))))))), ?_⟩
    refine ⟨_, rfl, tb, _, rfl, SqT.of W.w, rfl, _, _, rfl, _, _, rfl, rfl, ?_⟩
    refine ⟨_, rfl, l, xs, rfl, .inl (SqL.of W.l), _, _, rfl, rfl, _, rfl, fun rg hrg => ?_⟩
    refine ⟨rg, xs.length + 2, rfl, by rw [upd_same]; rfl, by omega, fun nl hnl => ?_⟩
    have s1 : Same H (upd H rg (.rng 0 ((xs.length : Int) + 2))) := Same.new hrg
    have hHnl : H nl = none := s1.free hnl
    have enl : ∃ ns : List Int, ns.length = xs.length + 2 ∧ upd (upd H rg (.rng 0 ((xs.length : Int) + 2))) nl (.lst ((List.range (xs.length + 2)).map fun i => V.int ((i : Nat) : Int))) nl = some (.lst (ns.map V.int)) := ⟨(List.range (xs.length + 2)).map fun (i : Nat) => (i : Int), by rw [List.length_map, List.length_range], by rw [upd_same, List.map_map]; rfl⟩
    have s2 : Same H (upd (upd H rg (.rng 0 ((xs.length : Int) + 2))) nl (.lst ((List.range (xs.length + 2)).map fun i => V.int ((i : Nat) : Int)))) := s1.put hHnl
    obtain ⟨ns, hns, enl⟩ := enl
    clear s1 hnl
    have go : ∀ (H3 : Hp), Same H H3 → (∃ ns : List Int, ns.length = xs.length + 2 ∧ H3 nl = some (.lst (ns.map V.int))) → True := fun _ _ _ => trivial
    clear go
    generalize upd (upd H rg (.rng 0 ((xs.length : Int) + 2))) nl (.lst ((List.range (xs.length + 2)).map fun i => V.int ((i : Nat) : Int))) = H3 at s2 enl ⊢
    refine ⟨_, rfl, _, _, rfl, rfl, _, rfl, _, rfl, _, _, rfl, rfl, nl, _, _, one + 2, rfl, rfl, enl, by rw [List.length_map]; exact ixN_nat (k := one + 2) (by omega), ?_⟩
    have enl4 : upd H3 nl (.lst ((ns.map V.int).set (one + 2) (.int ((other : Int) + 2)))) nl = some (.lst ((ns.set (one + 2) ((other : Int) + 2)).map V.int)) := by rw [upd_same, List.map_set]
    have s4 : Same H (upd H3 nl (.lst ((ns.map V.int).set (one + 2) (.int ((other : Int) + 2))))) := s2.put hHnl
    have hns4 : (ns.set (one + 2) ((other : Int) + 2)).length = xs.length + 2 := by rw [List.length_set]; exact hns
    generalize ns.set (one + 2) ((other : Int) + 2) = ns4 at enl4 hns4
    generalize upd H3 nl (.lst ((ns.map V.int).set (one + 2) (.int ((other : Int) + 2)))) = H4 at s4 enl4 ⊢
    refine ⟨_, rfl, _, _, rfl, rfl, _, rfl, _, rfl, _, _, rfl, rfl, nl, _, _, other + 2, rfl, rfl, enl4, by rw [List.length_map]; exact ixN_nat (k := other + 2) (by omega), ?_⟩
    have enl5 : upd H4 nl (.lst ((ns4.map V.int).set (other + 2) (.int ((one : Int) + 2)))) nl = some (.lst ((ns4.set (other + 2) ((one : Int) + 2)).map V.int)) := by rw [upd_same, List.map_set]
    have s5 : Same H (upd H4 nl (.lst ((ns4.map V.int).set (other + 2) (.int ((one : Int) + 2))))) := s4.put hHnl
    have hns5 : (ns4.set (other + 2) ((one : Int) + 2)).length = xs.length + 2 := by rw [List.length_set]; exact hns4
    generalize ns4.set (other + 2) ((one : Int) + 2) = ns5 at enl5 hns5
    generalize upd H4 nl (.lst ((ns4.map V.int).set (other + 2) (.int ((one : Int) + 2)))) = H5 at s5 enl5 ⊢
    refine ⟨_, rfl, l, rfl, ⟨_, SqL.of (s5 _ _ W.l)⟩, fun D hD => ?_⟩
    refine comp_list (K := K) (a := l) (xs := xs) (fun i ys H' => Same H5 H' ∧ H' D = some (.lst ys) ∧ ∃ us : List Tri, Trs H' ys us ∧ us.length = i) ⟨Same.new hD, upd_same, [], .nil, rfl⟩ (fun i ys H' _ ⟨s6, _⟩ => SqL.of (s6 _ _ (s5 _ _ W.l))) ?_ ?_
    · rintro i x ys H6 hx ⟨s6, eD, us, tus, hus⟩
      obtain ⟨t, r, rfl, et, er⟩ := (W.t.same (s5.trans s6)).get hx
      obtain ⟨hT0, hT1, hT2⟩ := T i r er
      have hi := (List.getElem?_eq_some_iff.mp er).1
      have l1 := hT1.lt
      have l2 := hT2.lt
      have hyl := tus.len
      refine ⟨t, _, rfl, SqT.of et, rfl, _, _, rfl, _, _, rfl, _, _, rfl, rfl, ⟨rfl, trivial⟩, ?_⟩
      unfold tYes
      refine iteT ?_
      refine ⟨_, rfl, _, rfl, _, rfl, nl, _, _, _, rfl, rfl, SqL.of (s6 _ _ enl5), at_int (by omega) (by omega), _, rfl, _, rfl, nl, _, _, _, rfl, rfl, SqL.of (s6 _ _ enl5), at_int (by omega) (by omega), n3, fun T7 hT7 => ?_⟩
      have s7 := Same.new (o := .tup [.int r.1, .int (ns5.getD r.2.1.toNat 0), .int (ns5.getD r.2.2.toNat 0)]) hT7
      have k8 := tups_lst (o := .lst (ys ++ [.ref T7])) (s7 _ _ eD)
      exact ⟨s7 _ _ eD, by omega, (s6.trans s7).put hD, upd_same, us ++ [(_, _, _)], ((tus.same s7).keep k8).snoc (k8 _ _ upd_same), by rw [List.length_append, List.length_singleton, hus]⟩
    · rintro ys H6 ⟨s6, eD, us, tus, hus⟩
      have hyl := tus.len
      have hHD : H D = none := s5.free hD
      have hnD : nl ≠ D := ne_of_none enl5 hD
      obtain ⟨t1, g1, e1⟩ := tus.at (List.getElem?_eq_getElem (show one < us.length by omega))
      obtain ⟨t2, g2, e2⟩ := tus.at (List.getElem?_eq_getElem (show other < us.length by omega))
      refine ⟨_, rfl, _, rfl, D, _, _, _, rfl, rfl, SqL.of eD, atI_nat g1, ?_⟩
      refine ⟨_, rfl, _, rfl, D, _, _, _, rfl, rfl, SqL.of eD, atI_nat g2, _, rfl, _, rfl, D, _, _, one, rfl, rfl, eD, ixN_nat (by omega), ?_⟩
      have k7 := tups_lst (o := .lst (ys.set one (.ref t2))) eD
      have tus7 := (tus.keep k7).set (k7 _ _ e2) one
      have e17 := k7 _ _ e1
      have eD7 : upd H6 D (.lst (ys.set one (.ref t2))) D = some (.lst (ys.set one (.ref t2))) := upd_same
      have enl7 : upd H6 D (.lst (ys.set one (.ref t2))) nl = some (.lst (ns5.map V.int)) := upd_eq (s6 _ _ enl5) hnD
      have s7 : Same H (upd H6 D (.lst (ys.set one (.ref t2)))) := (s5.trans s6).put hHD
      generalize upd H6 D (.lst (ys.set one (.ref t2))) = H7 at tus7 e17 eD7 enl7 s7 ⊢
      refine ⟨_, rfl, _, rfl, _, rfl, D, _, _, other, rfl, rfl, eD7, ixN_nat (by rw [List.length_set]; omega), ?_⟩
      have k8 := tups_lst (o := .lst ((ys.set one (.ref t2)).set other (.ref t1))) eD7
      have tus8 := (tus7.keep k8).set (k8 _ _ e17) other
      have eD8 : upd H7 D (.lst ((ys.set one (.ref t2)).set other (.ref t1))) D = some (.lst ((ys.set one (.ref t2)).set other (.ref t1))) := upd_same
      have enl8 : upd H7 D (.lst ((ys.set one (.ref t2)).set other (.ref t1))) nl = some (.lst (ns5.map V.int)) := upd_eq enl7 hnD
      have s8 : Same H (upd H7 D (.lst ((ys.set one (.ref t2)).set other (.ref t1)))) := s7.put hHD
      generalize upd H7 D (.lst ((ys.set one (.ref t2)).set other (.ref t1))) = H8 at tus8 eD8 enl8 s8 ⊢
      refine ⟨_, rfl, _, rfl, nl, _, _, _, rfl, rfl, SqL.of enl8, at_int (by omega) (by omega), _, rfl, two_le, fun p hp => ?_⟩
      have s9 := Same.new (o := .tup [.int (ns5.getD root.toNat 0), .ref D]) hp
      exact q p D _ _ _ _ (s8.trans s9) ⟨upd_same, s9 _ _ eD8, tus8.same s9⟩ (by rw [List.length_set, List.length_set]; omega)
/-! ### _law_twice -/
def spTwi : Sp := fun vs H Q _ => ∃ (tb l : Addr) (root : Int) (at' : Nat) (xs : List V) (ts : List Tri), vs = [.ref tb, .int (at' : Int)] ∧ TabAt H tb l root xs ts ∧ TabOk ts ∧ At ts root (-1) ∧ ts.length ≤ 60 ∧ at' < ts.length ∧ Bnt H Q
theorem scTwi : FnScope ["table", "at", "root", "nodes", "said", "named", "road", "low", "high"] ["table", "at"] (defScope sTwi) := ⟨rfl, rfl, rfl, by decide +kernel, rfl, by decide +kernel, by decide +kernel⟩
theorem inV_ints (p : Int) : ∀ ms : List Int, inV (.int p) (ms.map V.int) = decide (p ∈ ms) := by
  intro ms
  unfold inV
  induction ms with
  | nil => rfl
  | cons m ms ih =>
    rw [List.map_cons, List.any_cons, ih]
    by_cases h1 : p = m <;> by_cases h2 : p ∈ ms <;> simp [eqV, h1, h2] <;> (try omega) <;> (try (intro z; exact h1 z.symm))
theorem inV_two (p a b : Int) : inV (.int p) [.int a, .int b] = true ↔ (p = a ∨ p = b) := by
  show inV (.int p) (([a, b] : List Int).map V.int) = true ↔ _
  rw [inV_ints, decide_eq_true_eq, List.mem_cons, List.mem_singleton]
theorem ok_twi {f fO : Addr} {fd fdO : FuncData} (F : Fun K "_law_twice" "_law_twice" sTwi f fd) (FO : Fun K "_law_in_order" "_law_in_order" sIno fO fdO) (bO : Binds K fdO ["root", "nodes"] []) (mO : mg "_law_in_order" = some (.ref fO)) (mLen : mg "len" = none) (mLst : mg "list" = none) (mRange : mg "range" = none) : FnOk P w K mg base CX0 2 f fd ["table", "at"] spTwi := by
  have GO : FnOk P w K mg base CX0 1 fO fdO ["root", "nodes"] spIno := ok_ino FO mLen
  refine F.ok scTwi (fun vs H Q E h => ?_) (fun cdv A outer s H vs Q E hr h => ?_)
  · obtain ⟨_, _, _, _, _, _, rfl, _⟩ := h
    rfl
  · obtain ⟨tb, l, root, at', xs, ts, rfl, W, T, ar, hts, h1, q⟩ := h
    have h16 : (16777216 : Nat) = sizeLine := sizeLine_eq.symm
    have hu := hr.units
    have hxl := W.t.len
    have n3 : 3 ≤ sizeLine := by omega
    refine ⟨_, pss_cons (ps_asg (pv 0) (kTup K (n := 2) rfl (pgs_cons (pg_name (i := 2) scTwi.nd rfl (Or.inl rfl)) (pgs_cons (pg_name (i := 3) scTwi.nd rfl (Or.inr rfl)) pgs_nil))))
       (pss_cons (ps_set (i := 4) scTwi.nd rfl (Or.inl rfl) (pe_callTy (kListOf K) rfl mLst boot_list (pa_cons (pv 3) pa_nil)))
       (pss_cons (ps_comp (i := 5) scTwi.nd rfl (Or.inl rfl) (own := ["k"]) rfl (compScope_free (fr := [("at", 1), ("nodes", 3)]) [(".0", .local), ("k", .local), ("at", .cell), ("nodes", .cell)] rfl rfl (by decide +kernel) rfl (by decide +kernel) ⟨rfl, rfl, trivial⟩ ⟨fun h => no_cf h, fun h => no_cf h, fun _ => ⟨_, rfl⟩, fun _ => ⟨_, rfl⟩, trivial⟩ ⟨⟨rfl, .inl rfl, .inl rfl⟩, ⟨rfl, .inl rfl, .inl rfl⟩, trivial⟩) (pi_range1 rfl mRange (pa_cons (pe_callB (kLen K) rfl mLen PySem.boot_len (pa_cons (pv 3) pa_nil)) pa_nil)) (fun _ _ _ _ => pg_name (i := 0) (show List.Nodup (["k", "at", "nodes"] : List Str) by decide +kernel) rfl (Or.inl rfl)) (fun _ _ _ _ => pifs_one (pt_cmpR (kIn K) (pe_op op_add (pv 1) pe_int) (pe_slice (kSlT K) (pe_ix (kIxL K) (pv 2) (pv 0) (fun _ _ => rfl)) (po_some pe_int) po_none) (by with_unfolding_all rfl))) (fun _ _ _ _ => pv 0))
       (pss_cons (ps_if (pt_cmpR (kEqD K hu) (pv 5) (pe_lst pa_nil) (nomark _)) (pss_one (ps_ret (pv 0))) pss_nil)
       (pss_cons (ps_asg (pe_ix (kIxL K) (pv 3) (pe_ix (kIxL K) (pv 5) (pe_un op_negI pe_int) (fun _ _ => rfl)) (fun _ _ => rfl)) (kTup K (n := 3) rfl (pgs_cons (pg_name (i := 6) scTwi.nd rfl (Or.inl rfl)) (pgs_cons (pg_name (i := 7) scTwi.nd rfl (Or.inl rfl)) (pgs_cons (pg_name (i := 8) scTwi.nd rfl (Or.inl rfl)) pgs_nil)))))
       (pss_cons (ps_expr (pe_bm PySem.F.plainAttrs_list PySem.F.slot_list_append PySem.F.type_list_append mt_append (pv 4) (pa_cons (pe_ix (kIxL K) (pv 3) (pv 1) (fun _ _ => rfl)) pa_nil)))
       (pss_cons (ps_if (pt_cmpR op_eq (pv 8) (pe_op op_add (pv 1) pe_int) (nomark _)) (pss_one (ps_set (i := 8) scTwi.nd rfl (Or.inl rfl) (pe_op op_add (pe_callB (kLen K) rfl mLen PySem.boot_len (pa_cons (pv 4) pa_nil)) pe_int))) (pss_one (ps_set (i := 7) scTwi.nd rfl (Or.inl rfl) (pe_op op_add (pe_callB (kLen K) rfl mLen PySem.boot_len (pa_cons (pv 4) pa_nil)) pe_int))))
       (pss_cons (ps_asg (pe_tup (pa_cons (pv 6) (pa_cons (pv 7) (pa_cons (pv 8) pa_nil)))) (pg_sub (pv 4) (pe_ix (kIxL K) (pv 5) (pe_un op_negI pe_int) (fun _ _ => rfl)) set_list))
       (pss_one (ps_ret (pe_call GO (hr.mono (by decide)) rfl mO FO.kp bO .nil pass0 (pa_cons (pv 2) (pa_cons (pv 4) pa_nil)))))))))))), ?_⟩
    refine ⟨_, rfl, tb, _, rfl, SqT.of W.w, rfl, _, _, rfl, _, _, rfl, rfl, ?_⟩
    refine ⟨_, rfl, l, xs, rfl, .inl (SqL.of W.l), fun sl hsl => ?_⟩
    have s1 : Same H (upd H sl (.lst xs)) := Same.new hsl
    have esl : upd H sl (.lst xs) sl = some (.lst xs) := upd_same
    generalize upd H sl (.lst xs) = H1 at s1 esl ⊢
    have W1 := W.same s1
    refine ⟨_, rfl, l, xs, rfl, .inl (SqL.of W1.l), _, rfl, by omega, by omega, fun D hD => ?_⟩
    rw [Int.toNat_natCast]
    refine comp_range (lo := 0) (n := xs.length) (fun j ys H' => Same H1 H' ∧ H' D = some (.lst ys) ∧ ∃ ns : List Int, ys = ns.map V.int ∧ ns.length ≤ j ∧ ∀ k ∈ ns, ∃ (i : Nat) (r : Tri), k = (i : Int) ∧ ts[i]? = some r ∧ ((at' : Int) + 2 = r.2.1 ∨ (at' : Int) + 2 = r.2.2)) ⟨Same.new hD, upd_same, [], rfl, Nat.le_refl _, fun k hk => (by cases hk)⟩ ?_ ?_
    · rintro j ys H2 hj ⟨s2, eD, ns, rfl, hkl, hks⟩
      rw [Int.zero_add]
      have er : ts[j]? = some (ts[j]'(by omega)) := List.getElem?_eq_getElem (by omega)
      generalize ts[j]'(by omega) = r at er
      obtain ⟨t, g1, g2⟩ := (W1.t.same s2).at er
      refine ⟨⟨rfl, rfl, trivial⟩, ?_⟩
      refine ⟨_, rfl, _, _, rfl, rfl, _, rfl, _, rfl, l, _, _, _, rfl, rfl, SqL.of (s2 _ _ W1.l), atI_nat g1, _, rfl, t, _, rfl, SqT.of g2, (fun z => by have := z.1; simp [HT.sIx] at this), fun ps hps => ?_⟩
      have s3 : Same H2 (upd H2 ps (.tup (cutV [.int r.1, .int r.2.1, .int r.2.2] (some 1) none))) := Same.new hps
      have eps : upd H2 ps (.tup (cutV [.int r.1, .int r.2.1, .int r.2.2] (some 1) none)) ps = some (.tup [.int r.2.1, .int r.2.2]) := upd_same
      generalize upd H2 ps (.tup (cutV [.int r.1, .int r.2.1, .int r.2.2] (some 1) none)) = H3 at s3 eps ⊢
      refine ⟨ps, _, rfl, .inr (SqT.of eps), rfl, rfl, _, rfl, ?_⟩
      show if (inV (.int ((at' : Int) + 2)) [.int r.2.1, .int r.2.2]) = true then _ else _
      refine ite2 (fun z => ?_) (fun _ => ?_)
      · refine ⟨_, rfl, s3 _ _ eD, by rw [List.length_map]; omega, (s2.trans s3).put hD, upd_same, ns ++ [(j : Int)], by rw [List.map_append]; rfl, by rw [List.length_append, List.length_singleton]; omega, fun k hk => ?_⟩
        rcases List.mem_append.mp hk with h | h
        · exact hks k h
        · rw [List.mem_singleton] at h
          exact ⟨j, r, h, er, (inV_two _ _ _).mp z⟩
      · exact ⟨s2.trans s3, s3 _ _ eD, ns, rfl, by omega, hks⟩
    · rintro ys H2 ⟨s2, eD, ns, rfl, hkl, hks⟩
      have hsD : sl ≠ D := ne_of_none esl hD
      have hHD : H D = none := s1.free hD
      refine ⟨_, rfl, Nat.zero_le _, fun e he => ?_⟩
      have s3 : Same H2 (upd H2 e (.lst [])) := Same.new he
      refine ⟨.list (ns.map PyData.int), .list (([] : List Int).map PyData.int), .lst (SqL.of (s3 _ _ eD)) (ints_dats _), .lst (SqL.of upd_same) .nil, ints_shaped _, ints_shaped _, _, rfl, ?_⟩
      rw [ints_eqv]
      have S3 := (s1.trans s2).trans s3
      have esl3 := s3 _ _ (s2 _ _ esl)
      have eD3 := s3 _ _ eD
      generalize upd H2 e (.lst []) = H3 at s3 S3 esl3 eD3 ⊢
      have W3 := W.same S3
      by_cases c : ns = []
      · rw [decide_eq_true c]
        refine iteT ?_
        exact ⟨_, rfl, q tb l root xs ts _ S3 W3 (by omega)⟩
      rw [decide_eq_false c]
      refine iteF ?_
      obtain ⟨ns', k, rfl⟩ : ∃ ns' k, ns = ns' ++ [k] := ⟨ns.dropLast, ns.getLast c, (List.dropLast_concat_getLast c).symm⟩
      obtain ⟨i, r, rfl, er, hrat⟩ := hks k (List.mem_append_right _ (List.mem_singleton.mpr rfl))
      have hi := (List.getElem?_eq_some_iff.mp er).1
      have hlast : atI ((ns' ++ [(i : Int)]).map V.int) (-1) = some (.int (i : Int)) := by rw [List.map_append]; exact atI_last _ _
      obtain ⟨hT0, hT1, hT2⟩ := T i r er
      obtain ⟨t, g1, g2⟩ := W3.t.at er
      have eq : ts[at']? = some ts[at'] := List.getElem?_eq_getElem h1
      generalize ts[at'] = qa at eq
      obtain ⟨ta, ga1, ga2⟩ := W3.t.at eq
      have nq : Nd ts ((at' : Int) + 2) qa := ⟨by omega, by rw [show ((at' : Int) + 2 - 2).toNat = at' by omega]; exact eq⟩
      have hlt : r.1 < qa.1 := by
        have a : At ts ((at' : Int) + 2) r.1 := by
          rcases hrat with z | z
          · rw [z]; exact hT1
          · rw [z]; exact hT2
        obtain ⟨q', n', g⟩ := a.nd (by omega)
        rw [n'.one nq] at g
        exact g
      obtain ⟨hQ0, hQ1, hQ2⟩ := T.nd nq
      have T4 : TabOk (ts ++ [qa]) := T.snoc hQ0 hQ1 hQ2
      have aN : At (ts ++ [qa]) ((ts.length : Int) + 2) r.1 := .inr (.inr ⟨qa, Nd.last ts qa, hlt⟩)
      refine ⟨_, rfl, _, rfl, _, rfl, D, _, _, _, rfl, rfl, SqL.of eD3, hlast, l, _, _, _, rfl, rfl, SqL.of W3.l, atI_nat g1, t, _, rfl, SqT.of g2, rfl, _, _, rfl, _, _, rfl, _, _, rfl, rfl, ?_⟩
      refine ⟨_, rfl, .inl ⟨rfl, _, SqL.of esl3⟩, _, rfl, _, rfl, l, _, _, _, rfl, rfl, SqL.of W3.l, atI_nat ga1, sl, xs, _, rfl, rfl, esl3, by omega, ?_⟩
      have k4 := tups_lst (o := .lst (xs ++ [.ref ta])) esl3
      have tr4 := (W3.t.keep k4).snoc (k4 _ _ ga2)
      have esl4 : upd H3 sl (.lst (xs ++ [.ref ta])) sl = some (.lst (xs ++ [.ref ta])) := upd_same
      have eD4 : upd H3 sl (.lst (xs ++ [.ref ta])) D = some (.lst ((ns' ++ [(i : Int)]).map V.int)) := upd_eq eD3 (Ne.symm hsD)
      have s4 : Same H (upd H3 sl (.lst (xs ++ [.ref ta]))) := S3.put hsl
      generalize upd H3 sl (.lst (xs ++ [.ref ta])) = H4 at k4 tr4 esl4 eD4 s4 ⊢
      have hl4 : (((xs ++ [V.ref ta]).length : Nat) : Int) + 1 = (ts.length : Int) + 2 := by rw [List.length_append, List.length_singleton]; push_cast; omega
      dsimp only
      refine seq_mid (fun σ' H' => ∃ lo hi : Int, σ' = [some (.ref tb), some (.int (at' : Int)), some (.int root), some (.ref l), some (.ref sl), some (.ref D), some (.int r.1), some (.int lo), some (.int hi)] ∧ H4 = H' ∧ At (ts ++ [qa]) lo r.1 ∧ At (ts ++ [qa]) hi r.1) ?s5 ?f5
      case f5 =>
        intro hk
        refine ⟨_, rfl, _, rfl, _, _, rfl, rfl, rfl, _, rfl, ite2 (fun _ => ?_) (fun _ => ?_)⟩
        · refine ⟨_, rfl, sl, _, rfl, .inl (SqL.of esl4), _, _, rfl, rfl, ?_⟩
          exact hk _ _ ⟨r.2.1, (((xs ++ [V.ref ta]).length : Nat) : Int) + 1, rfl, rfl, hT1.app _, by rw [hl4]; exact aN⟩
        · refine ⟨_, rfl, sl, _, rfl, .inl (SqL.of esl4), _, _, rfl, rfl, ?_⟩
          exact hk _ _ ⟨(((xs ++ [V.ref ta]).length : Nat) : Int) + 1, r.2.2, rfl, rfl, by rw [hl4]; exact aN, hT2.app _⟩
      rintro σ' H' ⟨lo, hi', rfl, rfl, alo, ahi⟩
      refine ⟨_, rfl, _, rfl, _, rfl, n3, fun T5 hT5 => ?_⟩
      have s5 : Same H4 (upd H4 T5 (.tup [.int r.1, .int lo, .int hi'])) := Same.new hT5
      have eT5 : upd H4 T5 (.tup [.int r.1, .int lo, .int hi']) T5 = some (.tup [.int r.1, .int lo, .int hi']) := upd_same
      generalize upd H4 T5 (.tup [.int r.1, .int lo, .int hi']) = H5 at s5 eT5 ⊢
      refine ⟨_, rfl, _, rfl, _, rfl, D, _, _, _, rfl, rfl, SqL.of (s5 _ _ eD4), hlast, sl, _, _, i, rfl, rfl, s5 _ _ esl4, ixN_nat (by rw [List.length_append]; omega), ?_⟩
      have k6 := tups_lst (o := .lst ((xs ++ [V.ref ta]).set i (V.ref T5))) (s5 _ _ esl4)
      have tr6 := ((tr4.same s5).keep k6).set (k6 _ _ eT5) i
      have er4 : (ts ++ [qa])[i]? = some r := by rw [List.getElem?_append_left hi]; exact er
      have T6 : TabOk ((ts ++ [qa]).set i (r.1, lo, hi')) := T4.set er4 rfl alo ahi
      have ar6 : At ((ts ++ [qa]).set i (r.1, lo, hi')) root (-1) := (ar.app [qa]).set er4 rfl
      have s6 := (s4.trans s5).put (o := .lst ((xs ++ [V.ref ta]).set i (V.ref T5))) hsl
      have ln6 : ((ts ++ [qa]).set i (r.1, lo, hi')).length ≤ 70 := by rw [List.length_set, List.length_append, List.length_singleton]; omega
      exact ⟨_, rfl, _, rfl, sl, root, _, _, rfl, upd_same, tr6, T6, ln6, ar6, (q.same s6).two ln6⟩
end
end M
namespace M
open PySem L2
section
variable {P : Program} {w : World} {K : PySem.W.Frag} {mg : Str → Option Value} {base : Heap}
/-! ### _law_bent -/
def spBen : Sp := fun vs H Q _ => ∃ (tb l cl : Addr) (root way num : Int) (xs : List V) (ts : List Tri) (cs : List Int), vs = [.ref tb, .int way, .int num, .ref cl] ∧ TabAt H tb l root xs ts ∧ TabOk ts ∧ At ts root (-1) ∧ ts.length ≤ 60 ∧ H cl = some (.lst (cs.map V.int)) ∧ cs.length ≤ 60 ∧ ts.length ≤ cs.length ∧ Bnt H Q
theorem scBen : FnScope ["table", "way", "number", "cells", "root", "nodes", "at", "road", "low", "high"] ["table", "way", "number", "cells"] (defScope sBen) := ⟨rfl, rfl, rfl, by decide +kernel, rfl, by decide +kernel, by decide +kernel⟩
theorem ok_ben {f fO fU fV fN fY : Addr} {fd fdO fdU fdV fdN fdY : FuncData} (F : Fun K "_law_bent" "_law_bent" sBen f fd) (FO : Fun K "_law_in_order" "_law_in_order" sIno fO fdO) (bO : Binds K fdO ["root", "nodes"] []) (mO : mg "_law_in_order" = some (.ref fO))
    (FU : Fun K "_law_turned" "_law_turned" sTur fU fdU) (bU : Binds K fdU ["table", "one", "other"] []) (mU : mg "_law_turned" = some (.ref fU))
    (FV : Fun K "_law_twice" "_law_twice" sTwi fV fdV) (bV : Binds K fdV ["table", "at"] []) (mV : mg "_law_twice" = some (.ref fV))
    (FN : Fun K "_law_node_bent" "_law_node_bent" sNob fN fdN) (bN : Binds K fdN ["table", "way", "at", "number"] []) (mN : mg "_law_node_bent" = some (.ref fN))
    (FY : Fun K "_law_any" "_law_any" sAny fY fdY) (bY : Binds K fdY ["cells"] []) (mY : mg "_law_any" = some (.ref fY))
    (mLen : mg "len" = none) (mLst : mg "list" = none) (mRange : mg "range" = none) (mMax : mg "max" = none) : FnOk P w K mg base CX0 3 f fd ["table", "way", "number", "cells"] spBen := by
  have GO : FnOk P w K mg base CX0 1 fO fdO ["root", "nodes"] spIno := ok_ino FO mLen
  have GU : FnOk P w K mg base CX0 1 fU fdU ["table", "one", "other"] spTur := ok_tur FU mLen mLst mRange
  have GV : FnOk P w K mg base CX0 2 fV fdV ["table", "at"] spTwi := ok_twi FV FO bO mO mLen mLst mRange
  have GN : FnOk P w K mg base CX0 1 fN fdN ["table", "way", "at", "number"] spNob := ok_nob FN mLen
  have GY : FnOk P w K mg base CX0 1 fY fdY ["cells"] spAny := ok_any FY mLen
  refine F.ok scBen (fun vs H Q E h => ?_) (fun cdv A outer s H vs Q E hr h => ?_)
  · obtain ⟨_, _, _, _, _, _, _, _, _, rfl, _⟩ := h
    rfl
  · obtain ⟨tb, l, cl, root, way, num0, xs, ts, cs, rfl, W, T, ar, hts, ecl, hcs, htc, q⟩ := h
    have h16 : (16777216 : Nat) = sizeLine := sizeLine_eq.symm
    have hu := hr.units
    have hxl := W.t.len
    have n3 : 3 ≤ sizeLine := by omega
    have n4 : 4 ≤ sizeLine := by omega
    have n1 : 1 ≤ sizeLine := by omega
    refine ⟨_, pss_cons (ps_asg (pv 0) (kTup K (n := 2) rfl (pgs_cons (pg_name (i := 4) scBen.nd rfl (Or.inl rfl)) (pgs_cons (pg_name (i := 5) scBen.nd rfl (Or.inl rfl)) pgs_nil))))
       (pss_cons (ps_set (i := 6) scBen.nd rfl (Or.inl rfl) (pe_op op_mod (pv 2) (pe_callB (call_max2 rfl) rfl mMax boot_max (pa_cons pe_int (pa_cons (pe_callB (kLen K) rfl mLen PySem.boot_len (pa_cons (pv 5) pa_nil)) pa_nil)))))
       (pss_cons (ps_set (i := 2) scBen.nd rfl (Or.inl rfl) (pe_op op_fdivB (pv 2) pe_int))
       (pss_cons (ps_if (PW.pt (pw_or (pt_cmpR op_eq (pv 1) pe_int (nomark _)) (pw_or1 (pt_cmpR (kEqD K hu) (pv 5) (pe_lst pa_nil) (nomark _))))) (pss_one (ps_ret (pe_tup (pa_cons (pe_op op_sub (pe_op op_mod (pv 2) (pe_op op_add (pe_callB (kLen K) rfl mLen PySem.boot_len (pa_cons (pv 5) pa_nil)) pe_int)) pe_int) (pa_cons (pe_callTy (kListOf K) rfl mLst boot_list (pa_cons (pv 5) pa_nil)) pa_nil))))) pss_nil)
       (pss_cons (ps_if (pt_cmpR (kIn K) (pv 1) (pe_tup (pa_cons pe_int (pa_cons pe_int (pa_cons pe_int (pa_cons pe_int pa_nil))))) (by with_unfolding_all rfl)) (pss_one (ps_ret (pe_tup (pa_cons (pv 4) (pa_cons (pe_op op_cat (pe_op op_cat (pe_slice (kSl K) (pv 5) po_none (po_some (pv 6))) (pe_lst (pa_cons (pe_call GN (hr.mono (by decide)) rfl mN FN.kp bN .nil pass0 (pa_cons (pv 0) (pa_cons (pv 1) (pa_cons (pv 6) (pa_cons (pv 2) pa_nil))))) pa_nil))) (pe_slice (kSl K) (pv 5) (po_some (pe_op op_add (pv 6) pe_int)) po_none)) pa_nil))))) pss_nil)
       (pss_cons (ps_if (pt_cmpR op_eq (pv 1) pe_int (nomark _)) (pss_one (ps_ret (pe_call GU (hr.mono (by decide)) rfl mU FU.kp bU .nil pass0 (pa_cons (pv 0) (pa_cons (pv 6) (pa_cons (pe_op op_mod (pv 2) (pe_callB (kLen K) rfl mLen PySem.boot_len (pa_cons (pv 5) pa_nil))) pa_nil)))))) pss_nil)
       (pss_cons (ps_if (pt_cmpR op_eq (pv 1) pe_int (nomark _)) (pss_one (ps_ret (pe_call GV (hr.mono (by decide)) rfl mV FV.kp bV .nil pass0 (pa_cons (pv 0) (pa_cons (pv 6) pa_nil))))) pss_nil)
       (pss_cons (ps_if (pt_cmpR op_eq (pv 1) pe_int (nomark _)) (pss_one (ps_ret (pe_tup (pa_cons (pv 4) (pa_cons (pe_op op_cat (pv 5) (pe_lst (pa_cons (pe_tup (pa_cons (pe_op op_mod (pv 2) pe_int) (pa_cons (pe_op op_mod (pe_op op_fdivB (pv 2) pe_int) pe_int) (pa_cons pe_int pa_nil)))) pa_nil))) pa_nil))))) pss_nil)
       (pss_cons (ps_if (pt_cmpR op_eq (pv 1) pe_int (nomark _)) (pss_one (ps_ret (pe_tup (pa_cons (pv 4) (pa_cons (pe_op op_cat (pe_lst (pa_cons (pe_tup (pa_cons (pe_op op_sub (pe_un op_negI pe_int) (pe_op op_mod (pv 2) pe_int)) (pa_cons (pe_ix (kIxT K) (pe_ix (kIxL K) (pv 5) pe_int (fun _ _ => rfl)) pe_int (fun _ _ => rfl)) (pa_cons (pe_ix (kIxT K) (pe_ix (kIxL K) (pv 5) pe_int (fun _ _ => rfl)) pe_int (fun _ _ => rfl)) pa_nil)))) pa_nil)) (pe_slice (kSl K) (pv 5) (po_some pe_int) po_none)) pa_nil))))) pss_nil)
       (pss_cons (ps_if (pt_cmpR op_eq (pv 1) pe_int (nomark _)) (pss_cons (ps_asg (pe_ix (kIxL K) (pv 5) (pv 6) (fun _ _ => rfl)) (kTup K (n := 3) rfl (pgs_cons (pg_name (i := 7) scBen.nd rfl (Or.inl rfl)) (pgs_cons (pg_name (i := 8) scBen.nd rfl (Or.inl rfl)) (pgs_cons (pg_name (i := 9) scBen.nd rfl (Or.inl rfl)) pgs_nil)))))
       (pss_one (ps_ret (pe_call GO (hr.mono (by decide)) rfl mO FO.kp bO .nil pass0 (pa_cons (pv 4) (pa_cons (pe_op op_cat (pe_op op_cat (pe_slice (kSl K) (pv 5) po_none (po_some (pv 6))) (pe_lst (pa_cons (pe_tup (pa_cons (pv 7) (pa_cons (pv 8) (pa_cons pe_int pa_nil)))) pa_nil))) (pe_slice (kSl K) (pv 5) (po_some (pe_op op_add (pv 6) pe_int)) po_none)) pa_nil)))))) pss_nil)
       (pss_cons (ps_if (pt_cmpR op_eq (pv 1) pe_int (nomark _)) (pss_one (ps_ret (pe_call GY (hr.mono (by decide)) rfl mY FY.kp bY .nil pass0 (pa_cons (pe_slice (kSl K) (pv 3) po_none (po_some pe_int)) pa_nil)))) pss_nil)
       (pss_one (ps_ret (pv 0))))))))))))), ?_⟩
    refine ⟨_, rfl, tb, _, rfl, SqT.of W.w, rfl, _, _, rfl, _, _, rfl, rfl, ?_⟩
    dsimp only
    -- at
    refine seq_mid (fun σ' H' => ∃ aN : Nat, σ' = [some (.ref tb), some (.int way), some (.int num0), some (.ref cl), some (.int root), some (.ref l), some (.int (aN : Int)), none, none, none] ∧ H = H' ∧ (ts ≠ [] → aN < ts.length)) ?s1 ?f1
    case f1 =>
      intro hk
      have hpos : (0 : Int) < (if (xs.length : Int) > 1 then (xs.length : Int) else 1) := by split <;> omega
      obtain ⟨aN, haN⟩ := Int.eq_ofNat_of_zero_le (Int.emod_nonneg num0 (Int.ne_of_gt hpos))
      refine ⟨_, rfl, _, rfl, l, xs, rfl, .inl (SqL.of W.l), _, _, rfl, _, _, rfl, rfl, hpos, ?_⟩
      refine hk _ _ ⟨aN, by rw [← haN]; rfl, rfl, fun hne => ?_⟩
      have hp : 0 < ts.length := List.length_pos_iff.mpr hne
      have := Int.emod_lt_of_pos num0 hpos
      rw [haN] at this
      have hle : (if (xs.length : Int) > 1 then (xs.length : Int) else 1) ≤ (ts.length : Int) := by split <;> omega
      omega
    rintro σ' H' ⟨aN, rfl, rfl, haN⟩
    refine seq_mid (fun σ' H' => ∃ num : Int, σ' = [some (.ref tb), some (.int way), some (.int num), some (.ref cl), some (.int root), some (.ref l), some (.int (aN : Int)), none, none, none] ∧ H = H') ?s2 ?f2
    case f2 =>
      intro hk
      refine ⟨_, rfl, _, _, rfl, rfl, ⟨by decide, lt2_lit⟩, ?_⟩
      exact hk _ _ ⟨_, rfl, rfl⟩
    rintro σ' H' ⟨num, rfl, rfl⟩
    have five : ∀ {H1 : Hp}, Same H H1 → tRet (tTup (tCons (tOp (rI0 fun i j => V.int (i - j)) (tOp (rI (fun _ j => 0 < j) fun i j => V.int (i % j)) (tVar 2) (tOp (rI0 fun i j => V.int (i + j)) (tCB (fun xs H Q => ∃ p ys, xs = [V.ref p] ∧ (SqL K H p ys ∨ SqT K H p ys) ∧ Q (V.int ys.length) H) (tCons (tVar 5) tNil)) (tC (V.int 5)))) (tC (V.int 2))) (tCons (tCB (fun xs H Q => ∃ p ys, xs = [.ref p] ∧ (SqL K H p ys ∨ SqT K H p ys) ∧ ∀ l, H l = none → Q (.ref l) (upd H l (.lst ys))) (tCons (tVar 5) tNil)) tNil))) { nx := fun x H' => Q V.non H', rt := Q } [some (.ref tb), some (.int way), some (.int num), some (.ref cl), some (.int root), some (.ref l), some (.int (aN : Int)), none, none, none] H1 := fun {H1} s1 => by
      have W1 := W.same s1
      refine ⟨_, rfl, _, rfl, l, xs, rfl, .inl (SqL.of W1.l), _, _, rfl, rfl, _, _, rfl, rfl, (by show (0 : Int) < (xs.length : Int) + 5; omega), _, _, rfl, rfl, _, rfl, l, xs, rfl, .inl (SqL.of W1.l), fun l2 hl2 => ⟨two_le, fun p hp => ?_⟩⟩
      have s2 := (Same.new (o := .lst xs) hl2)
      have s3 := Same.new (o := .tup [.int (num % ((xs.length : Int) + 5) - 2), .ref l2]) hp
      exact q p l2 _ xs ts _ ((s1.trans s2).trans s3) ⟨upd_same, s3 _ _ upd_same, (W1.t.same s2).same s3⟩ (by omega)
    refine seq_mid (fun σ' H' => σ' = [some (.ref tb), some (.int way), some (.int num), some (.ref cl), some (.int root), some (.ref l), some (.int (aN : Int)), none, none, none] ∧ Same H H' ∧ ts ≠ []) ?s3 ?f3
    case f3 =>
      intro hk
      refine ⟨_, rfl, rfl, _, rfl, ite2 (fun _ => ?_) (fun _ => ?_)⟩
      · exact iteT (five (Same.refl _))
      · refine ⟨_, rfl, Nat.zero_le _, fun e he => ?_⟩
        have s1 : Same H (upd H e (.lst [])) := Same.new he
        refine ⟨.list (ts.map trD), .list (([] : List Tri).map trD), .lst (SqL.of (s1 _ _ W.l)) (W.t.same s1).dats, .lst (SqL.of upd_same) .nil, trs_shaped _, trs_shaped _, _, rfl, ?_⟩
        rw [trl_eqv]
        by_cases c : ts = []
        · rw [decide_eq_true c]
          exact iteT (five s1)
        · rw [decide_eq_false c]
          exact iteF (hk _ _ ⟨rfl, s1, c⟩)
    rintro σ' H1 ⟨rfl, s1, hne⟩
    have hat := haN hne
    have hpos : 0 < ts.length := List.length_pos_iff.mpr hne
    have er : ts[aN]? = some ts[aN] := List.getElem?_eq_getElem hat
    generalize ts[aN] = r at er
    obtain ⟨hT0, hT1, hT2⟩ := T aN r er
    clear five
    -- 1 to 4
    refine ⟨_, rfl, n4, fun p4 hp4 => ⟨p4, _, rfl, .inr (SqT.of upd_same), rfl, rfl, _, rfl, ?_⟩⟩
    have s2 := s1.put (o := .tup [.int 1, .int 2, .int 3, .int 4]) (s1.free hp4)
    generalize upd H1 p4 (.tup [.int 1, .int 2, .int 3, .int 4]) = H2 at s2 ⊢
    have W2 := W.same s2
    have cut1 : cutV xs none (some (aN : Int)) = xs.take aN := cut_to
    have cut2 : cutV xs (some ((aN : Int) + 1)) none = xs.drop (aN + 1) := cut_from (k := aN + 1)
    -- what is put together out of three
    have three : ∀ {H3 : Hp} {t : Addr} {a b c : Int}, Same H2 H3 → H3 t = some (.tup [.int a, .int b, .int c]) → Trs H3 (xs.take aN ++ [.ref t] ++ xs.drop (aN + 1)) (ts.set aN (a, b, c)) := fun {H3 t a b c} s3 et => by
      rw [← take_cons_drop hat]
      exact (((W2.t.same s3).take aN).app (.cons et .nil)).app ((W2.t.same s3).drop (aN + 1))
    have hdr : (xs.drop (aN + 1)).length ≤ 60 := by rw [List.length_drop]; omega
    have htk : (xs.take aN).length ≤ 60 := by rw [List.length_take]; omega
    refine ite2 (fun _ => ?_) (fun _ => ?_)
    · refine ⟨_, rfl, _, rfl, _, rfl, _, rfl, l, _, rfl, SqL.of W2.l, fun c1 hc1 => ?_⟩
      rw [cut1]
      have t1 : Same H2 (upd H2 c1 (.lst (xs.take aN))) := Same.new hc1
      have e1 : upd H2 c1 (.lst (xs.take aN)) c1 = some (.lst (xs.take aN)) := upd_same
      generalize upd H2 c1 (.lst (xs.take aN)) = H3 at t1 e1 ⊢
      refine ⟨_, rfl, _, rfl, _, rfl, _, rfl, tb, l, root, way, num, aN, xs, ts, rfl, W2.same t1, T, hts, hat, fun t a b c H4 t2 et => ?_⟩
      refine ⟨n1, fun c2 hc2 => ?_⟩
      have t3 : Same H4 (upd H4 c2 (.lst [.ref t])) := Same.new hc2
      have e3 : upd H4 c2 (.lst [.ref t]) c2 = some (.lst [.ref t]) := upd_same
      generalize upd H4 c2 (.lst [.ref t]) = H5 at t3 e3 ⊢
      have T5 := (t1.trans t2).trans t3
      refine ⟨c1, c2, _, _, rfl, rfl, t3 _ _ (t2 _ _ e1), e3, by rw [List.length_singleton]; omega, fun c3 hc3 => ?_⟩
      have t4 : Same H5 (upd H5 c3 (.lst (xs.take aN ++ [.ref t]))) := Same.new hc3
      have e4 : upd H5 c3 (.lst (xs.take aN ++ [.ref t])) c3 = some (.lst (xs.take aN ++ [.ref t])) := upd_same
      generalize upd H5 c3 (.lst (xs.take aN ++ [.ref t])) = H6 at t4 e4 ⊢
      refine ⟨_, rfl, _, rfl, _, _, rfl, rfl, _, rfl, l, _, rfl, SqL.of (t4 _ _ (T5 _ _ W2.l)), fun c4 hc4 => ?_⟩
      rw [cut2]
      have t5 : Same H6 (upd H6 c4 (.lst (xs.drop (aN + 1)))) := Same.new hc4
      have e5 : upd H6 c4 (.lst (xs.drop (aN + 1))) c4 = some (.lst (xs.drop (aN + 1))) := upd_same
      generalize upd H6 c4 (.lst (xs.drop (aN + 1))) = H7 at t5 e5 ⊢
      refine ⟨c3, c4, _, _, rfl, rfl, t5 _ _ e4, e5, by rw [List.length_append, List.length_singleton]; omega, fun c5 hc5 => ⟨two_le, fun p hp => ?_⟩⟩
      have t6 := Same.new (o := .lst (xs.take aN ++ [.ref t] ++ xs.drop (aN + 1))) hc5
      have t7 := Same.new (o := .tup [.int root, .ref c5]) hp
      have T7 := (((t3.trans t4).trans t5).trans t6).trans t7
      exact q p c5 root _ _ _ ((s2.trans (t1.trans t2)).trans T7) ⟨upd_same, t7 _ _ upd_same, three ((t1.trans t2).trans T7) (T7 _ _ et)⟩ (by rw [List.length_set]; omega)
    -- 6
    refine ⟨_, rfl, rfl, _, rfl, ite2 (fun _ => ?_) (fun _ => ?_)⟩
    · have hp : (0 : Int) < (xs.length : Int) := by omega
      obtain ⟨o, ho⟩ := Int.eq_ofNat_of_zero_le (Int.emod_nonneg num (Int.ne_of_gt hp))
      have hol := Int.emod_lt_of_pos num hp
      rw [ho] at hol
      refine ⟨_, rfl, _, rfl, _, rfl, _, rfl, l, xs, rfl, .inl (SqL.of W2.l), _, _, rfl, rfl, hp, ?_⟩
      exact ⟨tb, l, root, aN, o, xs, ts, by rw [← ho]; rfl, W2, T, ar, hts, hat, by omega, q.same s2⟩
    -- 7
    refine ⟨_, rfl, rfl, _, rfl, ite2 (fun _ => ?_) (fun _ => ?_)⟩
    · exact ⟨_, rfl, _, rfl, tb, l, root, aN, xs, ts, rfl, W2, T, ar, hts, hat, q.same s2⟩
    -- 8
    refine ⟨_, rfl, rfl, _, rfl, ite2 (fun _ => ?_) (fun _ => ?_)⟩
    · refine ⟨_, rfl, _, rfl, _, rfl, _, _, rfl, rfl, (by show (0 : Int) < 30; decide), _, rfl, _, _, rfl, rfl, ⟨by decide, lt2_lit⟩, _, _, rfl, rfl, (by show (0 : Int) < 2; decide), n3, fun t ht => ?_⟩
      have t1 : Same H2 (upd H2 t (.tup [.int (num % 30), .int (num / 30 % 2), .int 1])) := Same.new ht
      have et : upd H2 t (.tup [.int (num % 30), .int (num / 30 % 2), .int 1]) t = some (.tup [.int (num % 30), .int (num / 30 % 2), .int 1]) := upd_same
      generalize upd H2 t (.tup [.int (num % 30), .int (num / 30 % 2), .int 1]) = H3 at t1 et ⊢
      refine ⟨n1, fun c2 hc2 => ?_⟩
      have t2 : Same H3 (upd H3 c2 (.lst [.ref t])) := Same.new hc2
      refine ⟨l, c2, _, _, rfl, rfl, t2 _ _ (t1 _ _ W2.l), upd_same, by rw [List.length_singleton]; omega, fun c3 hc3 => ⟨two_le, fun p hp => ?_⟩⟩
      have t3 := Same.new (o := .lst (xs ++ [.ref t])) hc3
      have t4 := Same.new (o := .tup [.int root, .ref c3]) hp
      have T4 := (t2.trans t3).trans t4
      exact q p c3 root _ _ _ ((s2.trans t1).trans T4) ⟨upd_same, t4 _ _ upd_same, (W2.t.same (t1.trans T4)).app (.cons (T4 _ _ et) .nil)⟩ (by rw [List.length_append, List.length_singleton]; omega)
    -- 9
    refine ⟨_, rfl, rfl, _, rfl, ite2 (fun _ => ?_) (fun _ => ?_)⟩
    · have er0 : ts[0]? = some (ts[0]'hpos) := List.getElem?_eq_getElem hpos
      generalize ts[0]'hpos = r0 at er0
      obtain ⟨t0, g1, g2⟩ := W2.t.at er0
      refine ⟨_, rfl, _, rfl, _, rfl, _, _, rfl, rfl, (by show (0 : Int) < 3; decide), _, _, rfl, rfl, _, rfl, l, _, _, _, rfl, rfl, SqL.of W2.l, atI_nat (j := 0) g1, t0, _, _, _, rfl, rfl, SqT.of g2, atI_nat (j := 1) rfl, _, rfl, l, _, _, _, rfl, rfl, SqL.of W2.l, atI_nat (j := 0) g1, t0, _, _, _, rfl, rfl, SqT.of g2, atI_nat (j := 2) rfl, n3, fun t ht => ?_⟩
      have t1 : Same H2 (upd H2 t (.tup [.int (-1 - num % 3), .int r0.2.1, .int r0.2.2])) := Same.new ht
      have et : upd H2 t (.tup [.int (-1 - num % 3), .int r0.2.1, .int r0.2.2]) t = some (.tup [.int (-1 - num % 3), .int r0.2.1, .int r0.2.2]) := upd_same
      generalize upd H2 t (.tup [.int (-1 - num % 3), .int r0.2.1, .int r0.2.2]) = H3 at t1 et ⊢
      refine ⟨n1, fun c2 hc2 => ?_⟩
      have t2 : Same H3 (upd H3 c2 (.lst [.ref t])) := Same.new hc2
      have e2 : upd H3 c2 (.lst [.ref t]) c2 = some (.lst [.ref t]) := upd_same
      generalize upd H3 c2 (.lst [.ref t]) = H4 at t2 e2 ⊢
      refine ⟨_, rfl, _, rfl, l, _, rfl, SqL.of (t2 _ _ (t1 _ _ W2.l)), fun c4 hc4 => ?_⟩
      rw [show cutV xs (some 1) none = xs.drop 1 from cut_from (k := 1)]
      have t3 : Same H4 (upd H4 c4 (.lst (xs.drop 1))) := Same.new hc4
      refine ⟨c2, c4, _, _, rfl, rfl, t3 _ _ e2, upd_same, by rw [List.length_singleton, List.length_drop]; omega, fun c3 hc3 => ⟨two_le, fun p hp => ?_⟩⟩
      have t4 := Same.new (o := .lst ([.ref t] ++ xs.drop 1)) hc3
      have t5 := Same.new (o := .tup [.int root, .ref c3]) hp
      have T5 := ((t2.trans t3).trans t4).trans t5
      exact q p c3 root _ _ _ ((s2.trans t1).trans T5) ⟨upd_same, t5 _ _ upd_same, Trs.cons (T5 _ _ et) ((W2.t.same (t1.trans T5)).drop 1)⟩ (by rw [List.length_cons, List.length_drop]; omega)
    -- 10
    refine ⟨_, rfl, rfl, _, rfl, ite2 (fun _ => ?_) (fun _ => ?_)⟩
    · obtain ⟨t0, g1, g2⟩ := W2.t.at er
      refine ⟨_, rfl, _, rfl, l, _, _, _, rfl, rfl, SqL.of W2.l, atI_nat g1, t0, _, rfl, SqT.of g2, rfl, _, _, rfl, _, _, rfl, _, _, rfl, rfl, ?_⟩
      refine ⟨_, rfl, _, rfl, _, rfl, _, rfl, l, _, rfl, SqL.of W2.l, fun c1 hc1 => ?_⟩
      rw [cut1]
      have t1 : Same H2 (upd H2 c1 (.lst (xs.take aN))) := Same.new hc1
      have e1 : upd H2 c1 (.lst (xs.take aN)) c1 = some (.lst (xs.take aN)) := upd_same
      generalize upd H2 c1 (.lst (xs.take aN)) = H3 at t1 e1 ⊢
      refine ⟨_, rfl, _, rfl, n3, fun t ht => ?_⟩
      have t2 : Same H3 (upd H3 t (.tup [.int r.1, .int r.2.1, .int 0])) := Same.new ht
      have et : upd H3 t (.tup [.int r.1, .int r.2.1, .int 0]) t = some (.tup [.int r.1, .int r.2.1, .int 0]) := upd_same
      generalize upd H3 t (.tup [.int r.1, .int r.2.1, .int 0]) = H4 at t2 et ⊢
      refine ⟨n1, fun c2 hc2 => ?_⟩
      have t3 : Same H4 (upd H4 c2 (.lst [.ref t])) := Same.new hc2
      have e3 : upd H4 c2 (.lst [.ref t]) c2 = some (.lst [.ref t]) := upd_same
      generalize upd H4 c2 (.lst [.ref t]) = H5 at t3 e3 ⊢
      have T5 := (t1.trans t2).trans t3
      refine ⟨c1, c2, _, _, rfl, rfl, t3 _ _ (t2 _ _ e1), e3, by rw [List.length_singleton]; omega, fun c3 hc3 => ?_⟩
      have t4 : Same H5 (upd H5 c3 (.lst (xs.take aN ++ [.ref t]))) := Same.new hc3
      have e4 : upd H5 c3 (.lst (xs.take aN ++ [.ref t])) c3 = some (.lst (xs.take aN ++ [.ref t])) := upd_same
      generalize upd H5 c3 (.lst (xs.take aN ++ [.ref t])) = H6 at t4 e4 ⊢
      refine ⟨_, rfl, _, rfl, _, _, rfl, rfl, _, rfl, l, _, rfl, SqL.of (t4 _ _ (T5 _ _ W2.l)), fun c4 hc4 => ?_⟩
      rw [cut2]
      have t5 : Same H6 (upd H6 c4 (.lst (xs.drop (aN + 1)))) := Same.new hc4
      have e5 : upd H6 c4 (.lst (xs.drop (aN + 1))) c4 = some (.lst (xs.drop (aN + 1))) := upd_same
      generalize upd H6 c4 (.lst (xs.drop (aN + 1))) = H7 at t5 e5 ⊢
      refine ⟨c3, c4, _, _, rfl, rfl, t5 _ _ e4, e5, by rw [List.length_append, List.length_singleton]; omega, fun c5 hc5 => ?_⟩
      have t6 := Same.new (o := .lst (xs.take aN ++ [.ref t] ++ xs.drop (aN + 1))) hc5
      have T7 := ((t3.trans t4).trans t5).trans t6
      have ln : (ts.set aN (r.1, r.2.1, 0)).length ≤ 70 := by rw [List.length_set]; omega
      exact ⟨c5, root, _, _, rfl, upd_same, three ((t1.trans t2).trans T7) (T7 _ _ et), T.set er rfl hT1 (.inl rfl), ln, ar.set er rfl, (q.same ((s2.trans (t1.trans t2)).trans T7)).two ln⟩
    -- 11
    refine ⟨_, rfl, rfl, _, rfl, ite2 (fun _ => ?_) (fun _ => ?_)⟩
    · refine ⟨_, rfl, _, rfl, cl, _, rfl, SqL.of (s2 _ _ ecl), fun c1 hc1 => ?_⟩
      have t1 : Same H2 (upd H2 c1 (.lst (cutV (cs.map V.int) none (some 5)))) := Same.new hc1
      refine ⟨c1, cs.take 5, rfl, by rw [upd_same, show cutV (cs.map V.int) none (some 5) = (cs.map V.int).take 5 from cut_to (k := 5), List.map_take], fun z => ?_, by rw [List.length_take]; omega, q.same (s2.trans t1)⟩
      have := congrArg List.length z
      rw [List.length_take, List.length_nil] at this
      omega
    · exact ⟨_, rfl, q tb l root xs ts _ s2 W2 (by omega)⟩
end
end M
namespace M
open PySem L2
section
variable {P : Program} {w : World} {K : PySem.W.Frag} {mg : Str → Option Value} {base : Heap}
theorem cut_cells (ns : List Int) : ∃ ms : List Int, cutV (ns.map V.int) (some 3) (some 63) = ms.map V.int ∧ ms.length ≤ ns.length - 3 := by
  refine ⟨(ns.drop (HT.sIx ns.length 0 (some 3))).take (HT.sIx ns.length ns.length (some 63) - HT.sIx ns.length 0 (some 3)), ?_, ?_⟩
  · unfold cutV
    rw [List.length_map, List.map_take, List.map_drop]
  · rw [List.length_take, List.length_drop, show (some (3 : Int)) = some ((3 : Nat) : Int) from rfl, HT.sIx_nat]
    omega
def spLaw (K : PySem.W.Frag) : Sp := fun vs H Q _ => ∃ (a : Addr) (ns : List Int), vs = [.ref a] ∧ SqL K H a (ns.map V.int) ∧ ns.length ≤ 63 ∧ ∀ H', Q (.bl true) H'
theorem scLaw : FnScope ["script", "first", "cells", "table", "number", "bent", "wanted", "many", "web", "some", "handed", "said", "found"] ["script"] (defScope sLaw) := ⟨rfl, rfl, rfl, by decide +kernel, rfl, by decide +kernel, by decide +kernel⟩
theorem ok_law {f fF fG fZ fA fD fR fO fT fW fE fP fU fV fN fY fB : Addr} {fd fdF fdG fdZ fdA fdD fdR fdO fdT fdW fdE fdP fdU fdV fdN fdY fdB : FuncData} (F : Fun K "law" "law" sLaw f fd)
    (FF : Fun K "found_from" "found_from" sFou fF fdF) (bF : Binds K fdF ["root", "nodes"] []) (mF : mg "found_from" = some (.ref fF))
    (FG : Fun K "is_right_node" "is_right_node" sRig fG fdG) (bG : Binds K fdG ["web", "nodes", "node"] []) (mG : mg "is_right_node" = some (.ref fG))
    (FZ : Fun K "is_least" "is_least" sLea fZ fdZ) (bZ : Binds K fdZ ["web", "table"] []) (mZ : mg "is_least" = some (.ref fZ))
    (FA : Fun K "_law_cell_at" "_law_cell_at" sCel fA fdA) (bA : Binds K fdA ["script", "k"] []) (mA : mg "_law_cell_at" = some (.ref fA))
    (FD : Fun K "_law_digits" "_law_digits" sDig fD fdD) (bD : Binds K fdD ["cell", "many", "top"] []) (mD : mg "_law_digits" = some (.ref fD))
    (FR : Fun K "_law_raw" "_law_raw" sRaw fR fdR) (bR : Binds K fdR ["cells", "road"] []) (mR : mg "_law_raw" = some (.ref fR))
    (FO : Fun K "_law_in_order" "_law_in_order" sIno fO fdO) (bO : Binds K fdO ["root", "nodes"] []) (mO : mg "_law_in_order" = some (.ref fO))
    (FT : Fun K "_law_table" "_law_table" sTab fT fdT) (bT : Binds K fdT ["root", "nodes"] []) (mT : mg "_law_table" = some (.ref fT))
    (FW : Fun K "_law_drawn" "_law_drawn" sDra fW fdW) (bW : Binds K fdW ["cells", "first"] []) (mW : mg "_law_drawn" = some (.ref fW))
    (FE : Fun K "_law_least" "_law_least" sLle fE fdE) (bE : Binds K fdE ["table", "many"] []) (mE : mg "_law_least" = some (.ref fE))
    (FP : Fun K "_law_pairs" "_law_pairs" sPai fP fdP) (bP : Binds K fdP ["places", "many"] []) (mP : mg "_law_pairs" = some (.ref fP))
    (FU : Fun K "_law_turned" "_law_turned" sTur fU fdU) (bU : Binds K fdU ["table", "one", "other"] []) (mU : mg "_law_turned" = some (.ref fU))
    (FV : Fun K "_law_twice" "_law_twice" sTwi fV fdV) (bV : Binds K fdV ["table", "at"] []) (mV : mg "_law_twice" = some (.ref fV))
    (FN : Fun K "_law_node_bent" "_law_node_bent" sNob fN fdN) (bN : Binds K fdN ["table", "way", "at", "number"] []) (mN : mg "_law_node_bent" = some (.ref fN))
    (FY : Fun K "_law_any" "_law_any" sAny fY fdY) (bY : Binds K fdY ["cells"] []) (mY : mg "_law_any" = some (.ref fY))
    (FB : Fun K "_law_bent" "_law_bent" sBen fB fdB) (bB : Binds K fdB ["table", "way", "number", "cells"] []) (mB : mg "_law_bent" = some (.ref fB))
    (mIsi : mg "isinstance" = none) (mRange : mg "range" = none) (mLst : mg "list" = none) (mLen : mg "len" = none) (mBool : mg "bool" = none) (mMax : mg "max" = none) (mMin : mg "min" = none) (mAll : mg "all" = none) (mSet : mg "set" = none) :
    FnOk P w K mg base CX0 4 f fd ["script"] (spLaw K) := by
  have GZ : FnOk P w K mg base CX0 2 fZ fdZ ["web", "table"] spLea := ok_lea FZ FF bF mF FG bG mG mLen mAll mSet mLst mRange
  have GA : FnOk P w K mg base CX0 1 fA fdA ["script", "k"] (spCel K) := ok_cel FA mLen
  have GD : FnOk P w K mg base CX0 1 fD fdD ["cell", "many", "top"] spDig := ok_dig FD mRange
  have GW : FnOk P w K mg base CX0 3 fW fdW ["cells", "first"] spDra := ok_dra FW FR bR mR FT bT mT FO bO mO mRange mLen mMax
  have GE : FnOk P w K mg base CX0 2 fE fdE ["table", "many"] spLle := ok_lle FE FO bO mO mLen mSet
  have GP : FnOk P w K mg base CX0 1 fP fdP ["places", "many"] spPai := ok_pai FP mRange
  have GB : FnOk P w K mg base CX0 3 fB fdB ["table", "way", "number", "cells"] spBen := ok_ben FB FO bO mO FU bU mU FV bV mV FN bN mN FY bY mY mLen mLst mRange mMax
  refine F.ok scLaw (fun vs H Q E h => ?_) (fun cdv A outer s H vs Q E hr h => ?_)
  · obtain ⟨a, ns, rfl, _⟩ := h
    rfl
  · obtain ⟨a, ns, rfl, hS, hlen, q⟩ := h
    have hu := hr.units
    have h16 : (16777216 : Nat) = sizeLine := sizeLine_eq.symm
    have n1 : 1 ≤ sizeLine := by omega
    refine ⟨_, pss_cons (ps_set (i := 1) scLaw.nd rfl (Or.inl rfl) (pe_call GA (hr.mono (by decide)) rfl mA FA.kp bA .nil pass0 (pa_cons (pv 0) (pa_cons pe_int pa_nil))))
       (pss_cons (ps_set (i := 2) scLaw.nd rfl (Or.inl rfl) (pe_slice (kSl K) (pv 0) (po_some pe_int) (po_some pe_int)))
       (pss_cons (ps_set (i := 3) scLaw.nd rfl (Or.inl rfl) (pe_call GW (hr.mono (by decide)) rfl mW FW.kp bW .nil pass0 (pa_cons (pv 2) (pa_cons (pv 1) pa_nil))))
       (pss_cons (ps_set (i := 4) scLaw.nd rfl (Or.inl rfl) (pe_ix (kIxL K) (pe_call GD (hr.mono (by decide)) rfl mD FD.kp bD .nil pass0 (pa_cons (pe_call GA (hr.mono (by decide)) rfl mA FA.kp bA .nil pass0 (pa_cons (pv 0) (pa_cons pe_int pa_nil))) (pa_cons pe_int (pa_cons (pe_op op_pow pe_int pe_int) pa_nil)))) pe_int (fun _ _ => rfl)))
       (pss_cons (ps_set (i := 5) scLaw.nd rfl (Or.inl rfl) (pe_call GB (hr.mono (by decide)) rfl mB FB.kp bB .nil pass0 (pa_cons (pv 3) (pa_cons (pe_op op_mod (pe_call GA (hr.mono (by decide)) rfl mA FA.kp bA .nil pass0 (pa_cons (pv 0) (pa_cons pe_int pa_nil))) pe_int) (pa_cons (pv 4) (pa_cons (pv 2) pa_nil))))))
       (pss_cons (ps_set (i := 6) scLaw.nd rfl (Or.inl rfl) (pe_callB (kMax K rfl) rfl mMax boot_max (pa_cons (pe_op op_cat (pe_lst (pa_cons pe_int pa_nil)) (pe_comp (own := ["node"]) rfl (compScope_plain (by decide +kernel) (by decide +kernel) rfl (by decide +kernel)) (kList K (pe_ix (kIxT K) (pv 3) pe_int (fun _ _ => rfl))) (fun _ _ _ _ => pg_name (i := 0) (show List.Nodup (["node"] : List Str) by decide +kernel) rfl (Or.inl rfl)) (fun _ _ _ _ => pifs_nil) (fun _ _ _ _ => pe_op op_add (pe_ix (kIxT K) (pv 0) pe_int (fun _ _ => rfl)) pe_int))) pa_nil)))
       (pss_cons (ps_set (i := 7) scLaw.nd rfl (Or.inl rfl) (pe_callB (call_min2 rfl) rfl mMin boot_min (pa_cons pe_int (pa_cons (pe_op op_add (pv 6) (pe_op op_mod (pe_op op_fdivB (pv 1) pe_int) pe_int)) pa_nil))))
       (pss_cons (ps_if (pt_cmpR op_eq (pe_op op_mod (pe_op op_fdivB (pv 1) pe_int) pe_int) pe_int (nomark _)) (pss_one (ps_set (i := 7) scLaw.nd rfl (Or.inl rfl) (pe_callB (call_max2 rfl) rfl mMax boot_max (pa_cons pe_int (pa_cons (pe_op op_sub (pv 6) pe_int) pa_nil))))) pss_nil)
       (pss_cons (ps_set (i := 8) scLaw.nd rfl (Or.inl rfl) (pe_tup (pa_cons pe_int (pa_cons (pe_call GP (hr.mono (by decide)) rfl mP FP.kp bP .nil pass0 (pa_cons pe_int (pa_cons (pv 7) pa_nil))) pa_nil))))
       (pss_cons (ps_for PassesOwn.never rfl (kList K (pe_lst (pa_cons (pv 5) (pa_cons (pv 3) pa_nil)))) (pg_name (i := 9) scLaw.nd rfl (Or.inl rfl))
       (pss_cons (ps_set (i := 10) scLaw.nd rfl (Or.inl rfl) (pe_tup (pa_cons (pe_ix (kIxT K) (pv 9) pe_int (fun _ _ => rfl)) (pa_cons (pe_callTy (kListOf K) rfl mLst boot_list (pa_cons (pe_ix (kIxT K) (pv 9) pe_int (fun _ _ => rfl)) pa_nil)) pa_nil))))
       (pss_cons (ps_set (i := 11) scLaw.nd rfl (Or.inl rfl) (pe_tup (pa_cons pe_int (pa_cons (pe_callTy (kListOf K) rfl mLst boot_list (pa_cons (pe_ix (kIxT K) (pv 8) pe_int (fun _ _ => rfl)) pa_nil)) pa_nil))))
       (pss_cons (ps_set (i := 12) scLaw.nd rfl (Or.inl rfl) (pe_call GZ (hr.mono (by decide)) rfl mZ FZ.kp bZ .nil pass0 (pa_cons (pv 11) (pa_cons (pv 10) pa_nil))))
       (pss_cons (ps_if (PW.pt (pw_or (pt_not (pt_val (pe_callB (kIsi K) rfl mIsi boot_isi (pa_cons (pv 12) (pa_cons (pe_typ mBool boot_bool) pa_nil))))) (pw_or1 (pt_cmpR op_ne (pv 12) (pe_call GE (hr.mono (by decide)) rfl mE FE.kp bE .nil pass0 (pa_cons (pv 9) (pa_cons (pv 7) pa_nil))) (nomark _))))) (pss_one (ps_ret pe_bl)) pss_nil)
       (pss_one (ps_if (PW.pt (pw_or (pt_cmpR (kNeD K hu) (pv 10) (pv 9) (nomark _)) (pw_or1 (pt_cmpR (kNeD K hu) (pv 11) (pv 8) (nomark _))))) (pss_one (ps_ret pe_bl)) pss_nil)))))))
       (pss_one (ps_ret pe_bl))))))))))), ?_⟩
    -- first, cells, table
    refine ⟨_, rfl, a, ns, 0, rfl, hS, fun z0 => ?_⟩
    refine ⟨_, rfl, _, rfl, _, rfl, a, _, rfl, hS, fun p1 hp1 => ?_⟩
    obtain ⟨cs, ecs, lcs⟩ := cut_cells ns
    rw [ecs]
    have s1 : Same H (upd H p1 (.lst (cs.map V.int))) := Same.new hp1
    have ecl : upd H p1 (.lst (cs.map V.int)) p1 = some (.lst (cs.map V.int)) := upd_same
    generalize upd H p1 (.lst (cs.map V.int)) = H1 at s1 ecl ⊢
    refine ⟨_, rfl, _, rfl, p1, cs, z0, rfl, ecl, by omega, fun tb l root xs us H2 s2 htb hl W T ar hul => ?_⟩
    have S2 := s1.trans s2
    -- number
    dsimp only [gName]
    refine seq_mid (fun σ' H' => ∃ num : Int, σ' = [some (.ref a), some (.int z0), some (.ref p1), some (.ref tb), some (.int num), none, none, none, none, none, none, none, none] ∧ Same H2 H') ?s1 ?f1
    case f1 =>
      intro hk
      refine ⟨_, rfl, a, ns, 1, rfl, S2.seq hS, fun z1 => ?_⟩
      refine ⟨_, _, rfl, rfl, ⟨by decide, by decide, by decide⟩, z1, _, 1, rfl, by decide, by decide, by decide, fun nl nums H3 s3 hnl enl lnl => ?_⟩
      refine ⟨nl, _, _, _, rfl, rfl, SqL.of enl, at_int (by omega) (by omega), ?_⟩
      exact hk _ _ ⟨_, rfl, s3⟩
    rintro σ' H3 ⟨num, rfl, s3⟩
    have W3 := W.same s3
    have S3 := S2.trans s3
    -- bent
    refine ⟨_, rfl, _, rfl, a, ns, 2, rfl, S3.seq hS, fun z2 => ?_⟩
    refine ⟨_, _, rfl, rfl, (by show (0 : Int) < 13; decide), _, rfl, _, rfl, tb, l, p1, root, z2 % 13, num, xs, us, cs, rfl, W3, T, ar, by omega, s3 _ _ (s2 _ _ ecl), by omega, hul, fun bt bl broot bxs bus H4 s4 WB hbl => ?_⟩
    have W4 := W3.same s4
    -- wanted
    dsimp only [gName]
    refine seq_mid (fun σ' H' => ∃ wn : Nat, σ' = [some (.ref a), some (.int z0), some (.ref p1), some (.ref tb), some (.int num), some (.ref bt), some (.int (wn : Int)), none, none, none, none, none, none] ∧ Same H4 H' ∧ wn ≤ 30) ?s2 ?f2
    case f2 =>
      intro hk
      refine ⟨n1, fun c1 hc1 => ?_⟩
      have t1 : Same H4 (upd H4 c1 (.lst [.int 0])) := Same.new hc1
      have e1 : upd H4 c1 (.lst [.int 0]) c1 = some (.lst [.int 0]) := upd_same
      generalize upd H4 c1 (.lst [.int 0]) = H5 at t1 e1 ⊢
      have W5 := W4.same t1
      have hxl := W5.t.len
      refine ⟨_, rfl, tb, _, _, _, rfl, rfl, SqT.of W5.w, atI_nat (j := 1) rfl, l, rfl, ⟨_, SqL.of W5.l⟩, fun D hD => ?_⟩
      refine comp_list (K := K) (a := l) (xs := xs) (fun i ys H' => Same H5 H' ∧ H' D = some (.lst ys) ∧ ∃ ms : List Int, ys = ms.map V.int ∧ ms.length = i ∧ ∀ m ∈ ms, m ≤ 30) ⟨Same.new hD, upd_same, [], rfl, rfl, fun m hm => (by cases hm)⟩ (fun i ys H' _ ⟨t2, _⟩ => SqL.of (t2 _ _ W5.l)) ?_ ?_
      · rintro i x ys H6 hx ⟨t2, eD, ms, rfl, hms, hb⟩
        obtain ⟨t, r, rfl, et, er⟩ := (W5.t.same t2).get hx
        have hi := (List.getElem?_eq_some_iff.mp er).1
        obtain ⟨hT0, _, _⟩ := T i r er
        refine ⟨trivial, ?_⟩
        unfold tYes
        refine iteT ?_
        refine ⟨_, rfl, t, _, _, _, rfl, rfl, SqT.of et, atI_nat (j := 0) rfl, _, _, rfl, rfl, eD, by rw [List.length_map]; omega, t2.put hD, upd_same, ms ++ [r.1 + 1], by rw [List.map_append]; rfl, by rw [List.length_append, List.length_singleton, hms], fun m hm => ?_⟩
        rcases List.mem_append.mp hm with z | z
        · exact hb m z
        · rw [List.mem_singleton] at z
          omega
      · rintro ys H6 ⟨t2, eD, ms, rfl, hms, hb⟩
        refine ⟨c1, D, _, _, rfl, rfl, t2 _ _ e1, eD, by rw [List.length_map, List.length_singleton]; omega, fun c3 hc3 => ?_⟩
        have t3 := Same.new (o := .lst ([.int 0] ++ ms.map V.int)) hc3
        refine ⟨c3, 0 :: ms, rfl, SqL.of upd_same, by simp, fun m hm hmax => ?_⟩
        have h0 := hmax 0 List.mem_cons_self
        have h30 : m ≤ 30 := by
          rcases List.mem_cons.mp hm with z | z
          · omega
          · exact hb m z
        obtain ⟨wn, rfl⟩ := Int.eq_ofNat_of_zero_le h0
        exact hk _ _ ⟨wn, rfl, (t1.trans t2).trans t3, by omega⟩
    rintro σ' H5 ⟨wn, rfl, s5, hwn⟩
    -- many
    refine seq_mid (fun σ' H' => ∃ mn : Nat, σ' = [some (.ref a), some (.int z0), some (.ref p1), some (.ref tb), some (.int num), some (.ref bt), some (.int (wn : Int)), some (.int (mn : Int)), none, none, none, none, none] ∧ H5 = H' ∧ mn ≤ 30) ?s3 ?f3
    case f3 =>
      intro hk
      refine ⟨_, rfl, _, rfl, _, _, rfl, rfl, ⟨by decide, lt2_lit⟩, _, _, rfl, rfl, (by show (0 : Int) < 3; decide), _, _, rfl, rfl, _, _, rfl, ?_⟩
      have hz : 0 ≤ z0 / 60 % 3 := Int.emod_nonneg _ (by decide)
      obtain ⟨mn, hmn⟩ : ∃ mn : Nat, (if (wn : Int) + z0 / 60 % 3 < 30 then (wn : Int) + z0 / 60 % 3 else 30) = (mn : Int) := by
        split
        · exact Int.eq_ofNat_of_zero_le (by omega)
        · exact ⟨30, rfl⟩
      refine hk _ _ ⟨mn, by rw [← hmn]; rfl, rfl, ?_⟩
      split at hmn <;> omega
    rintro σ' H' ⟨mn0, rfl, rfl, hmn0⟩
    refine seq_mid (fun σ' H' => ∃ mn : Nat, σ' = [some (.ref a), some (.int z0), some (.ref p1), some (.ref tb), some (.int num), some (.ref bt), some (.int (wn : Int)), some (.int (mn : Int)), none, none, none, none, none] ∧ H5 = H' ∧ mn ≤ 30) ?s4 ?f4
    case f4 =>
      intro hk
      refine ⟨_, rfl, _, _, rfl, rfl, ⟨by decide, lt2_lit⟩, _, _, rfl, rfl, (by show (0 : Int) < 8; decide), rfl, _, rfl, ite2 (fun _ => ?_) (fun _ => ?_)⟩
      · refine ⟨_, rfl, _, _, rfl, rfl, _, _, rfl, ?_⟩
        obtain ⟨mn, hmn⟩ : ∃ mn : Nat, (if (wn : Int) - 1 > 0 then (wn : Int) - 1 else 0) = (mn : Int) := by
          split
          · exact Int.eq_ofNat_of_zero_le (by omega)
          · exact ⟨0, rfl⟩
        refine hk _ _ ⟨mn, by rw [← hmn]; rfl, rfl, ?_⟩
        split at hmn <;> omega
      · exact hk _ _ ⟨mn0, rfl, rfl, hmn0⟩
    rintro σ' H' ⟨mn, rfl, rfl, hmn⟩
    -- web
    refine ⟨_, rfl, mn, rfl, hmn, fun pl ys rs H6 s6 epl pr hys => ⟨two_le, fun wb hwb => ?_⟩⟩
    have s7 : Same H6 (upd H6 wb (.tup [.int 9, .ref pl])) := Same.new hwb
    have ewb : upd H6 wb (.tup [.int 9, .ref pl]) wb = some (.tup [.int 9, .ref pl]) := upd_same
    have epl7 := s7 _ _ epl
    have pr7 := pr.same s7
    have W7 := ((W4.same s5).same s6).same s7
    have WB7 := ((WB.same s5).same s6).same s7
    generalize upd H6 wb (.tup [.int 9, .ref pl]) = H7 at s7 ewb epl7 pr7 W7 WB7 ⊢
    clear epl pr
    -- the two
    refine ⟨_, rfl, _, rfl, two_le, fun fl hfl => ?_⟩
    have s8 : Same H7 (upd H7 fl (.lst [.ref bt, .ref tb])) := Same.new hfl
    have efl : upd H7 fl (.lst [.ref bt, .ref tb]) fl = some (.lst [.ref bt, .ref tb]) := upd_same
    generalize upd H7 fl (.lst [.ref bt, .ref tb]) = H8 at s8 efl ⊢
    refine ⟨fl, rfl, ⟨_, SqL.of efl⟩, ?_⟩
    refine for_list (K := K) (a := fl) (xs := [.ref bt, .ref tb]) (fun i σ' H' => ∃ v9 v10 v11 v12 : Option V, σ' = [some (.ref a), some (.int z0), some (.ref p1), some (.ref tb), some (.int num), some (.ref bt), some (.int (wn : Int)), some (.int (mn : Int)), some (.ref wb), v9, v10, v11, v12] ∧ Same H8 H') ⟨none, none, none, none, rfl, Same.refl _⟩ (fun i σ' H' _ ⟨_, _, _, _, _, s9⟩ => SqL.of (s9 _ _ efl)) ?_ ?_
    · rintro i x σ' H9 hx ⟨v9, v10, v11, v12, rfl, s9⟩
      obtain ⟨sb, sl, sr, sx, su, rfl, WS, hsu⟩ : ∃ (sb sl : Addr) (sr : Int) (sx : List V) (su : List Tri), x = .ref sb ∧ TabAt H9 sb sl sr sx su ∧ su.length ≤ 70 := by
        match i, hx with
        | 0, hx => simp at hx; exact ⟨bt, bl, broot, bxs, bus, hx.symm, (WB7.same s8).same s9, hbl⟩
        | 1, hx => simp at hx; exact ⟨tb, l, root, xs, us, hx.symm, (W7.same s8).same s9, by omega⟩
      refine ⟨_, rfl, sb, _, _, _, rfl, rfl, SqT.of WS.w, atI_nat (j := 0) rfl, _, rfl, sb, _, _, _, rfl, rfl, SqT.of WS.w, atI_nat (j := 1) rfl, sl, sx, rfl, .inl (SqL.of WS.l), fun l2 hl2 => ⟨two_le, fun p hp => ?_⟩⟩
      have t1 : Same H9 (upd (upd H9 l2 (.lst sx)) p (.tup [.int sr, .ref l2])) := (Same.new hl2).trans (Same.new hp)
      have Wh : TabAt (upd (upd H9 l2 (.lst sx)) p (.tup [.int sr, .ref l2])) p l2 sr sx su := ⟨upd_same, (Same.new hp) _ _ upd_same, WS.t.same t1⟩
      generalize upd (upd H9 l2 (.lst sx)) p (.tup [.int sr, .ref l2]) = H10 at t1 Wh ⊢
      have T1 := (s8.trans s9).trans t1
      refine ⟨_, rfl, wb, _, _, _, rfl, rfl, SqT.of (T1 _ _ ewb), atI_nat (j := 1) rfl, pl, ys, rfl, .inl (SqL.of (T1 _ _ epl7)), fun l3 hl3 => ⟨two_le, fun p3 hp3 => ?_⟩⟩
      have t2 : Same H10 (upd (upd H10 l3 (.lst ys)) p3 (.tup [.int 9, .ref l3])) := (Same.new hl3).trans (Same.new hp3)
      have e3 : upd (upd H10 l3 (.lst ys)) p3 (.tup [.int 9, .ref l3]) p3 = some (.tup [.int 9, .ref l3]) := upd_same
      have e4 : upd (upd H10 l3 (.lst ys)) p3 (.tup [.int 9, .ref l3]) l3 = some (.lst ys) := (Same.new hp3) _ _ upd_same
      generalize upd (upd H10 l3 (.lst ys)) p3 (.tup [.int 9, .ref l3]) = H11 at t2 e3 e4 ⊢
      refine ⟨_, rfl, _, rfl, p3, l3, p, l2, .int 9, sr, ys, sx, su, rfl, e3, e4, by omega, Wh.same t2, by omega, fun b1 H12 t3 hb1 => ?_⟩
      have WS12 := ((WS.same t1).same t2).same t3
      refine ⟨_, rfl, _, _, true, rfl, ⟨_, rfl, iteF ?_⟩, .inl ⟨_, .bl _, rfl, kit_self⟩⟩
      refine ⟨_, rfl, _, rfl, _, rfl, sb, sl, sr, (mn : Int), sx, su, rfl, by omega, WS12, hsu, fun b2 H13 t4 hb2 => ?_⟩
      have e12 : b1 = b2 := by
        rw [hys] at hb1
        have := hb1.trans hb2.symm
        cases b1 <;> cases b2 <;> simp_all
      subst e12
      refine ⟨rfl, _, rfl, ?_⟩
      rw [decide_eq_true rfl]
      refine iteF ?_
      have Wh13 := ((Wh.same t2).same t3).same t4
      have WS13 := WS12.same t4
      have T4 := (t2.trans t3).trans t4
      refine ⟨_, rfl, _, rfl, .tuple [.int sr, .list (su.map trD)], .tuple [.int sr, .list (su.map trD)], .tup (SqT.of Wh13.w) (.cons (.int _) (.cons (.lst (SqL.of Wh13.l) Wh13.t.dats) .nil)), .tup (SqT.of WS13.w) (.cons (.int _) (.cons (.lst (SqL.of WS13.l) WS13.t.dats) .nil)), tab_shaped _ _, tab_shaped _ _, _, rfl, ?_⟩
      rw [tab_eqv, decide_eq_true rfl, decide_eq_true rfl]
      refine iteF ?_
      have pr13 := pr7.same (T1.trans T4)
      refine ⟨_, rfl, _, rfl, .tuple [.int 9, .list (rs.map prD)], .tuple [.int 9, .list (rs.map prD)], .tup (SqT.of ((t3.trans t4) _ _ e3)) (.cons (.int _) (.cons (.lst (SqL.of ((t3.trans t4) _ _ e4)) pr13.dats) .nil)), .tup (SqT.of ((T1.trans T4) _ _ ewb)) (.cons (.int _) (.cons (.lst (SqL.of ((T1.trans T4) _ _ epl7)) pr13.dats) .nil)), web_shaped _ _, web_shaped _ _, _, rfl, ?_⟩
      rw [web_eqv, decide_eq_true rfl, decide_eq_true rfl]
      refine iteF ?_
      exact ⟨_, _, _, _, rfl, (s9.trans t1).trans T4⟩
    · rintro σ' H9 _
      exact q H9
end
end M
namespace M
open PySem L2
theorem all_mk {l : PySem.W.OpenLaw} {w : World} {K : PySem.W.Frag} {h : Heap} {mg : Str → Option Value} {fa f1 f2 f3 f4 f5 f6 f7 f8 f9 f10 f11 f12 f13 f14 f15 f16 f17  : Addr} (X : K.In h) (G : h.Ns mainGlobals mg) (hfa : mg "law" = some (.ref fa))
    {od1 an1 od2 an2 od3 an3 od4 an4 od5 an5 od6 an6 od7 an7 od8 an8 od9 an9 od10 an10 od11 an11 od12 an12 od13 an13 od14 an14 od15 an15 od16 an16 od17 an17 : Option Addr} {sl1 sl2 sl3 sl4 sl5 sl6 sl7 sl8 sl9 sl10 sl11 sl12 sl13 sl14 sl15 sl16 sl17 : Array (Option Value)} {oc1 kV1 dc1 pm1 cd1 ct1 oc2 kV2 dc2 pm2 cd2 ct2 oc3 kV3 dc3 pm3 cd3 ct3 oc4 kV4 dc4 pm4 cd4 ct4 oc5 kV5 dc5 pm5 cd5 ct5 oc6 kV6 dc6 pm6 cd6 ct6 oc7 kV7 dc7 pm7 cd7 ct7 oc8 kV8 dc8 pm8 cd8 ct8 oc9 kV9 dc9 pm9 cd9 ct9 oc10 kV10 dc10 pm10 cd10 ct10 oc11 kV11 dc11 pm11 cd11 ct11 oc12 kV12 dc12 pm12 cd12 ct12 oc13 kV13 dc13 pm13 cd13 ct13 oc14 kV14 dc14 pm14 cd14 ct14 oc15 kV15 dc15 pm15 cd15 ct15 oc16 kV16 dc16 pm16 cd16 ct16 oc17 kV17 dc17 pm17 cd17 ct17 : Value}
    (aF1 : PySem.W.nsIn K mainGlobals "found_from" = some (some (.ref f1))) (lF1 : K.lookup f1 = some ⟨oc1, od1, .func (PySem.W.fnOf "found_from" "found_from" (defArgs sFou) (defBody sFou) (defScope sFou) .none kV1 dc1 pm1 an1 cd1 ct1), sl1⟩) (cF1 : PySem.W.codeIn K cd1 "found_from" = true) (kF1 : PySem.W.keepIn K (.ref f1) = true)
    (aF2 : PySem.W.nsIn K mainGlobals "is_right_node" = some (some (.ref f2))) (lF2 : K.lookup f2 = some ⟨oc2, od2, .func (PySem.W.fnOf "is_right_node" "is_right_node" (defArgs sRig) (defBody sRig) (defScope sRig) .none kV2 dc2 pm2 an2 cd2 ct2), sl2⟩) (cF2 : PySem.W.codeIn K cd2 "is_right_node" = true) (kF2 : PySem.W.keepIn K (.ref f2) = true)
    (aF3 : PySem.W.nsIn K mainGlobals "is_least" = some (some (.ref f3))) (lF3 : K.lookup f3 = some ⟨oc3, od3, .func (PySem.W.fnOf "is_least" "is_least" (defArgs sLea) (defBody sLea) (defScope sLea) .none kV3 dc3 pm3 an3 cd3 ct3), sl3⟩) (cF3 : PySem.W.codeIn K cd3 "is_least" = true) (kF3 : PySem.W.keepIn K (.ref f3) = true)
    (aF4 : PySem.W.nsIn K mainGlobals "_law_cell_at" = some (some (.ref f4))) (lF4 : K.lookup f4 = some ⟨oc4, od4, .func (PySem.W.fnOf "_law_cell_at" "_law_cell_at" (defArgs sCel) (defBody sCel) (defScope sCel) .none kV4 dc4 pm4 an4 cd4 ct4), sl4⟩) (cF4 : PySem.W.codeIn K cd4 "_law_cell_at" = true) (kF4 : PySem.W.keepIn K (.ref f4) = true)
    (aF5 : PySem.W.nsIn K mainGlobals "_law_digits" = some (some (.ref f5))) (lF5 : K.lookup f5 = some ⟨oc5, od5, .func (PySem.W.fnOf "_law_digits" "_law_digits" (defArgs sDig) (defBody sDig) (defScope sDig) .none kV5 dc5 pm5 an5 cd5 ct5), sl5⟩) (cF5 : PySem.W.codeIn K cd5 "_law_digits" = true) (kF5 : PySem.W.keepIn K (.ref f5) = true)
    (aF6 : PySem.W.nsIn K mainGlobals "_law_raw" = some (some (.ref f6))) (lF6 : K.lookup f6 = some ⟨oc6, od6, .func (PySem.W.fnOf "_law_raw" "_law_raw" (defArgs sRaw) (defBody sRaw) (defScope sRaw) .none kV6 dc6 pm6 an6 cd6 ct6), sl6⟩) (cF6 : PySem.W.codeIn K cd6 "_law_raw" = true) (kF6 : PySem.W.keepIn K (.ref f6) = true)
    (aF7 : PySem.W.nsIn K mainGlobals "_law_in_order" = some (some (.ref f7))) (lF7 : K.lookup f7 = some ⟨oc7, od7, .func (PySem.W.fnOf "_law_in_order" "_law_in_order" (defArgs sIno) (defBody sIno) (defScope sIno) .none kV7 dc7 pm7 an7 cd7 ct7), sl7⟩) (cF7 : PySem.W.codeIn K cd7 "_law_in_order" = true) (kF7 : PySem.W.keepIn K (.ref f7) = true)
    (aF8 : PySem.W.nsIn K mainGlobals "_law_table" = some (some (.ref f8))) (lF8 : K.lookup f8 = some ⟨oc8, od8, .func (PySem.W.fnOf "_law_table" "_law_table" (defArgs sTab) (defBody sTab) (defScope sTab) .none kV8 dc8 pm8 an8 cd8 ct8), sl8⟩) (cF8 : PySem.W.codeIn K cd8 "_law_table" = true) (kF8 : PySem.W.keepIn K (.ref f8) = true)
    (aF9 : PySem.W.nsIn K mainGlobals "_law_drawn" = some (some (.ref f9))) (lF9 : K.lookup f9 = some ⟨oc9, od9, .func (PySem.W.fnOf "_law_drawn" "_law_drawn" (defArgs sDra) (defBody sDra) (defScope sDra) .none kV9 dc9 pm9 an9 cd9 ct9), sl9⟩) (cF9 : PySem.W.codeIn K cd9 "_law_drawn" = true) (kF9 : PySem.W.keepIn K (.ref f9) = true)
    (aF10 : PySem.W.nsIn K mainGlobals "_law_least" = some (some (.ref f10))) (lF10 : K.lookup f10 = some ⟨oc10, od10, .func (PySem.W.fnOf "_law_least" "_law_least" (defArgs sLle) (defBody sLle) (defScope sLle) .none kV10 dc10 pm10 an10 cd10 ct10), sl10⟩) (cF10 : PySem.W.codeIn K cd10 "_law_least" = true) (kF10 : PySem.W.keepIn K (.ref f10) = true)
    (aF11 : PySem.W.nsIn K mainGlobals "_law_pairs" = some (some (.ref f11))) (lF11 : K.lookup f11 = some ⟨oc11, od11, .func (PySem.W.fnOf "_law_pairs" "_law_pairs" (defArgs sPai) (defBody sPai) (defScope sPai) .none kV11 dc11 pm11 an11 cd11 ct11), sl11⟩) (cF11 : PySem.W.codeIn K cd11 "_law_pairs" = true) (kF11 : PySem.W.keepIn K (.ref f11) = true)
    (aF12 : PySem.W.nsIn K mainGlobals "_law_turned" = some (some (.ref f12))) (lF12 : K.lookup f12 = some ⟨oc12, od12, .func (PySem.W.fnOf "_law_turned" "_law_turned" (defArgs sTur) (defBody sTur) (defScope sTur) .none kV12 dc12 pm12 an12 cd12 ct12), sl12⟩) (cF12 : PySem.W.codeIn K cd12 "_law_turned" = true) (kF12 : PySem.W.keepIn K (.ref f12) = true)
    (aF13 : PySem.W.nsIn K mainGlobals "_law_twice" = some (some (.ref f13))) (lF13 : K.lookup f13 = some ⟨oc13, od13, .func (PySem.W.fnOf "_law_twice" "_law_twice" (defArgs sTwi) (defBody sTwi) (defScope sTwi) .none kV13 dc13 pm13 an13 cd13 ct13), sl13⟩) (cF13 : PySem.W.codeIn K cd13 "_law_twice" = true) (kF13 : PySem.W.keepIn K (.ref f13) = true)
    (aF14 : PySem.W.nsIn K mainGlobals "_law_node_bent" = some (some (.ref f14))) (lF14 : K.lookup f14 = some ⟨oc14, od14, .func (PySem.W.fnOf "_law_node_bent" "_law_node_bent" (defArgs sNob) (defBody sNob) (defScope sNob) .none kV14 dc14 pm14 an14 cd14 ct14), sl14⟩) (cF14 : PySem.W.codeIn K cd14 "_law_node_bent" = true) (kF14 : PySem.W.keepIn K (.ref f14) = true)
    (aF15 : PySem.W.nsIn K mainGlobals "_law_any" = some (some (.ref f15))) (lF15 : K.lookup f15 = some ⟨oc15, od15, .func (PySem.W.fnOf "_law_any" "_law_any" (defArgs sAny) (defBody sAny) (defScope sAny) .none kV15 dc15 pm15 an15 cd15 ct15), sl15⟩) (cF15 : PySem.W.codeIn K cd15 "_law_any" = true) (kF15 : PySem.W.keepIn K (.ref f15) = true)
    (aF16 : PySem.W.nsIn K mainGlobals "_law_bent" = some (some (.ref f16))) (lF16 : K.lookup f16 = some ⟨oc16, od16, .func (PySem.W.fnOf "_law_bent" "_law_bent" (defArgs sBen) (defBody sBen) (defScope sBen) .none kV16 dc16 pm16 an16 cd16 ct16), sl16⟩) (cF16 : PySem.W.codeIn K cd16 "_law_bent" = true) (kF16 : PySem.W.keepIn K (.ref f16) = true)
    (aF17 : PySem.W.nsIn K mainGlobals "law" = some (some (.ref f17))) (lF17 : K.lookup f17 = some ⟨oc17, od17, .func (PySem.W.fnOf "law" "law" (defArgs sLaw) (defBody sLaw) (defScope sLaw) .none kV17 dc17 pm17 an17 cd17 ct17), sl17⟩) (cF17 : PySem.W.codeIn K cd17 "law" = true) (kF17 : PySem.W.keepIn K (.ref f17) = true)
    (nisi : PySem.W.nsIn K mainGlobals "isinstance" = some none)
    (nrange : PySem.W.nsIn K mainGlobals "range" = some none)
    (nlst : PySem.W.nsIn K mainGlobals "list" = some none)
    (nlen : PySem.W.nsIn K mainGlobals "len" = some none)
    (nbool : PySem.W.nsIn K mainGlobals "bool" = some none)
    (nmax : PySem.W.nsIn K mainGlobals "max" = some none)
    (nmin : PySem.W.nsIn K mainGlobals "min" = some none)
    (nall : PySem.W.nsIn K mainGlobals "all" = some none)
    (nset : PySem.W.nsIn K mainGlobals "set" = some none)
    : ∃ fd : FuncData, (∀ (s : Shared) (v : Value), BindsTo s fd ⟨[v], []⟩ [("script", v)]) ∧ ∀ base : Heap, K.In base → base.Ns mainGlobals mg → FnOk l.prog w K mg base CX0 4 fa fd ["script"] (spLaw K) := by
  have e := hfa.symm.trans (PySem.W.mg_of X G aF17)
  cases e
  have FF := fun_mk (st := sFou) lF1 cF1 kF1
  have bF := FF.binds (ps := ["root", "nodes"]) fun _ _ _ _ _ _ us hl => match us, hl with | [_, _], _ => rfl
  have mF : mg "found_from" = some (.ref f1) := PySem.W.mg_of X G aF1
  have FG := fun_mk (st := sRig) lF2 cF2 kF2
  have bG := FG.binds (ps := ["web", "nodes", "node"]) fun _ _ _ _ _ _ us hl => match us, hl with | [_, _, _], _ => rfl
  have mG : mg "is_right_node" = some (.ref f2) := PySem.W.mg_of X G aF2
  have FZ := fun_mk (st := sLea) lF3 cF3 kF3
  have bZ := FZ.binds (ps := ["web", "table"]) fun _ _ _ _ _ _ us hl => match us, hl with | [_, _], _ => rfl
  have mZ : mg "is_least" = some (.ref f3) := PySem.W.mg_of X G aF3
  have FA := fun_mk (st := sCel) lF4 cF4 kF4
  have bA := FA.binds (ps := ["script", "k"]) fun _ _ _ _ _ _ us hl => match us, hl with | [_, _], _ => rfl
  have mA : mg "_law_cell_at" = some (.ref f4) := PySem.W.mg_of X G aF4
  have FD := fun_mk (st := sDig) lF5 cF5 kF5
  have bD := FD.binds (ps := ["cell", "many", "top"]) fun _ _ _ _ _ _ us hl => match us, hl with | [_, _, _], _ => rfl
  have mD : mg "_law_digits" = some (.ref f5) := PySem.W.mg_of X G aF5
  have FR := fun_mk (st := sRaw) lF6 cF6 kF6
  have bR := FR.binds (ps := ["cells", "road"]) fun _ _ _ _ _ _ us hl => match us, hl with | [_, _], _ => rfl
  have mR : mg "_law_raw" = some (.ref f6) := PySem.W.mg_of X G aF6
  have FO := fun_mk (st := sIno) lF7 cF7 kF7
  have bO := FO.binds (ps := ["root", "nodes"]) fun _ _ _ _ _ _ us hl => match us, hl with | [_, _], _ => rfl
  have mO : mg "_law_in_order" = some (.ref f7) := PySem.W.mg_of X G aF7
  have FT := fun_mk (st := sTab) lF8 cF8 kF8
  have bT := FT.binds (ps := ["root", "nodes"]) fun _ _ _ _ _ _ us hl => match us, hl with | [_, _], _ => rfl
  have mT : mg "_law_table" = some (.ref f8) := PySem.W.mg_of X G aF8
  have FW := fun_mk (st := sDra) lF9 cF9 kF9
  have bW := FW.binds (ps := ["cells", "first"]) fun _ _ _ _ _ _ us hl => match us, hl with | [_, _], _ => rfl
  have mW : mg "_law_drawn" = some (.ref f9) := PySem.W.mg_of X G aF9
  have FE := fun_mk (st := sLle) lF10 cF10 kF10
  have bE := FE.binds (ps := ["table", "many"]) fun _ _ _ _ _ _ us hl => match us, hl with | [_, _], _ => rfl
  have mE : mg "_law_least" = some (.ref f10) := PySem.W.mg_of X G aF10
  have FP := fun_mk (st := sPai) lF11 cF11 kF11
  have bP := FP.binds (ps := ["places", "many"]) fun _ _ _ _ _ _ us hl => match us, hl with | [_, _], _ => rfl
  have mP : mg "_law_pairs" = some (.ref f11) := PySem.W.mg_of X G aF11
  have FU := fun_mk (st := sTur) lF12 cF12 kF12
  have bU := FU.binds (ps := ["table", "one", "other"]) fun _ _ _ _ _ _ us hl => match us, hl with | [_, _, _], _ => rfl
  have mU : mg "_law_turned" = some (.ref f12) := PySem.W.mg_of X G aF12
  have FV := fun_mk (st := sTwi) lF13 cF13 kF13
  have bV := FV.binds (ps := ["table", "at"]) fun _ _ _ _ _ _ us hl => match us, hl with | [_, _], _ => rfl
  have mV : mg "_law_twice" = some (.ref f13) := PySem.W.mg_of X G aF13
  have FN := fun_mk (st := sNob) lF14 cF14 kF14
  have bN := FN.binds (ps := ["table", "way", "at", "number"]) fun _ _ _ _ _ _ us hl => match us, hl with | [_, _, _, _], _ => rfl
  have mN : mg "_law_node_bent" = some (.ref f14) := PySem.W.mg_of X G aF14
  have FY := fun_mk (st := sAny) lF15 cF15 kF15
  have bY := FY.binds (ps := ["cells"]) fun _ _ _ _ _ _ us hl => match us, hl with | [_], _ => rfl
  have mY : mg "_law_any" = some (.ref f15) := PySem.W.mg_of X G aF15
  have FB := fun_mk (st := sBen) lF16 cF16 kF16
  have bB := FB.binds (ps := ["table", "way", "number", "cells"]) fun _ _ _ _ _ _ us hl => match us, hl with | [_, _, _, _], _ => rfl
  have mB : mg "_law_bent" = some (.ref f16) := PySem.W.mg_of X G aF16
  have FL := fun_mk (st := sLaw) lF17 cF17 kF17
  refine ⟨PySem.W.fnOf "law" "law" (defArgs sLaw) (defBody sLaw) (defScope sLaw) .none kV17 dc17 pm17 an17 cd17 ct17, fun s v => .of_eq rfl, fun base _ _ => ?_⟩
  exact ok_law FL FF bF mF FG bG mG FZ bZ mZ FA bA mA FD bD mD FR bR mR FO bO mO FT bT mT FW bW mW FE bE mE FP bP mP FU bU mU FV bV mV FN bN mN FY bY mY FB bB mB (PySem.W.mg_none_of X G nisi) (PySem.W.mg_none_of X G nrange) (PySem.W.mg_none_of X G nlst) (PySem.W.mg_none_of X G nlen) (PySem.W.mg_none_of X G nbool) (PySem.W.mg_none_of X G nmax) (PySem.W.mg_none_of X G nmin) (PySem.W.mg_none_of X G nall) (PySem.W.mg_none_of X G nset)
theorem walk {l : PySem.W.OpenLaw} {q : Program} {loose : List Str} {XP : (Str → Option Value) → Heap → Prop} {YP : World → Heap → Prop} {d : DefRec} {K : Params → PySem.W.Frag} (hn : l.most = some 63) (hdf : d.params.defaults = [])
    (hY : ∀ (w : World) (h : Heap), YP w h → (K w.params).In h)
    (F : ∀ (w : World) (mg : Str → Option Value) (fa : Addr) (h : Heap), (K w.params).In h → h.Ns mainGlobals mg → mg d.name = some (.ref fa) →
      ∃ fd : FuncData, (∀ (s : Shared) (u : Value), BindsTo s fd ⟨[u], []⟩ [("script", u)]) ∧ ∀ base : Heap, (K w.params).In base → base.Ns mainGlobals mg → FnOk l.prog w (K w.params) mg base CX0 4 fa fd ["script"] (spLaw (K w.params))) :
    PySem.W.WalkO q loose XP YP l.row.toRowW d [] (fun f vs => PySem.call f vs) :=
  L2.walk_of (n := 63) (k := 4) (x := "script") (CX := fun _ => CX0) (sp := fun w => spLaw (K w.params)) hn (by decide) hdf ⟨rfl, by decide, by decide⟩ hY F (fun _ _ a ns hl _ hS => ⟨a, ns, rfl, hS, hl, fun _ => rfl⟩) fun _ _ _ _ _ z => z
end M
open PySem PySem.W PyProof.Rows
set_option maxRecDepth 100000 in
set_option maxHeartbeats 0 in
theorem PySem.Challenge.cw_onceways_k26_which_tables_are_least_holds : PySem.Challenge.rw_onceways_k26_which_tables_are_least.Holds := by
  w_on; o_law; k_head; (case hw => w_witness2)
  k_fill
  refine M.walk (l := PySem.Challenge.rw_onceways_k26_which_tables_are_least) rfl rfl (fun w h Y => PySem.W.kIn_of Y) ?F
  case F =>
    intro w mg fa h KX G hmg
    refine' M.all_mk KX G hmg ?aF1 ?lF1 ?cF1 ?kF1 ?aF2 ?lF2 ?cF2 ?kF2 ?aF3 ?lF3 ?cF3 ?kF3 ?aF4 ?lF4 ?cF4 ?kF4 ?aF5 ?lF5 ?cF5 ?kF5 ?aF6 ?lF6 ?cF6 ?kF6 ?aF7 ?lF7 ?cF7 ?kF7 ?aF8 ?lF8 ?cF8 ?kF8 ?aF9 ?lF9 ?cF9 ?kF9 ?aF10 ?lF10 ?cF10 ?kF10 ?aF11 ?lF11 ?cF11 ?kF11 ?aF12 ?lF12 ?cF12 ?kF12 ?aF13 ?lF13 ?cF13 ?kF13 ?aF14 ?lF14 ?cF14 ?kF14 ?aF15 ?lF15 ?cF15 ?kF15 ?aF16 ?lF16 ?cF16 ?kF16 ?aF17 ?lF17 ?cF17 ?kF17 ?nisi ?nrange ?nlst ?nlen ?nbool ?nmax ?nmin ?nall ?nset
    (case aF1 => k_is)
    (case lF1 => k_is)
    (case cF1 => k_is)
    (case kF1 => k_is)
    (case aF2 => k_is)
    (case lF2 => k_is)
    (case cF2 => k_is)
    (case kF2 => k_is)
    (case aF3 => k_is)
    (case lF3 => k_is)
    (case cF3 => k_is)
    (case kF3 => k_is)
    (case aF4 => k_is)
    (case lF4 => k_is)
    (case cF4 => k_is)
    (case kF4 => k_is)
    (case aF5 => k_is)
    (case lF5 => k_is)
    (case cF5 => k_is)
    (case kF5 => k_is)
    (case aF6 => k_is)
    (case lF6 => k_is)
    (case cF6 => k_is)
    (case kF6 => k_is)
    (case aF7 => k_is)
    (case lF7 => k_is)
    (case cF7 => k_is)
    (case kF7 => k_is)
    (case aF8 => k_is)
    (case lF8 => k_is)
    (case cF8 => k_is)
    (case kF8 => k_is)
    (case aF9 => k_is)
    (case lF9 => k_is)
    (case cF9 => k_is)
    (case kF9 => k_is)
    (case aF10 => k_is)
    (case lF10 => k_is)
    (case cF10 => k_is)
    (case kF10 => k_is)
    (case aF11 => k_is)
    (case lF11 => k_is)
    (case cF11 => k_is)
    (case kF11 => k_is)
    (case aF12 => k_is)
    (case lF12 => k_is)
    (case cF12 => k_is)
    (case kF12 => k_is)
    (case aF13 => k_is)
    (case lF13 => k_is)
    (case cF13 => k_is)
    (case kF13 => k_is)
    (case aF14 => k_is)
    (case lF14 => k_is)
    (case cF14 => k_is)
    (case kF14 => k_is)
    (case aF15 => k_is)
    (case lF15 => k_is)
    (case cF15 => k_is)
    (case kF15 => k_is)
    (case aF16 => k_is)
    (case lF16 => k_is)
    (case cF16 => k_is)
    (case kF16 => k_is)
    (case aF17 => k_is)
    (case lF17 => k_is)
    (case cF17 => k_is)
    (case kF17 => k_is)
    (case nisi => k_is)
    (case nrange => k_is)
    (case nlst => k_is)
    (case nlen => k_is)
    (case nbool => k_is)
    (case nmax => k_is)
    (case nmin => k_is)
    (case nall => k_is)
    (case nset => k_is)
#print axioms PySem.Challenge.cw_onceways_k26_which_tables_are_least_holds
