import PyProof.Rows.All
import Wide.All
import OpenK.AllK
import Wide.FinOn
import Lean
import PyProof.EqAt
import PyProof.EqKinds
import PyProof.TupleCall
import PySem.Challenge.RW_onceways_k75_what_is_a_wish
set_option Elab.async false
set_option linter.all false
set_option maxRecDepth 100000
set_option maxHeartbeats 4000000
/-! THE HAND LAYER, for ints, bools, texts, own classes, LISTS and tuples (index, slices, in, append, pop ..), calls, loops. Paste it whole ahead of your own text; what your proof does not reach may be deleted. -/
namespace L2
open PySem PySem.Spec PyProof.Rows

/-- a key: an int or a str -/
abbrev Key := Sum Int Str
def keyIs : Key → Value → Bool
  | .inl k, v => Value.isInt k v
  | .inr x, v => Value.isStrOf x v
def keyH (w : World) : Key → Int
  | .inl k => hashInt k
  | .inr x => hashStr w x
theorem keyIs_shape : ∀ {k : Key} {v : Value}, keyIs k v = true → (∃ i t, k = Sum.inl i ∧ v = Value.int i t) ∨ (∃ x t, k = Sum.inr x ∧ v = Value.str x t)
  | .inl i, v, h => by
    obtain ⟨t, e⟩ := Value.isInt_shape (k := i) (v := v) h
    exact .inl ⟨i, t, rfl, e⟩
  | .inr x, v, h => by
    obtain ⟨t, e⟩ := Value.isStrOf_shape (x := x) (v := v) h
    exact .inr ⟨x, t, rfl, e⟩
theorem key_ll (a b : Int) : decide ((Sum.inl a : Key) = Sum.inl b) = (a == b) := by
  by_cases e : a = b
  · subst e; simp
  · have h : ¬ (Sum.inl a : Key) = Sum.inl b := fun q => e (Sum.inl.inj q)
    rw [decide_eq_false h]
    exact (beq_eq_false_iff_ne.mpr e).symm
theorem key_rr (a b : Str) : decide ((Sum.inr a : Key) = Sum.inr b) = decide (a = b) := by
  by_cases e : a = b
  · subst e; simp
  · have h : ¬ (Sum.inr a : Key) = Sum.inr b := fun q => e (Sum.inr.inj q)
    rw [decide_eq_false h, decide_eq_false e]
theorem key_lr (a : Int) (b : Str) : decide ((Sum.inl a : Key) = Sum.inr b) = false := decide_eq_false (fun q => nomatch q)
theorem key_rl (a : Str) (b : Int) : decide ((Sum.inr a : Key) = Sum.inl b) = false := decide_eq_false (fun q => nomatch q)

def mixKind (prog : Program) (w : World) : PySem.KeyKind prog w Key where
  is := keyIs
  hash := keyH w
  inj := fun v a b ha hb => by
    rcases keyIs_shape ha with ⟨i, t, rfl, rfl⟩ | ⟨x, t, rfl, rfl⟩
    · rcases keyIs_shape hb with ⟨j, u, rfl, e⟩ | ⟨y, u, rfl, e⟩
      · injection e with e1 _; rw [e1]
      · exact nomatch e
    · rcases keyIs_shape hb with ⟨j, u, rfl, e⟩ | ⟨y, u, rfl, e⟩
      · exact nomatch e
      · injection e with e1 _; rw [e1]
  byValue := fun k v h => by
    rcases keyIs_shape h with ⟨i, t, rfl, rfl⟩ | ⟨x, t, rfl, rfl⟩ <;> rfl
  pyHash := fun hv h => by
    rcases keyIs_shape hv with ⟨i, t, rfl, rfl⟩ | ⟨x, t, rfl, rfl⟩
    · exact wpAny_pyHash_int h
    · exact wpAny_pyHash_str h
  eqBool := fun hu hv h => by
    rcases keyIs_shape hu with ⟨i, t, rfl, rfl⟩ | ⟨x, t, rfl, rfl⟩
    · rcases keyIs_shape hv with ⟨j, u, rfl, rfl⟩ | ⟨y, u, rfl, rfl⟩
      · rw [key_ll] at h; exact wpAny_eqBool_int h
      · rw [key_lr] at h; exact SeqAt.EqAt.int_str i t y u _ _ _ _ h
    · rcases keyIs_shape hv with ⟨j, u, rfl, rfl⟩ | ⟨y, u, rfl, rfl⟩
      · rw [key_rl] at h; exact SeqAt.EqAt.str_int x t j u _ _ _ _ h
      · rw [key_rr] at h; exact wpAny_eqBool_str h
  «strs» := fun k x t v h => by
    rcases keyIs_shape h with ⟨i, u, rfl, e⟩ | ⟨y, u, rfl, e⟩
    · exact nomatch e
    · injection e with e1 _
      subst e1
      cases v <;> rfl

end L2

namespace L2
open PySem PySem.Spec PyProof.Rows

/-- a value, without the heap -/
inductive V where
  | non | bl (b : Bool) | int (i : Int) | str (x : Str) | byt (b : Array UInt8) | flt (b : UInt64) | ref (a : Addr) | ty (n : String)
  deriving DecidableEq

def RelV : V → Value → Prop
  | .non, u => u = Value.none
  | .bl b, u => u = Value.bool b
  | .int i, u => ∃ t, u = Value.int i t
  | .str x, u => ∃ t, u = Value.str x t
  | .byt b, u => ∃ t, u = Value.bytes b t
  | .flt b, u => ∃ t, u = Value.float b t
  | .ref a, u => u = Value.ref a
  | .ty n, u => u = Value.type n

abbrev Vals : List V → List Value → Prop := Paired RelV
theorem Vals.length {xs : List V} {us : List Value} (r : Vals xs us) : xs.length = us.length := Paired.length r
theorem Vals.get : ∀ {xs : List V} {us : List Value} {i : Nat} {x : V}, Vals xs us → xs[i]? = some x → ∃ u, us[i]? = some u ∧ RelV x u
  | _, _, _, _, .nil, e => by simp at e
  | _, _, 0, _, .cons r _, e => by simp at e; subst e; exact ⟨_, rfl, r⟩
  | _, _, i + 1, x, .cons _ t, e => by
    obtain ⟨u, h1, h2⟩ := Vals.get (i := i) (x := x) t (by simpa using e)
    exact ⟨u, by simpa using h1, h2⟩
theorem Vals.append : ∀ {xs ys : List V} {us ws : List Value}, Vals xs us → Vals ys ws → Vals (xs ++ ys) (us ++ ws)
  | _, _, _, _, .nil, s => s
  | _, _, _, _, .cons r t, s => .cons r (Vals.append t s)
theorem Vals.take : ∀ {xs : List V} {us : List Value} (n : Nat), Vals xs us → Vals (xs.take n) (us.take n)
  | _, _, 0, _ => .nil
  | _, _, _ + 1, .nil => .nil
  | _, _, n + 1, .cons r t => .cons r (Vals.take n t)
theorem Vals.drop : ∀ {xs : List V} {us : List Value} (n : Nat), Vals xs us → Vals (xs.drop n) (us.drop n)
  | _, _, 0, r => r
  | _, _, _ + 1, .nil => .nil
  | _, _, n + 1, .cons _ t => Vals.drop n t
def RelO : Option V → Option Value → Prop
  | some v, some u => RelV v u
  | none, none => True
  | _, _ => False
def KV {κ : Type} : List (κ × V) → List (κ × Value) → Prop := Paired fun (p : κ × V) (q : κ × Value) => p.1 = q.1 ∧ RelV p.2 q.2

/-- a key of a dict (00_mix): an int or a text -/
def kV : Key → V
  | .inl i => .int i
  | .inr x => .str x

/-- what stands at a tracked address -/
inductive HO where
  /-- a list -/
  | lst (xs : List V)
  /-- a tuple (never changes) -/
  | tup (xs : List V)
  /-- a dict whose keys are ints and texts; one whose keys are tuples of ints and texts (the empty one is both) -/
  | dK (kvs : List (Key × V)) | dT (kvs : List (List Key × V))
  /-- a set of ints: its members, its size -/
  | set (S : Int → Bool) (n : Nat)
  /-- an instance of the class at C, its dict at dx, its attributes -/
  | ins (C dx : Addr) (fs : List (Str × V))
  /-- the dict of the instance at x -/
  | own (x : Addr)
  /-- the dict of an exception -/
  | xd (fs : List (Str × V))
  /-- a bound method, f of x -/
  | met (f x : Addr)
  /-- a range object lo, lo + 1, .. below hi -/
  | rng (lo hi : Int)
  /-- a thing that is known to the object (the script; a dict while a loop walks it): read, never written while it is so -/
  | frz (o : Obj) (u : HO)
  /-- a code object's table -/
  | tbl (ps : Array Value)
  /-- any other thing, by what is true of its one object (a def of one's own: SetO a S n := HO.ext fun h => ..) -/
  | ext (φ : Heap → Prop)

abbrev Hp := Addr → Option HO
def upd (H : Hp) (a : Addr) (o : HO) : Hp := fun b => if b = a then some o else H b
theorem upd_same {H : Hp} {a : Addr} {o : HO} : upd H a o a = some o := by unfold upd; rw [if_pos rfl]
theorem upd_ne {H : Hp} {a b : Addr} {o : HO} (h : b ≠ a) : upd H a o b = H b := by unfold upd; rw [if_neg h]
/-- two objects of different content stand apart -/
theorem ne_of {H : Hp} {a b : Addr} {o u : HO} (h : H a = some o) (h' : H b = some u) (d : o ≠ u) : a ≠ b := by
  intro e; subst e; rw [h] at h'; exact d (Option.some.inj h')
theorem ne_of_none {H : Hp} {a b : Addr} {o : HO} (h : H a = some o) (h' : H b = none) : a ≠ b := by
  intro e; subst e; rw [h] at h'; cases h'

section
variable (P : Program) (w : World)
def ObjOk (H : Hp) (h : Heap) (a : Addr) : HO → Prop
  | .lst xs => xs.length ≤ sizeLine ∧ ∃ (its : List Value) (n : Nat), Vals xs its ∧ h.get? a = some { cls := .type "list", data := .seq its.toArray n }
  | .tup xs => xs.length ≤ sizeLine ∧ ∃ its : List Value, Vals xs its ∧ IsTup h a its.toArray
  | .dK kvs => kvs.length ≤ sizeLine ∧ (a == sysModules) = false ∧ ∃ vs, KV kvs vs ∧ h.DictOf (mixKind P w) a vs
  | .dT kvs => kvs.length ≤ sizeLine ∧ (a == sysModules) = false ∧ ∃ xs : List (List Key × Addr × Value),
      Paired (fun (p : List Key × V) (q : List Key × Addr × Value) => p.1 = q.1 ∧ H q.2.1 = some (.tup (p.1.map kV)) ∧ RelV p.2 q.2.2) kvs xs ∧
      ∃ o es ep, h.get? a = some o ∧ o.ExactDict ∧ o.data = .dict es ep ∧ es.toList = xs.map (entryOfKey (tupleKind (mixKind P w))) ∧ (xs.map (·.1)).Nodup
  | .set S n => h.SetOf (intKind P w) a S n
  | .ins C dx fs => H dx = some (.own a) ∧ fs.length ≤ 1000 ∧ dx ≠ a ∧ h.get? a = some (PySem.W.instObj C dx) ∧
      ∃ mA, h.Ns1 dx mA ∧ (∀ f, RelO (fs.lookup f) (mA f)) ∧ PySem.Within mA (fs.map (·.1))
  | .own _ => ∃ o, h.get? a = some o
  | .xd fs => ∃ mA, h.Ns1 a mA ∧ ∀ f, RelO (fs.lookup f) (mA f)
  | .rng lo hi => ∃ t u v, h.get? a = some { cls := .type "range", data := .fields #[.int lo t, .int hi u, .int 1 v] }
  | .frz o u => h.get? a = some o ∧ ObjOk H h a u
  | .tbl ps => h.get? a = some { cls := .none, data := .fields ps }
  | .met f x => h.get? a = some (PySem.W.methodObj (.ref f) (.ref x))
  | .ext φ => φ h ∧ (∃ o, h.get? a = some o) ∧ ∀ h1 h2 : Heap, φ h1 → (∀ o, h1.get? a = some o → h2.get? a = some o) → φ h2
/-- the abstract heap is held -/
def HOk (H : Hp) (h : Heap) : Prop := ∀ a o, H a = some o → ObjOk P w H h a o
end

section
variable {P : Program} {w : World} {H H' : Hp} {h h' : Heap} {a : Addr} {o : HO}
theorem ObjOk.lt (x : ObjOk P w H h a o) : a < h.objs.size := by
  cases o with
  | lst xs => obtain ⟨_, _, _, _, e⟩ := x; exact Heap.lt_size e
  | tup xs => obtain ⟨_, _, _, p⟩ := x; exact p.lt
  | dK kvs => obtain ⟨_, _, _, _, o, _, _, e, _⟩ := x; exact Heap.lt_size e
  | dT kvs => obtain ⟨_, _, _, _, o, _, _, e, _⟩ := x; exact Heap.lt_size e
  | set S n => obtain ⟨o, _, _, _, e, _⟩ := x; exact Heap.lt_size e
  | ins C dx fs => obtain ⟨_, _, _, e, _⟩ := x; exact Heap.lt_size e
  | own y => obtain ⟨_, e⟩ := x; exact Heap.lt_size e
  | xd fs => obtain ⟨_, ⟨_, _, _, e, _⟩, _⟩ := x; exact Heap.lt_size e
  | rng lo hi => obtain ⟨_, _, _, e⟩ := x; exact Heap.lt_size e
  | frz ob u => obtain ⟨e, _⟩ := x; exact Heap.lt_size e
  | tbl ps => exact Heap.lt_size (show h.get? a = some _ from x)
  | met f y => exact Heap.lt_size (show h.get? a = some _ from x)
  | ext φ => obtain ⟨_, ⟨_, e⟩, _⟩ := x; exact Heap.lt_size e
theorem Paired.mapP {α β : Type} {F G : α → β → Prop} : ∀ {l₁ : List α} {l₂ : List β}, Paired F l₁ l₂ → (∀ a b, F a b → G a b) → Paired G l₁ l₂
  | _, _, .nil, _ => .nil
  | _, _, .cons r t, f => .cons (f _ _ r) (Paired.mapP t f)
/-- what an object's description leans on: its own object, its own dict, the tuples -/
theorem ObjOk.stay (x : ObjOk P w H h a o) (k : ∀ b u, (b = a ∨ H b = some (.own a)) → h.get? b = some u → h'.get? b = some u)
    (ho : ∀ b, H b = some (.own a) → H' b = some (.own a)) (ht : ∀ b xs, H b = some (.tup xs) → H' b = some (.tup xs)) : ObjOk P w H' h' a o := by
  induction o with
  | lst xs => obtain ⟨z, its, n, r, e⟩ := x; exact ⟨z, its, n, r, k _ _ (.inl rfl) e⟩
  | tup xs => obtain ⟨z, its, r, ob, e, c⟩ := x; exact ⟨z, its, r, ob, k _ _ (.inl rfl) e, c⟩
  | dK kvs => obtain ⟨z, y, vs, r, ob, es, ep, e, c⟩ := x; exact ⟨z, y, vs, r, ob, es, ep, k _ _ (.inl rfl) e, c⟩
  | dT kvs =>
    obtain ⟨z, y, xs, r, ob, es, ep, e, c⟩ := x
    exact ⟨z, y, xs, Paired.mapP r fun p q z => ⟨z.1, ht _ _ z.2.1, z.2.2⟩, ob, es, ep, k _ _ (.inl rfl) e, c⟩
  | set S n => obtain ⟨ob, es, ep, t, e, c⟩ := x; exact ⟨ob, es, ep, t, k _ _ (.inl rfl) e, c⟩
  | ins C dx fs =>
    obtain ⟨d, z, ne, e, mA, ⟨od, es, ep, e2, c⟩, r⟩ := x
    exact ⟨ho _ d, z, ne, k _ _ (.inl rfl) e, mA, ⟨od, es, ep, k _ _ (.inr d) e2, c⟩, r⟩
  | own y => obtain ⟨ob, e⟩ := x; exact ⟨ob, k _ _ (.inl rfl) e⟩
  | xd fs => obtain ⟨mA, ⟨od, es, ep, e, c⟩, r⟩ := x; exact ⟨mA, ⟨od, es, ep, k _ _ (.inl rfl) e, c⟩, r⟩
  | rng lo hi => obtain ⟨t, u, v, e⟩ := x; exact ⟨t, u, v, k _ _ (.inl rfl) e⟩
  | frz ob u ih => obtain ⟨e, q⟩ := x; exact ⟨k _ _ (.inl rfl) e, ih q⟩
  | tbl ps =>
    have e : h.get? a = some { cls := .none, data := .fields ps } := x
    show h'.get? a = some { cls := .none, data := .fields ps }
    exact k a _ (.inl rfl) e
  | met f y =>
    have e : h.get? a = some (PySem.W.methodObj (.ref f) (.ref y)) := x
    show h'.get? a = some (PySem.W.methodObj (.ref f) (.ref y))
    exact k a _ (.inl rfl) e
  | ext φ => obtain ⟨p, ⟨o, e⟩, st⟩ := x; exact ⟨st _ _ p fun o q => k _ _ (.inl rfl) q, ⟨o, k _ _ (.inl rfl) e⟩, st⟩
theorem HOk.lt (x : HOk P w H h) (e : H a = some o) : a < h.objs.size := (x a o e).lt
theorem HOk.fresh (x : HOk P w H h) (e : h.objs.size ≤ a) : H a = none := by
  cases q : H a with
  | none => rfl
  | some u => exact absurd (Nat.lt_of_lt_of_le (x.lt q) e) (Nat.lt_irrefl _)
/-- every object of the heap is kept -/
theorem HOk.kept (x : HOk P w H h) (k : ∀ b u, h.get? b = some u → h'.get? b = some u) : HOk P w H h' := fun a o e =>
  (x a o e).stay (fun b u _ q => k b u q) (fun _ q => q) fun _ _ q => q
/-- a new object is laid and tracked -/
theorem HOk.laid (x : HOk P w H h) (k : ∀ b u, h.get? b = some u → h'.get? b = some u) (hp : h.objs.size ≤ a) (new : ObjOk P w (upd H a o) h' a o) : HOk P w (upd H a o) h' := fun b u e => by
  have hn := x.fresh hp
  by_cases hb : b = a
  · subst hb; rw [upd_same] at e; cases e; exact new
  · rw [upd_ne hb] at e
    exact (x b u e).stay (fun c v _ q => k c v q) (fun c q => by rw [upd_ne (ne_of_none q hn)]; exact q) fun c xs q => by rw [upd_ne (ne_of_none q hn)]; exact q
end

/-- what may be read as u: it is u, or a known u -/
def Rd (H : Hp) (a : Addr) (u : HO) : Prop := H a = some u ∨ ∃ o, H a = some (.frz o u)
theorem Rd.ok {P : Program} {w : World} {H : Hp} {h : Heap} {a : Addr} {u : HO} (r : Rd H a u) (x : HOk P w H h) : ObjOk P w H h a u := by
  rcases r with r | ⟨o, r⟩
  · exact x a u r
  · obtain ⟨_, q⟩ := x a _ r
    exact q
/-- what may be written -/
def Mut : Option HO → Prop
  | some (.lst _) => True
  | some (.dK _) => True
  | some (.dT _) => True
  | some (.set _ _) => True
  | some (.ins _ _ _) => True
  | some (.ext _) => True
  | _ => False
section
variable {P : Program} {w : World} {H : Hp} {h h' : Heap} {x e : Addr} {o' : HO}
/-- the object at e is changed: x itself, or the dict of the instance x -/
theorem HOk.write (ok : HOk P w H h) (mu : Mut (H x)) (he : e = x ∨ H e = some (.own x)) (k : ∀ b u, b ≠ e → h.get? b = some u → h'.get? b = some u) (heo : ∃ u, h'.get? e = some u)
    (new : ObjOk P w (upd H x o') h' x o') : HOk P w (upd H x o') h' := fun b u q => by
  have nown : ∀ c y, H c = some (.own y) → c ≠ x := fun c y r z => by subst z; rw [r] at mu; exact mu
  have ntup : ∀ c xs, H c = some (.tup xs) → c ≠ x := fun c xs r z => by subst z; rw [r] at mu; exact mu
  by_cases hb : b = x
  · subst hb; rw [upd_same] at q; cases q; exact new
  · rw [upd_ne hb] at q
    by_cases hbe : b = e
    · have q' : H b = some (.own x) := by
        rcases he with z | z
        · exact absurd (hbe.trans z) hb
        · rw [hbe]; exact z
      rw [q] at q'; cases q'
      obtain ⟨v, hv⟩ := heo
      exact ⟨v, by rw [hbe]; exact hv⟩
    · refine (ok b u q).stay (fun c v hc r => k c v ?_ r) (fun c r => by rw [upd_ne (nown c b r)]; exact r) fun c xs r => by rw [upd_ne (ntup c xs r)]; exact r
      rcases hc with rfl | hc
      · exact hbe
      · rintro rfl
        rcases he with z | z
        · exact nown c b hc z
        · rw [hc] at z; cases z; exact hb rfl
end

/-! ### kept unless tracked; of the frames at fs (the callers') the slots may change (an exception that passes writes there); of the records at ex (iterators) nothing is said -/
structure Un (fs ex : List Addr) (H H' : Hp) (h h' : Heap) : Prop where
  keep : ∀ b o, h.get? b = some o → H b = none → b ∉ fs → b ∉ ex → h'.get? b = some o
  slot : ∀ b o, h.get? b = some o → H b = none → b ∈ fs → b ∉ ex → ∃ sl, h'.get? b = some { o with slots := sl }
  free : ∀ b o, h.get? b = some o → H b = none → b ∉ ex → H' b = none
  there : ∀ b o, h.get? b = some o → b ∉ ex → ∃ o', h'.get? b = some o'
  tups : ∀ b xs, H b = some (.tup xs) → H' b = some (.tup xs)
  frzs : ∀ b o u, H b = some (.frz o u) → H' b = some (.frz o u)
  tbls : ∀ b ps, H b = some (.tbl ps) → ∃ more, H' b = some (.tbl (ps ++ more))
section
variable {fs fs' ex ex' : List Addr} {H H1 H2 : Hp} {h h1 h2 h' : Heap} {a x e : Addr} {o : HO}
theorem Un.any (u : Un fs ex H H1 h h1) {b : Addr} {ob : Obj} (q : h.get? b = some ob) (n : H b = none) (hx : b ∉ ex) : ∃ sl, h1.get? b = some { ob with slots := sl } := by
  by_cases hb : b ∈ fs
  · exact u.slot b ob q n hb hx
  · exact ⟨ob.slots, u.keep b ob q n hb hx⟩
theorem Un.kept (k : ∀ b u, h.get? b = some u → h'.get? b = some u) : Un fs ex H H h h' :=
  ⟨fun b ob q _ _ _ => k b ob q, fun b ob q _ _ _ => ⟨ob.slots, k b ob q⟩, fun _ _ _ n _ => n, fun b ob q _ => ⟨ob, k b ob q⟩, fun _ _ q => q, fun _ _ _ q => q, fun _ ps q => ⟨#[], by rw [q]; simp⟩⟩
theorem Un.refl : Un fs ex H H h h := Un.kept fun _ _ q => q
theorem Un.laid (k : ∀ b u, h.get? b = some u → h'.get? b = some u) (hp : h.objs.size ≤ a) (hn : H a = none) : Un fs ex H (upd H a o) h h' where
  keep := fun b u q _ _ _ => k b u q
  slot := fun b u q _ _ _ => ⟨u.slots, k b u q⟩
  free := fun b u q n _ => by rw [upd_ne (Nat.ne_of_lt (Nat.lt_of_lt_of_le (Heap.lt_size q) hp))]; exact n
  there := fun b u q _ => ⟨u, k b u q⟩
  tups := fun b xs q => by rw [upd_ne (ne_of_none q hn)]; exact q
  frzs := fun b u xs q => by rw [upd_ne (ne_of_none q hn)]; exact q
  tbls := fun b ps q => ⟨#[], by rw [upd_ne (ne_of_none q hn), q]; simp⟩
theorem Un.write (mu : Mut (H x)) (he : e = x ∨ H e = some (.own x)) (k : ∀ b u, b ≠ e → h.get? b = some u → h'.get? b = some u) (heo : ∃ u, h'.get? e = some u) : Un fs ex H (upd H x o) h h' := by
  have hx : ∀ b, H b = none → b ≠ x := fun b n z => by subst z; rw [n] at mu; exact mu
  have hb : ∀ b, H b = none → b ≠ e := fun b n z => by
    subst z
    rcases he with r | r
    · exact hx b n r
    · rw [n] at r; cases r
  have hm : ∀ b u, H b = some u → ¬ Mut (some u) → b ≠ x := fun b u q nm z => by subst z; rw [q] at mu; exact nm mu
  refine ⟨fun b u q n _ _ => k b u (hb b n) q, fun b u q n _ _ => ⟨u.slots, k b u (hb b n) q⟩, fun b u q n _ => by rw [upd_ne (hx b n)]; exact n, fun b u q _ => ?_,
    fun b xs q => by rw [upd_ne (hm b _ q fun z => z)]; exact q, fun b u xs q => by rw [upd_ne (hm b _ q fun z => z)]; exact q, fun b ps q => ⟨#[], by rw [upd_ne (hm b _ q fun z => z), q]; simp⟩⟩
  by_cases hbe : b = e
  · subst hbe; exact heo
  · exact ⟨u, k b u hbe q⟩
end

/-! ### the heap without what is tracked -/
def trk (h : Heap) (H : Hp) : List Addr := (List.range h.objs.size).filter fun a => (H a).isSome
def hidT (h : Heap) (H : Hp) : Heap := PySem.W.hideAll h (trk h H)
theorem hidT_size (h : Heap) (H : Hp) : (hidT h H).objs.size = h.objs.size := PySem.W.hideAll_size _ _
theorem hidT_get {h : Heap} {H : Hp} {b : Addr} {o : Obj} (e : h.get? b = some o) (n : H b = none) : (hidT h H).get? b = some o :=
  PySem.W.hideAll_get _ e fun hm => by
    have q : (H b).isSome = true := (List.mem_filter.mp hm).2
    rw [n] at q; simp at q
theorem of_hidT {h : Heap} {H : Hp} {b : Addr} {o : Obj} (e : (hidT h H).get? b = some o) : h.get? b = some o ∧ H b = none := by
  have e' : h.get? b = some o := PySem.W.of_hideAll (trk h H) e
  refine ⟨e', ?_⟩
  cases q : H b with
  | none => rfl
  | some x =>
    have hm : b ∈ trk h H := List.mem_filter.mpr ⟨List.mem_range.mpr (Heap.lt_size e'), by simp [q]⟩
    have z : (hidT h H).get? b = none := PySem.W.hideAll_none (trk h H) hm
    rw [z] at e; cases e

/-! ### OpenK's ledger, filled with every new object but one -/
def allNews (g h : Heap) (L : Addr) : List (Addr × Obj) := (List.range h.objs.size).filterMap fun a => if a = L ∨ (g.get? a).isSome = true then none else (h.get? a).map fun o => (a, o)
def rest (g h : Heap) (L d : Addr) : List (Addr × Obj) := (allNews g h L).filter fun p => decide (p.1 ≠ d)
end L2

namespace L2
open PySem PySem.Spec PyProof.Rows

/-- the module's facts, over the base: the heap at the law's entry without what is tracked there -/
structure Mod (K : PySem.W.Frag) (mg : Str → Option Value) (base : Heap) : Prop where
  kin : K.In base
  glob : base.Ns mainGlobals mg
  blt : ∃ mb, base.Ns builtinsNs mb ∧ ∀ x : Str, x ≠ "__name__" → mb x = bootBuiltins x
  nolimit : base.NoLimit

/-- the context: a def's body (or a comprehension's block) running. base: fixed through the whole law; s₀, H₀: the entry; outer: the frames whose slots others may change (a def's callers); stack: all frames that run;
   ex: iterators that were made ahead of the entry and are walked here (a comprehension's); fn: the names whose cells were made at the entry (a def: all; a comprehension's block: its own); calm: not within an except suite; pn: pins that every state bears; xe: what is wanted of an exception that leaves the code -/
structure Cx where
  prog : Program
  w : World
  K : PySem.W.Frag
  mg : Str → Option Value
  base : Heap
  A : Around
  N : List Str
  s₀ : Shared
  H₀ : Hp
  env : Env
  outer : List Env
  stack : List Env
  ex : List Addr
  fn : Str → Bool
  calm : Bool
  pn : List (Addr × Obj)
  xe : Value → Shared → Prop
/-- the callers' frames -/
def frs (l : List Env) : List Addr := l.filterMap (·.frame)
abbrev Cx.fs (X : Cx) : List Addr := frs X.outer

def Vis (sc : Scope) (x : Str) : Prop := sc.names.lookup x = some .local ∨ sc.names.lookup x = some .cell ∨ sc.names.lookup x = some .free
def Loc (sc : Scope) (x : Str) : Prop := sc.names.lookup x = some .local ∨ sc.names.lookup x = some .cell
def Look (env : Env) (h : Heap) (m : Str → Option Value) (x : Str) (u : Value) : Prop :=
  (env.kindOf x = some .local ∧ m x = some u) ∨ ((env.kindOf x = some .cell ∨ env.kindOf x = some .free) ∧ ∃ c, env.cells.lookup x = some c ∧ h.IsCell c (some u))

structure Cx.Ok (X : Cx) : Prop where
  mod : Mod X.K X.mg X.base
  kind : X.env.scope.kind = .function
  glob : X.env.globals = mainGlobals
  blt : X.env.builtins = builtinsNs
  above : X.s₀.heap.objs.size ≤ X.env.locals
  inj : ∀ x y c, X.env.cells.lookup x = some c → X.env.cells.lookup y = some c → x = y
  has : ∀ x, (X.env.kindOf x = some .cell ∨ X.env.kindOf x = some .free) → ∃ c, X.env.cells.lookup x = some c
  cab : ∀ x c, X.fn x = true → X.env.cells.lookup x = some c → X.s₀.heap.objs.size ≤ c
  hd : X.calm = true → X.A.handled = none
  frames : X.A.frames = some X.stack
  stk : X.stack = X.outer ∨ (X.stack = X.env :: X.outer ∧ X.env.frame = some X.env.locals)
  exf : ∀ b ∈ X.ex, b ≠ X.env.locals ∧ ∀ x c, X.env.cells.lookup x = some c → c ≠ b
  bs : ∀ b o, X.base.get? b = some o → X.s₀.heap.get? b = some o ∧ X.H₀ b = none
  bsz : X.base.objs.size ≤ X.s₀.heap.objs.size
  noex : ∀ b o, X.base.get? b = some o → b ∉ X.ex
  exfs : ∀ b ∈ X.ex, b ∉ X.fs
  funs : X.s₀.heap.FunFrames X.base X.outer
  frf : ∀ b ∈ X.fs, X.H₀ b = none

structure Inv (X : Cx) (pins : List (Addr × Obj)) (σ : List (Option V)) (H : Hp) (s : Shared) : Prop where
  ok : X.Ok
  os : s.os = X.s₀.os
  bare : AllBare s.gens
  base : Un X.fs X.ex X.H₀ H X.s₀.heap s.heap
  loc : ∃ m, s.heap.Ns X.env.locals m ∧ ∀ (i : Nat) (x : Str) (v : V), X.N[i]? = some x → σ[i]? = some (some v) → Vis X.env.scope x → ∃ u, RelV v u ∧ Look X.env s.heap m x u
  cell : ∀ x c, X.env.cells.lookup x = some c → ∃ v, s.heap.IsCell c v
  free : H X.env.locals = none
  freeC : ∀ x c, X.env.cells.lookup x = some c → H c = none
  pin : ∀ p ∈ X.pn ++ pins, s.heap.get? p.1 = some p.2 ∧ H p.1 = none ∧ p.1 ≠ X.env.locals ∧ p.1 ∉ X.fs ∧ ∀ v, p.2.data ≠ .cell v
  hok : HOk X.prog X.w H s.heap
  len : σ.length = X.N.length

section
variable {X : Cx} {pins : List (Addr × Obj)} {σ : List (Option V)} {H H' : Hp} {s : Shared} {h' : Heap}

theorem Cx.Ok.nofr (ok : X.Ok) {b : Addr} {o : Obj} (e : X.base.get? b = some o) : b ∉ X.fs := fun hb => by
  have := (ok.funs.mem hb).1
  rw [e] at this; cases this
theorem Inv.bs (I : Inv X pins σ H s) : ∀ b o, X.base.get? b = some o → s.heap.get? b = some o ∧ H b = none := fun b o e =>
  ⟨I.base.keep b o (I.ok.bs b o e).1 (I.ok.bs b o e).2 (I.ok.nofr e) (I.ok.noex b o e), I.base.free b o (I.ok.bs b o e).1 (I.ok.bs b o e).2 (I.ok.noex b o e)⟩
theorem Inv.bk (I : Inv X pins σ H s) : ∀ b o, X.base.get? b = some o → s.heap.get? b = some o := fun b o e => (I.bs b o e).1
theorem Inv.mod (I : Inv X pins σ H s) : Mod X.K X.mg X.base := I.ok.mod
theorem Inv.kIn (I : Inv X pins σ H s) : X.K.In s.heap := I.ok.mod.kin.keeps I.bk
theorem Inv.lt (I : Inv X pins σ H s) : X.env.locals < s.heap.objs.size := let ⟨_, hn, _⟩ := I.loc; hn.lt
theorem Inv.sz (I : Inv X pins σ H s) : X.s₀.heap.objs.size ≤ s.heap.objs.size := Nat.le_trans I.ok.above (Nat.le_of_lt I.lt)
theorem Inv.nofs (I : Inv X pins σ H s) {a : Addr} (h : s.heap.objs.size ≤ a) : a ∉ X.fs := fun hb => by
  obtain ⟨_, o, ho, _⟩ := I.ok.funs.mem hb
  exact absurd (Nat.lt_of_lt_of_le (Heap.lt_size ho) (Nat.le_trans I.sz h)) (Nat.lt_irrefl _)
theorem Inv.cne (I : Inv X pins σ H s) : ∀ x c, X.env.cells.lookup x = some c → c ≠ X.env.locals := fun x c e z => by
  obtain ⟨v, o, ho, hd⟩ := I.cell x c e
  obtain ⟨m, ⟨o', es, ep, ho', hd', _⟩, _⟩ := I.loc
  rw [z, ho'] at ho; cases ho; rw [hd'] at hd; cases hd
theorem Inv.funs (I : Inv X pins σ H s) : s.heap.FunFrames X.base X.outer := by
  have all : ∀ (l : List Env), (∀ b ∈ frs l, b ∈ X.fs) → X.s₀.heap.FunFrames X.base l → s.heap.FunFrames X.base l := by
    intro l
    induction l with
    | nil => intro _ _; trivial
    | cons env r ih =>
      intro hs hl
      obtain ⟨hk, ⟨L, o, hf, hn, ho, hd⟩, hr⟩ := hl
      have hL : L ∈ X.fs := hs L (by unfold frs; rw [List.filterMap_cons, hf]; exact List.mem_cons_self)
      obtain ⟨sl, e⟩ := I.base.slot L o ho (I.ok.frf L hL) hL fun z => I.ok.exfs L z hL
      exact ⟨hk, ⟨L, _, hf, hn, e, hd⟩, ih (fun b hb => hs b (by unfold frs; rw [List.filterMap_cons, hf]; exact List.mem_cons_of_mem _ hb)) hr⟩
  exact all X.outer (fun _ hb => hb) I.ok.funs

/-- the frames that run, for a call -/
theorem Inv.stack (I : Inv X pins σ H s) : s.heap.FunFrames X.base X.stack := by
  rcases I.ok.stk with e | ⟨e, hf⟩
  · rw [e]; exact I.funs
  · rw [e]
    obtain ⟨m, hn, _⟩ := I.loc
    refine .cons (by rw [I.ok.kind]; decide) hf hn ?_ I.funs
    exact Heap.get?_none_of_le (Nat.le_trans I.ok.bsz I.ok.above)
theorem Inv.stkSub (I : Inv X pins σ H s) : ∀ b ∈ frs X.stack, b ∈ X.env.locals :: X.fs := fun b hb => by
  rcases I.ok.stk with e | ⟨e, hf⟩
  · rw [e] at hb; exact List.mem_cons_of_mem _ hb
  · rw [e] at hb
    unfold frs at hb
    rw [List.filterMap_cons, hf] at hb
    exact hb
theorem Inv.stkFree (I : Inv X pins σ H s) : ∀ b ∈ frs X.stack, H b = none := fun b hb => by
  rcases List.mem_cons.mp (I.stkSub b hb) with e | hb
  · rw [e]; exact I.free
  · obtain ⟨_, o, ho, _⟩ := I.ok.funs.mem hb
    exact I.base.free b o ho (I.ok.frf b hb) fun z => I.ok.exfs b z hb

/-- THE STEP: the untracked objects but the frame and the records at ch are kept (the callers' frames up to slots), the frame's map is kept, the new abstract heap is held -/
theorem Inv.step {g' : Array GenState} {t' : Nat} {d' : Drawn} {ch : List Addr} (I : Inv X pins σ H s)
    (hch : ∀ b ∈ ch, (b ∈ X.ex ∨ X.s₀.heap.objs.size ≤ b) ∧ b ≠ X.env.locals ∧ (∀ x c, X.env.cells.lookup x = some c → c ≠ b) ∧ ∀ p ∈ X.pn ++ pins, p.1 ≠ b)
    (keep : ∀ b o, b ≠ X.env.locals → b ∉ X.fs → b ∉ ch → s.heap.get? b = some o → H b = none → h'.get? b = some o)
    (slot : ∀ b o, b ≠ X.env.locals → b ∈ X.fs → b ∉ ch → s.heap.get? b = some o → H b = none → ∃ sl, h'.get? b = some { o with slots := sl }) (free : ∀ b o, b ∉ ch → s.heap.get? b = some o → H b = none → H' b = none)
    (there : ∀ b o, b ∉ ch → s.heap.get? b = some o → ∃ o', h'.get? b = some o')
    (tups : ∀ b xs, H b = some (.tup xs) → H' b = some (.tup xs)) (frzs : ∀ b o u, H b = some (.frz o u) → H' b = some (.frz o u)) (tbls : ∀ b ps, H b = some (.tbl ps) → ∃ more, H' b = some (.tbl (ps ++ more)))
    (ns : ∀ m, s.heap.Ns X.env.locals m → h'.Ns X.env.locals m) (hok : HOk X.prog X.w H' h') (hg : AllBare g') :
    Inv X pins σ H' { s with heap := h', gens := g', drawn := d', toks := t' } := by
  have neL : ∀ b o, X.s₀.heap.get? b = some o → b ≠ X.env.locals := fun b o e => Nat.ne_of_lt (Nat.lt_of_lt_of_le (Heap.lt_size e) I.ok.above)
  have neC : ∀ b o, X.s₀.heap.get? b = some o → b ∉ X.ex → b ∉ ch := fun b o e hx hb => by
    rcases (hch b hb).1 with z | z
    · exact hx z
    · exact absurd (Nat.lt_of_lt_of_le (Heap.lt_size e) z) (Nat.lt_irrefl _)
  have cellK : ∀ x c, X.env.cells.lookup x = some c → ∀ v, s.heap.IsCell c v → h'.IsCell c v := fun x c e v ⟨o, ho, hd⟩ => by
    have nch : c ∉ ch := fun z => (hch c z).2.2.1 x c e rfl
    by_cases hc : c ∈ X.fs
    · obtain ⟨sl, q⟩ := slot c o (I.cne x c e) hc nch ho (I.freeC x c e)
      exact ⟨_, q, hd⟩
    · exact ⟨o, keep c o (I.cne x c e) hc nch ho (I.freeC x c e), hd⟩
  refine ⟨I.ok, I.os, hg, ⟨fun b o e n hb hx => ?_, fun b o e n hb hx => ?_, fun b o e n hx => ?_, fun b o e hx => ?_, fun b xs e => tups b xs (I.base.tups b xs e), fun b o xs e => frzs b o xs (I.base.frzs b o xs e), fun b ps e => ?_⟩, ?_, fun x c e => ?_, ?_, fun x c e => ?_, fun p hp => ?_, hok, I.len⟩
  · exact keep b o (neL b o e) hb (neC b o e hx) (I.base.keep b o e n hb hx) (I.base.free b o e n hx)
  · obtain ⟨sl, e1⟩ := I.base.slot b o e n hb hx
    obtain ⟨sl', e2⟩ := slot b _ (neL b o e) hb (neC b o e hx) e1 (I.base.free b o e n hx)
    exact ⟨sl', e2⟩
  · obtain ⟨o', e1⟩ := I.base.there b o e hx
    exact free b o' (neC b o e hx) e1 (I.base.free b o e n hx)
  · obtain ⟨o', e1⟩ := I.base.there b o e hx
    exact there b o' (neC b o e hx) e1
  · obtain ⟨m1, e1⟩ := I.base.tbls b ps e
    obtain ⟨m2, e2⟩ := tbls b _ e1
    exact ⟨m1 ++ m2, by rw [e2, Array.append_assoc]⟩
  · obtain ⟨m, hn, hl⟩ := I.loc
    refine ⟨m, ns m hn, fun i x v e1 e2 e3 => ?_⟩
    obtain ⟨u, r, l⟩ := hl i x v e1 e2 e3
    refine ⟨u, r, ?_⟩
    rcases l with l | ⟨k, c, e, z⟩
    · exact .inl l
    · exact .inr ⟨k, c, e, cellK x c e _ z⟩
  · obtain ⟨v, z⟩ := I.cell x c e
    exact ⟨v, cellK x c e v z⟩
  · obtain ⟨m, ⟨o, _, _, ho, _⟩, _⟩ := I.loc
    exact free _ o (fun z => (hch _ z).2.1 rfl) ho I.free
  · obtain ⟨v, o, ho, hd⟩ := I.cell x c e
    exact free c o (fun z => (hch c z).2.2.1 x c e rfl) ho (I.freeC x c e)
  · obtain ⟨e, n, ne, nf, d⟩ := I.pin p hp
    have nch : p.1 ∉ ch := fun z => (hch p.1 z).2.2.2 p hp rfl
    exact ⟨keep p.1 p.2 ne nf nch e n, free p.1 p.2 nch e n, ne, nf, d⟩
/-- .. where the frame's own object is kept too -/
theorem Inv.un {t' : Nat} (I : Inv X pins σ H s) (u : Un X.fs [] H H' s.heap h') (hok : HOk X.prog X.w H' h') : Inv X pins σ H' { s with heap := h', toks := t' } := by
  obtain ⟨m, ⟨o, es, ep, ho, r⟩, _⟩ := id I.loc
  obtain ⟨sl, hL⟩ := u.any ho I.free (by simp)
  exact I.step (g' := s.gens) (d' := s.drawn) (ch := []) (fun _ z => nomatch z) (fun b o _ hb _ e n => u.keep b o e n hb (by simp)) (fun b o _ hb _ e n => u.slot b o e n hb (by simp)) (fun b o _ e n => u.free b o e n (by simp)) (fun b o _ e => u.there b o e (by simp)) u.tups u.frzs u.tbls (fun m' hm => by
    obtain ⟨o', es', ep', ho', r'⟩ := hm
    rw [ho] at ho'; cases ho'
    exact ⟨_, es', ep', hL, r'⟩) hok I.bare
/-- behind a call (or a comprehension's block): the slots of this frame may have changed too, the records at ch may have turned -/
theorem Inv.call {g' : Array GenState} {t' : Nat} {d' : Drawn} {ch : List Addr} (I : Inv X pins σ H s) (u : Un (frs X.stack) ch H H' s.heap h') (hok : HOk X.prog X.w H' h') (hg : AllBare g')
    (hch : ∀ b ∈ ch, (b ∈ X.ex ∨ X.s₀.heap.objs.size ≤ b) ∧ b ≠ X.env.locals ∧ (∀ x c, X.env.cells.lookup x = some c → c ≠ b) ∧ ∀ p ∈ X.pn ++ pins, p.1 ≠ b) :
    Inv X pins σ H' { s with heap := h', gens := g', drawn := d', toks := t' } := by
  obtain ⟨m, ⟨o, es, ep, ho, r⟩, _⟩ := id I.loc
  obtain ⟨sl, hL⟩ := u.any ho I.free fun z => (hch _ z).2.1 rfl
  exact I.step (ch := ch) hch (fun b o hL hb hc e n => u.keep b o e n (fun z => (List.mem_cons.mp (I.stkSub b z)).elim hL hb) hc) (fun b o _ _ hc e n => u.any e n hc) (fun b o hc e n => u.free b o e n hc) (fun b o hc e => u.there b o e hc) u.tups u.frzs u.tbls (fun m' hm => by
    obtain ⟨o', es', ep', ho', r'⟩ := hm
    rw [ho] at ho'; cases ho'
    exact ⟨_, es', ep', hL, r'⟩) hok hg
/-- an untracked record of ours (an iterator) has turned -/
theorem Inv.turned {t' : Nat} {it : Addr} (I : Inv X pins σ H s) (k : ∀ b o, b ≠ it → s.heap.get? b = some o → h'.get? b = some o) (hn : H it = none) (hL : it ≠ X.env.locals)
    (h1 : it ∈ X.ex ∨ X.s₀.heap.objs.size ≤ it) (h2 : ∀ x c, X.env.cells.lookup x = some c → c ≠ it) (h3 : ∀ p ∈ X.pn ++ pins, p.1 ≠ it) : Inv X pins σ H { s with heap := h', toks := t' } := by
  have nit : ∀ b u, H b = some u → b ≠ it := fun b u e z => by rw [z, hn] at e; cases e
  refine I.step (g' := s.gens) (d' := s.drawn) (ch := [it]) (fun b hb => ?_) (fun b o _ _ hc e _ => k b o (fun z => hc (by simp [z])) e) (fun b o _ _ hc e _ => ⟨o.slots, k b o (fun z => hc (by simp [z])) e⟩) (fun _ _ _ _ n => n)
    (fun b o hc e => ⟨o, k b o (fun z => hc (by simp [z])) e⟩) (fun _ _ e => e) (fun _ _ _ e => e) (fun b ps e => ⟨#[], by rw [e]; simp⟩) (fun m hm => ?_) (fun b u e => ?_) I.bare
  · have e : b = it := by simpa using hb
    subst e
    exact ⟨h1, hL, h2, h3⟩
  · obtain ⟨o, es, ep, ho, r⟩ := hm
    exact ⟨o, es, ep, k _ o (Ne.symm hL) ho, r⟩
  · refine (I.hok b u e).stay (fun c v hc q => k c v ?_ q) (fun _ q => q) fun _ _ q => q
    rcases hc with z | z
    · rw [z]; exact nit b u e
    · exact nit c _ z
theorem Inv.tok (I : Inv X pins σ H s) (t : Nat) : Inv X pins σ H { s with toks := t } := I.un (h' := s.heap) (t' := t) Un.refl I.hok
/-- all objects kept -/
theorem Inv.kept {t' : Nat} (I : Inv X pins σ H s) (k : ∀ b u, s.heap.get? b = some u → h'.get? b = some u) : Inv X pins σ H { s with heap := h', toks := t' } := I.un (Un.kept k) (I.hok.kept k)
/-- a new object laid and tracked -/
theorem Inv.laid {a : Addr} {o : HO} {t' : Nat} (I : Inv X pins σ H s) (k : ∀ b u, s.heap.get? b = some u → h'.get? b = some u) (hp : s.heap.objs.size ≤ a) (new : ObjOk X.prog X.w (upd H a o) h' a o) :
    Inv X pins σ (upd H a o) { s with heap := h', toks := t' } := I.un (Un.laid k hp (I.hok.fresh hp)) (I.hok.laid k hp new)
/-- an object written -/
theorem Inv.write {x e : Addr} {o : HO} {t' : Nat} (I : Inv X pins σ H s) (mu : Mut (H x)) (he : e = x ∨ H e = some (.own x)) (k : ∀ b u, b ≠ e → s.heap.get? b = some u → h'.get? b = some u) (heo : ∃ u, h'.get? e = some u)
    (new : ObjOk X.prog X.w (upd H x o) h' x o) : Inv X pins σ (upd H x o) { s with heap := h', toks := t' } := I.un (Un.write mu he k heo) (I.hok.write mu he k heo new)
/-- forgetting slots, pins -/
theorem Inv.weak {σ' : List (Option V)} (I : Inv X pins σ H s) (hl : σ'.length = σ.length) (w : ∀ (i : Nat) v, σ'[i]? = some (some v) → σ[i]? = some (some v)) : Inv X pins σ' H s :=
  ⟨I.ok, I.os, I.bare, I.base, let ⟨m, hn, hl'⟩ := I.loc; ⟨m, hn, fun i x v e1 e2 e3 => hl' i x v e1 (w i v e2) e3⟩, I.cell, I.free, I.freeC, I.pin, I.hok, hl.trans I.len⟩
theorem Inv.pins_of {pins' : List (Addr × Obj)} (I : Inv X pins σ H s) (h : ∀ p ∈ pins', s.heap.get? p.1 = some p.2 ∧ H p.1 = none ∧ p.1 ≠ X.env.locals ∧ p.1 ∉ X.fs ∧ ∀ v, p.2.data ≠ .cell v) : Inv X pins' σ H s :=
  ⟨I.ok, I.os, I.bare, I.base, I.loc, I.cell, I.free, I.freeC, fun p hp => (List.mem_append.mp hp).elim (fun z => I.pin p (List.mem_append_left _ z)) (h p), I.hok, I.len⟩

theorem nodup_ix {N : List Str} (hN : N.Nodup) {i j : Nat} {x : Str} (a : N[i]? = some x) (b : N[j]? = some x) : i = j := by
  obtain ⟨h1, e1⟩ := List.getElem?_eq_some_iff.mp a
  obtain ⟨h2, e2⟩ := List.getElem?_eq_some_iff.mp b
  exact (List.getElem_inj hN).mp (e1.trans e2.symm)

/-- a name is stored; what changed -/
theorem store_ok2 {M : Model} {A : Around} {E : Value → Shared → Prop} {i : Nat} {x : Str} {v : V} {u : Value} {Q : Unit → Shared → Prop} (I : Inv X pins σ H s) (hN : X.N.Nodup) (hi : X.N[i]? = some x) (hx : Loc X.env.scope x) (r : RelV v u)
    (h : ∀ s', Inv X pins (σ.set i (some v)) H s' → (∃ a, Heap.SameBut a s.heap s'.heap ∧ (a = X.env.locals ∨ X.env.cells.lookup x = some a)) → Q () s') (hf : X.fn x = true ∨ X.env.scope.names.lookup x = some .local := by first | exact .inl rfl | exact .inr rfl | assumption) : wpAny M A (storeName X.env x u) Q E s := by
  obtain ⟨m, hn, hl⟩ := id I.loc
  have hcls : (X.env.scope.kind == .class || (X.env.scope.kind == .module && X.env.locals != X.env.globals)) = false := by rw [I.ok.kind]; rfl
  have hiσ : i < σ.length := by rw [I.len]; exact (List.getElem?_eq_some_iff.mp hi).1
  have cne := I.cne
  have tracked : ∀ {a : Addr} {h' : Heap}, (∃ o, s.heap.get? a = some o ∧ H a = none) → Heap.SameBut a s.heap h' → HOk X.prog X.w H h' := fun {a h'} ha hs b ob e => by
    obtain ⟨_, _, hfree⟩ := ha
    refine (I.hok b ob e).stay (fun c w' hc q => (hs.2 c ?_).trans q) (fun _ q => q) fun _ _ q => q
    rintro rfl
    rcases hc with rfl | hc
    · rw [hfree] at e; cases e
    · rw [hfree] at hc; cases hc
  rcases hx with hk | hk
  · refine wpAny_storeName_local hk hn (fun h' hn' hs => ?_) hcls
    obtain ⟨oL, _, _, hoL, _⟩ := id hn
    refine h _ ⟨I.ok, I.os, I.bare, ⟨fun b o e n hb hx => ?_, fun b o e n hb hx => ?_, I.base.free, fun b o e hx => ?_, I.base.tups, I.base.frzs, I.base.tbls⟩, ⟨_, hn', fun j y v' e1 e2 e3 => ?_⟩, fun y c e => ?_, I.free, I.freeC, fun p hp => ?_, tracked ⟨oL, hoL, I.free⟩ hs, by simpa using I.len⟩ ⟨_, hs, .inl rfl⟩
    · exact (hs.2 b (Nat.ne_of_lt (Nat.lt_of_lt_of_le (Heap.lt_size e) I.ok.above))).trans (I.base.keep b o e n hb hx)
    · obtain ⟨sl, e1⟩ := I.base.slot b o e n hb hx
      exact ⟨sl, (hs.2 b (Nat.ne_of_lt (Nat.lt_of_lt_of_le (Heap.lt_size e) I.ok.above))).trans e1⟩
    · obtain ⟨o', e1⟩ := I.base.there b o e hx
      exact ⟨o', (hs.2 b (Nat.ne_of_lt (Nat.lt_of_lt_of_le (Heap.lt_size e) I.ok.above))).trans e1⟩
    · by_cases hj : j = i
      · subst hj
        rw [hi] at e1; cases e1
        rw [List.getElem?_set_self hiσ] at e2
        cases e2
        exact ⟨u, r, .inl ⟨hk, by simp⟩⟩
      · rw [List.getElem?_set_ne (Ne.symm hj)] at e2
        obtain ⟨u', r', q⟩ := hl j y v' e1 e2 e3
        refine ⟨u', r', ?_⟩
        rcases q with ⟨k, e⟩ | ⟨k, c, e, z⟩
        · refine .inl ⟨k, ?_⟩
          have : y ≠ x := fun e => hj (nodup_ix hN e1 (e ▸ hi))
          simp [this, e]
        · exact .inr ⟨k, c, e, z.sameBut hs (cne y c e)⟩
    · obtain ⟨w', z⟩ := I.cell y c e
      exact ⟨w', z.sameBut hs (cne y c e)⟩
    · obtain ⟨e, n, ne, nf, d⟩ := I.pin p hp
      exact ⟨(hs.2 p.1 ne).trans e, n, ne, nf, d⟩
  · have hfn : X.fn x = true := by
      rcases hf with z | z
      · exact z
      · rw [z] at hk; cases hk
    obtain ⟨c, hc⟩ := I.ok.has x (.inl hk)
    obtain ⟨w', z⟩ := I.cell x c hc
    refine wpAny_storeName_cell I.ok.kind hk hc z (fun h' hc' hs => ?_)
    obtain ⟨oc, hoc, hocd⟩ := id z
    refine h { s with heap := h' } ⟨I.ok, I.os, I.bare, ⟨fun b o e n hb hx => ?_, fun b o e n hb hx => ?_, I.base.free, fun b o e hx => ?_, I.base.tups, I.base.frzs, I.base.tbls⟩, ⟨m, hn.sameBut hs (Ne.symm (cne x c hc)), fun j y v' e1 e2 e3 => ?_⟩, fun y c' e => ?_, I.free, I.freeC, fun p hp => ?_, tracked ⟨oc, hoc, I.freeC x c hc⟩ hs, by simpa using I.len⟩ ⟨c, hs, .inr hc⟩
    · exact (hs.2 b (Nat.ne_of_lt (Nat.lt_of_lt_of_le (Heap.lt_size e) (I.ok.cab x c hfn hc)))).trans (I.base.keep b o e n hb hx)
    · obtain ⟨sl, e1⟩ := I.base.slot b o e n hb hx
      exact ⟨sl, (hs.2 b (Nat.ne_of_lt (Nat.lt_of_lt_of_le (Heap.lt_size e) (I.ok.cab x c hfn hc)))).trans e1⟩
    · obtain ⟨o', e1⟩ := I.base.there b o e hx
      exact ⟨o', (hs.2 b (Nat.ne_of_lt (Nat.lt_of_lt_of_le (Heap.lt_size e) (I.ok.cab x c hfn hc)))).trans e1⟩
    · by_cases hj : j = i
      · subst hj
        rw [hi] at e1; cases e1
        rw [List.getElem?_set_self hiσ] at e2
        cases e2
        exact ⟨u, r, .inr ⟨.inl hk, c, hc, hc'⟩⟩
      · rw [List.getElem?_set_ne (Ne.symm hj)] at e2
        obtain ⟨u', r', q⟩ := hl j y v' e1 e2 e3
        refine ⟨u', r', ?_⟩
        rcases q with q | ⟨k, c', e, z'⟩
        · exact .inl q
        · refine .inr ⟨k, c', e, z'.sameBut hs ?_⟩
          rintro rfl
          exact hj (nodup_ix hN e1 (I.ok.inj _ _ _ e hc ▸ hi))
    · by_cases hcc : c' = c
      · subst hcc; exact ⟨_, hc'⟩
      · obtain ⟨w2, z2⟩ := I.cell y c' e
        exact ⟨w2, z2.sameBut hs hcc⟩
    · obtain ⟨e, n, ne, nf, d⟩ := I.pin p hp
      refine ⟨(hs.2 p.1 ?_).trans e, n, ne, nf, d⟩
      intro q
      rw [q, hoc] at e
      have q' : oc = p.2 := Option.some.inj e
      exact d w' (by rw [← q']; exact hocd)
theorem store_ok {M : Model} {A : Around} {E : Value → Shared → Prop} {i : Nat} {x : Str} {v : V} {u : Value} {Q : Unit → Shared → Prop} (I : Inv X pins σ H s) (hN : X.N.Nodup) (hi : X.N[i]? = some x) (hx : Loc X.env.scope x) (r : RelV v u)
    (h : ∀ s', Inv X pins (σ.set i (some v)) H s' → Q () s') (hf : X.fn x = true ∨ X.env.scope.names.lookup x = some .local := by first | exact .inl rfl | exact .inr rfl | assumption) : wpAny M A (storeName X.env x u) Q E s :=
  store_ok2 I hN hi hx r (fun s' I' _ => h s' I') hf
/-- behind a call or a block, the state as it is -/
theorem Inv.call' {s' : Shared} {ch : List Addr} (I : Inv X pins σ H s) (ho : s'.os = s.os) (u : Un (frs X.stack) ch H H' s.heap s'.heap) (hok : HOk X.prog X.w H' s'.heap) (hg : AllBare s'.gens)
    (hch : ∀ b ∈ ch, (b ∈ X.ex ∨ X.s₀.heap.objs.size ≤ b) ∧ b ≠ X.env.locals ∧ (∀ x c, X.env.cells.lookup x = some c → c ≠ b) ∧ ∀ p ∈ X.pn ++ pins, p.1 ≠ b) : Inv X pins σ H' s' := by
  obtain ⟨h', g', d', t', o'⟩ := s'
  have e : o' = s.os := ho
  subst e
  exact I.call (g' := g') (t' := t') (d' := d') u hok hg hch
end

/-! ### the judgements -/
/-- an exception: its class, its own dict's address (where it has one), the abstract heap behind it -/
abbrev XK := Value → Option Addr → Hp → Prop
abbrev St := List (Option V)
abbrev VK := V → Hp → Prop
/-- an expression's reading; a test's; an argument list's -/
abbrev TE := St → Hp → VK → Prop
abbrev TT := St → Hp → (Bool → Hp → Prop) → Prop
abbrev TA := St → Hp → (List V → Hp → Prop) → Prop
/-- what is wanted behind a statement -/
structure Ends where
  nx : St → Hp → Prop
  rt : VK
  bk : St → Hp → Prop := fun _ _ => False
  ct : St → Hp → Prop := fun _ _ => False
abbrev TS := Ends → St → Hp → Prop

def EP (X : Cx) (pins : List (Addr × Obj)) (σ : St) (Q : VK) (u : Value) (s' : Shared) : Prop := ∃ v H', Inv X pins σ H' s' ∧ RelV v u ∧ Q v H'
def TP (X : Cx) (pins : List (Addr × Obj)) (σ : St) (Q : Bool → Hp → Prop) (b : Bool) (s' : Shared) : Prop := ∃ H', Inv X pins σ H' s' ∧ Q b H'
def AP (X : Cx) (pins : List (Addr × Obj)) (σ : St) (Q : List V → Hp → Prop) (us : List Value) (s' : Shared) : Prop := ∃ vs H', Inv X pins σ H' s' ∧ Vals vs us ∧ Q vs H'
def SP (X : Cx) (pins : List (Addr × Obj)) (D : Ends) (f : Flow) (s' : Shared) : Prop :=
  match f with
  | .next => ∃ σ' H', Inv X pins σ' H' s' ∧ D.nx σ' H'
  | .brk => ∃ σ' H', Inv X pins σ' H' s' ∧ D.bk σ' H'
  | .cont => ∃ σ' H', Inv X pins σ' H' s' ∧ D.ct σ' H'
  | .ret u => ∃ v σ' H', Inv X pins σ' H' s' ∧ RelV v u ∧ D.rt v H'

def PE (X : Cx) (e : Expr) (t : TE) : Prop :=
  ∀ (pins : List (Addr × Obj)) (s : Shared) (σ : St) (H : Hp) (Q : VK), Inv X pins σ H s → t σ H Q → wpAny (model X.prog X.w) X.A (eval e X.env) (EP X pins σ Q) X.xe s
def PT (X : Cx) (e : Expr) (t : TT) : Prop :=
  ∀ (pins : List (Addr × Obj)) (s : Shared) (σ : St) (H : Hp) (Q : Bool → Hp → Prop), Inv X pins σ H s → t σ H Q → wpAny (model X.prog X.w) X.A (isTrue e X.env (eval e X.env)) (TP X pins σ Q) X.xe s
/-- a test whatever its 'whole' is (and, or) -/
def PW (X : Cx) (e : Expr) (t : TT) : Prop :=
  ∀ (whole : Sem Value) (pins : List (Addr × Obj)) (s : Shared) (σ : St) (H : Hp) (Q : Bool → Hp → Prop), Inv X pins σ H s → t σ H Q → wpAny (model X.prog X.w) X.A (isTrue e X.env whole) (TP X pins σ Q) X.xe s
theorem PW.pt {X : Cx} {e : Expr} {t : TT} (h : PW X e t) : PT X e t := h _
/-- an argument list (no star), from the left -/
def PA (X : Cx) (es : List Expr) (t : TA) : Prop :=
  ∀ (pos : Pos) (pins : List (Addr × Obj)) (s : Shared) (σ : St) (H : Hp) (Q : List V → Hp → Prop), Inv X pins σ H s → t σ H Q → wpAny (model X.prog X.w) X.A (spliced (backTo pos (starEach es X.env))) (AP X pins σ Q) X.xe s
def PS (X : Cx) (st : Stmt) (t : TS) : Prop :=
  ∀ (pins : List (Addr × Obj)) (s : Shared) (σ : St) (H : Hp) (D : Ends), Inv X pins σ H s → t D σ H → wpAny (model X.prog X.w) X.A (exec st X.env) (SP X pins D) X.xe s
def PSs (X : Cx) (st : List Stmt) (t : TS) : Prop :=
  ∀ (pins : List (Addr × Obj)) (s : Shared) (σ : St) (H : Hp) (D : Ends), Inv X pins σ H s → t D σ H → wpAny (model X.prog X.w) X.A (execs st X.env) (SP X pins D) X.xe s
/-- weaken the end -/
theorem thn {α : Type} {t : Sem α} {Q Q' : α → Shared → Prop} {M : Model} {A : Around} {E : Value → Shared → Prop} {s : Shared} (h : wpAny M A t Q E s) (hQ : ∀ a s, Q a s → Q' a s) : wpAny M A t Q' E s := wpAny_mono h hQ fun _ _ x => x
end L2

namespace L2
open PySem PySem.Spec PyProof.Rows
section
variable {X : Cx}

/-! ### names and constants -/
def tVar (i : Nat) : TE := fun σ H Q => ∃ v, σ[i]? = some (some v) ∧ Q v H
def tC (v : V) : TE := fun _ H Q => Q v H
theorem pe_var {i : Nat} {x : Str} {pos : Pos} (hN : X.N[i]? = some x) (hv : Vis X.env.scope x) (hd : (x == ("__debug__" : Str)) = false := by decide) (hcd : (x == ("__classdict__" : Str)) = false := by decide) : PE X (.Name x pos) (tVar i) := by
  intro pins s σ H Q I h
  obtain ⟨v, e, h⟩ := h
  obtain ⟨m, hn, hl⟩ := I.loc
  obtain ⟨u, r, l⟩ := hl i x v hN e hv
  have fin : EP X pins σ Q u s := ⟨v, H, I, r, h⟩
  rcases l with ⟨hk, hm⟩ | ⟨hk, c, hc, hcell⟩
  · exact wpAny_Name (wpAny_loadName_local I.ok.kind hk hn hm fin) hd
  · rcases hk with hk | hk
    · exact wpAny_Name (wpAny_loadName_cell I.ok.kind hk hc hcell fin) hd
    · exact wpAny_Name (wpAny_loadName_free I.ok.kind hk hc hcell fin hcd) hd
theorem pe_int {i j pos} : PE X (.Constant (.int i) j pos) (tC (.int i)) := fun _ _ _ H _ I h => wpAny_Constant_int ⟨.int i, H, I.tok _, ⟨_, rfl⟩, h⟩
theorem pe_bl {b j pos} : PE X (.Constant (.bool b) j pos) (tC (.bl b)) := fun _ _ _ H _ I h => Constant_bool ⟨.bl b, H, I, rfl, h⟩
theorem pe_non {j pos} : PE X (.Constant .none j pos) (tC .non) := fun _ _ _ H _ I h => Constant_none ⟨.non, H, I, rfl, h⟩
theorem pe_str {x j pos} : PE X (.Constant (.str x) j pos) (tC (.str x)) := fun _ _ _ H _ I h => Calls.Constant_str ⟨.str x, H, I.tok _, ⟨_, rfl⟩, h⟩

/-- a global name of the def -/
def Gl (X : Cx) (x : Str) : Prop := X.env.kindOf x = some .globalImplicit
theorem ld_glob {E : Value → Shared → Prop} {pins : List (Addr × Obj)} {s : Shared} {σ : St} {H : Hp} {x : Str} {u : Value} {pos : Pos} {Q : Value → Shared → Prop} (I : Inv X pins σ H s) (hg : Gl X x) (hm : X.mg x = some u) (h : Q u s)
    (hd : (x == ("__debug__" : Str)) = false := by decide) : wpAny (model X.prog X.w) X.A (eval (.Name x pos) X.env) Q E s :=
  Calls.Name_function_global I.ok.kind hg (Calls.loadGlobal_global (by rw [I.ok.glob]; exact I.mod.glob.keeps I.bk) hm h) hd
theorem ld_blt {E : Value → Shared → Prop} {pins : List (Addr × Obj)} {s : Shared} {σ : St} {H : Hp} {x : Str} {u : Value} {pos : Pos} {Q : Value → Shared → Prop} (I : Inv X pins σ H s) (hg : Gl X x) (hm : X.mg x = none) (hv : bootBuiltins x = some u) (h : Q u s)
    (hn : x ≠ "__name__" := by decide) (hd : (x == ("__debug__" : Str)) = false := by decide) : wpAny (model X.prog X.w) X.A (eval (.Name x pos) X.env) Q E s := by
  obtain ⟨mb, h1, h2⟩ := I.mod.blt
  exact Calls.Name_function_global I.ok.kind hg (Calls.loadGlobal_builtin (by rw [I.ok.glob]; exact I.mod.glob.keeps I.bk) hm (by rw [I.ok.blt]; exact h1.keeps I.bk) ((h2 x hn).trans hv) h) hd
/-- a module's constant, a class, a function, as a value -/
theorem pe_glob {x : Str} {v : V} {u : Value} {pos : Pos} (hg : Gl X x) (hm : X.mg x = some u) (r : RelV v u) (hd : (x == ("__debug__" : Str)) = false := by decide) : PE X (.Name x pos) (tC v) :=
  fun _ _ _ H _ I h => ld_glob I hg hm ⟨v, H, I, r, h⟩ hd
theorem pe_bltn {x : Str} {v : V} {u : Value} {pos : Pos} (hg : Gl X x) (hm : X.mg x = none) (hv : bootBuiltins x = some u) (r : RelV v u) (hn : x ≠ "__name__" := by decide) (hd : (x == ("__debug__" : Str)) = false := by decide) : PE X (.Name x pos) (tC v) :=
  fun _ _ _ H _ I h => ld_blt I hg hm hv ⟨v, H, I, r, h⟩ hn hd

/-! ### arithmetic -/
/-- two ints -/
def t2I (ta tb : TE) (k : Int → Int → Hp → Prop) : St → Hp → Prop := fun σ H => ta σ H fun x H1 => tb σ H1 fun y H2 => ∃ i j, x = .int i ∧ y = .int j ∧ k i j H2
def tAdd (ta tb : TE) : TE := fun σ H Q => t2I ta tb (fun i j H2 => Q (.int (i + j)) H2) σ H
def tSub (ta tb : TE) : TE := fun σ H Q => t2I ta tb (fun i j H2 => Q (.int (i - j)) H2) σ H
/-- the left factor below 2^64 -/
def tMul (ta tb : TE) : TE := fun σ H Q => t2I ta tb (fun i j H2 => (-(2 ^ 64) < i ∧ i < 2 ^ 64) ∧ Q (.int (i * j)) H2) σ H
variable {a b : Expr} {ta tb : TE} {pos : Pos}
/-! ### comparisons -/
def PC (X : Cx) (op : CmpOp) (a b : Expr) (t : TE) : Prop :=
  ∀ (pins : List (Addr × Obj)) (s : Shared) (σ : St) (H : Hp) (Q : VK), Inv X pins σ H s → t σ H Q →
    wpAny (model X.prog X.w) X.A (eval a X.env) (fun v s₁ => wpAny (model X.prog X.w) X.A (eval b X.env) (fun u s₂ => wpAny (model X.prog X.w) X.A (compareOp op v u) (EP X pins σ Q) X.xe s₂) X.xe s₁) X.xe s
def tCmp (p : Int → Int → Bool) (ta tb : TE) : TE := fun σ H Q => t2I ta tb (fun i j H2 => Q (.bl (p i j)) H2) σ H
abbrev tLt : TE → TE → TE := tCmp fun i j => decide (i < j)
abbrev tLe : TE → TE → TE := tCmp fun i j => decide (i ≤ j)
abbrev tGt : TE → TE → TE := tCmp fun i j => decide (j < i)
abbrev tGe : TE → TE → TE := tCmp fun i j => decide (j ≤ i)
abbrev tEqI : TE → TE → TE := tCmp fun i j => decide (i = j)
abbrev tNeI : TE → TE → TE := tCmp fun i j => !decide (i = j)
/-- is None -/
def tIsN (ta : TE) : TE := fun σ H Q => ta σ H fun x H1 => Q (.bl (decide (x = .non))) H1
def tNotN (ta : TE) : TE := fun σ H Q => ta σ H fun x H1 => Q (.bl (!decide (x = .non))) H1
/-- a comparison as a value, as a test -/
def tB (t : TE) : TT := fun σ H Q => t σ H fun x H1 => ∃ c, x = .bl c ∧ Q c H1
/-- an expression whose value is a bool, as a test -/
theorem pt_val {e : Expr} {t : TE} (h : PE X e t) (he : ∀ whole, isTrue e X.env whole = (do let v ← whole; standAt e.pos; holding [v] (truthy v)) := by intro _; rfl) : PT X e (tB t) := by
  intro pins s σ H Q I hw
  refine isTrue_plain (thn (h pins s σ H _ I hw) fun v s1 ⟨x, H1, I1, r1, q1⟩ => ?_) (he _)
  obtain ⟨d, rfl, q⟩ := q1
  cases r1
  exact wpAny_truthy_bool ⟨H1, I1, q⟩

/-! ### and, or, not -/
variable {tA tB' : TT} {rest : List Expr}
def tAnd (t u : TT) : TT := fun σ H Q => t σ H fun c H1 => if c = true then u σ H1 Q else Q false H1
def tOr (t u : TT) : TT := fun σ H Q => t σ H fun c H1 => if c = true then Q true H1 else u σ H1 Q
def tNot (t : TT) : TT := fun σ H Q => t σ H fun c H1 => Q (!c) H1
theorem pw_and1 (ha : PT X a tA) : PW X (.BoolOp .And [a] pos) tA := by
  intro wh pins s σ H Q I h
  refine isTrue_and (thn (ha pins s σ H Q I h) fun c s1 e => ?_)
  cases c with
  | true => exact isTrue_and_nil e
  | false => exact e
theorem pw_or1 (ha : PT X a tA) : PW X (.BoolOp .Or [a] pos) tA := by
  intro wh pins s σ H Q I h
  refine isTrue_or (thn (ha pins s σ H Q I h) fun c s1 e => ?_)
  cases c with
  | false => exact isTrue_or_nil e
  | true => exact e
theorem pw_and (ha : PT X a tA) (hb : PW X (.BoolOp .And (b :: rest) pos) tB') : PW X (.BoolOp .And (a :: b :: rest) pos) (tAnd tA tB') := by
  intro wh pins s σ H Q I h
  refine isTrue_and (thn (ha pins s σ H _ I h) fun c s1 ⟨H1, I1, q1⟩ => ?_)
  cases c with
  | true => exact hb wh pins s1 σ H1 Q I1 q1
  | false => exact ⟨H1, I1, q1⟩
theorem pw_or (ha : PT X a tA) (hb : PW X (.BoolOp .Or (b :: rest) pos) tB') : PW X (.BoolOp .Or (a :: b :: rest) pos) (tOr tA tB') := by
  intro wh pins s σ H Q I h
  refine isTrue_or (thn (ha pins s σ H _ I h) fun c s1 ⟨H1, I1, q1⟩ => ?_)
  cases c with
  | true => exact ⟨H1, I1, q1⟩
  | false => exact hb wh pins s1 σ H1 Q I1 q1
theorem pt_not (ha : PT X a tA) : PT X (.UnaryOp .Not a pos) (tNot tA) := by
  intro pins s σ H Q I h
  exact isTrue_not (ha pins s σ H (fun c H1 => Q (!c) H1) I h)
/-- .. as values (bools) -/
def tAndV (ta tb : TE) : TE := fun σ H Q => ta σ H fun x H1 => ∃ c, x = .bl c ∧ if c = true then tb σ H1 Q else Q (.bl false) H1
def tOrV (ta tb : TE) : TE := fun σ H Q => ta σ H fun x H1 => ∃ c, x = .bl c ∧ if c = true then Q (.bl true) H1 else tb σ H1 Q
def tNotV (ta : TE) : TE := fun σ H Q => ta σ H fun x H1 => ∃ c, x = .bl c ∧ Q (.bl (!c)) H1
theorem pe_one {op} {t : TE} (h : PE X a t) : PE X (.BoolOp op [a] pos) t := fun pins s σ H Q I hw => BoolOp_one (h pins s σ H Q I hw)
theorem pe_and (ha : PE X a ta) (hb : PE X (.BoolOp .And (b :: rest) pos) tb) : PE X (.BoolOp .And (a :: b :: rest) pos) (tAndV ta tb) := by
  intro pins s σ H Q I h
  refine BoolOp_and (thn (ha pins s σ H _ I h) fun v s1 ⟨x, H1, I1, r1, q1⟩ => ?_)
  obtain ⟨c, rfl, q1⟩ := q1
  cases r1
  refine wpAny_truthy_bool ?_
  cases c with
  | true => exact hb pins s1 σ H1 Q I1 q1
  | false => exact ⟨.bl false, H1, I1, rfl, q1⟩
theorem pe_not (ha : PE X a ta) : PE X (.UnaryOp .Not a pos) (tNotV ta) := by
  intro pins s σ H Q I h
  refine UnaryOp_ (thn (ha pins s σ H _ I h) fun v s1 ⟨x, H1, I1, r1, q1⟩ => ?_)
  obtain ⟨c, rfl, q1⟩ := q1
  cases r1
  exact not_of (wpAny_truthy_bool ⟨.bl (!c), H1, I1, rfl, q1⟩)
/-- a if t else b -/
def tIf (t : TT) (ta tb : TE) : TE := fun σ H Q => t σ H fun c H1 => if c = true then ta σ H1 Q else tb σ H1 Q
end
end L2

namespace L2
open PySem PySem.Spec PyProof.Rows

/-! ### a list, a tuple that is read: tracked, frozen, or an object of the module -/
def SqL (K : PySem.W.Frag) (H : Hp) (a : Addr) (xs : List V) : Prop :=
  Rd H a (.lst xs) ∨
    ∃ (o : Obj) (its : Array Value) (n : Nat), K.lookup a = some o ∧ o.cls = .type "list" ∧ o.dict = none ∧ o.data = .seq its n ∧ its.size ≤ sizeLine ∧ Vals xs its.toList
def SqT (K : PySem.W.Frag) (H : Hp) (a : Addr) (xs : List V) : Prop :=
  Rd H a (.tup xs) ∨
    ∃ (o : Obj) (its : Array Value) (n : Nat), K.lookup a = some o ∧ o.cls = .type "tuple" ∧ o.data = .seq its n ∧ its.size ≤ sizeLine ∧ Vals xs its.toList
def absV : Value → Option V
  | .none => some .non
  | .bool b => some (.bl b)
  | .int i _ => some (.int i)
  | .str x _ => some (.str x)
  | .bytes b _ => some (.byt b)
  | .float b _ => some (.flt b)
  | .ref a => some (.ref a)
  | .type n => some (.ty n)
  | _ => none
theorem RelV.abs {x : V} {u : Value} (r : RelV x u) : absV u = some x := by
  cases x with
  | non => cases r; rfl
  | bl _ => cases r; rfl
  | int _ => obtain ⟨t, rfl⟩ := r; rfl
  | str _ => obtain ⟨t, rfl⟩ := r; rfl
  | byt _ => obtain ⟨t, rfl⟩ := r; rfl
  | flt _ => obtain ⟨t, rfl⟩ := r; rfl
  | ref _ => cases r; rfl
  | ty _ => cases r; rfl
theorem RelV.inj {x y : V} {u : Value} (r : RelV x u) (q : RelV y u) : x = y := Option.some.inj (r.abs.symm.trans q.abs)
theorem Vals.inj : ∀ {xs ys : List V} {us : List Value}, Vals xs us → Vals ys us → xs = ys
  | _, _, _, .nil, .nil => rfl
  | _, _, _, .cons r t, .cons r' t' => by rw [r.inj r', Vals.inj t t']
section
variable {X : Cx} {pins : List (Addr × Obj)} {σ : St} {H : Hp} {s : Shared} {a : Addr} {xs ys : List V}
theorem SqL.of {K : PySem.W.Frag} (h : H a = some (.lst xs)) : SqL K H a xs := .inl (.inl h)
theorem SqT.of {K : PySem.W.Frag} (h : H a = some (.tup xs)) : SqT K H a xs := .inl (.inl h)
theorem Inv.list (I : Inv X pins σ H s) (h : SqL X.K H a xs) : ∃ its : List Value, Vals xs its ∧ PlainL s.heap a its.toArray ∧ xs.length ≤ sizeLine := by
  rcases h with h | ⟨o, its, n, hk, hc, hd, hs, hz, r⟩
  · obtain ⟨z, its, n, r, e⟩ := h.ok I.hok
    exact ⟨its, r, ⟨_, n, e, rfl, rfl, rfl⟩, z⟩
  · refine ⟨its.toList, r, ⟨o, n, I.kIn a o hk, hc, hd, by simpa using hs⟩, ?_⟩
    have e := r.length
    simp only [Array.length_toList] at e
    omega
theorem Inv.tuple (I : Inv X pins σ H s) (h : SqT X.K H a xs) : ∃ its : List Value, Vals xs its ∧ IsTup s.heap a its.toArray ∧ xs.length ≤ sizeLine := by
  rcases h with h | ⟨o, its, n, hk, hc, hs, hz, r⟩
  · obtain ⟨z, its, r, p⟩ := h.ok I.hok
    exact ⟨its, r, p, z⟩
  · refine ⟨its.toList, r, ⟨o, I.kIn a o hk, hc, n, by simpa using hs⟩, ?_⟩
    have e := r.length
    simp only [Array.length_toList] at e
    omega
theorem Inv.tuple_inj (I : Inv X pins σ H s) (h : SqT X.K H a xs) (h' : SqT X.K H a ys) : xs = ys := by
  obtain ⟨its, r, ⟨o, e, _, n, d⟩, _⟩ := I.tuple h
  obtain ⟨its', r', ⟨o', e', _, n', d'⟩, _⟩ := I.tuple h'
  rw [e] at e'; cases e'
  rw [d] at d'
  injection d' with d1 _
  have : its = its' := by simpa using congrArg Array.toList d1
  subst this
  exact r.inj r'
end

/-! ### another wish about exceptions -/
abbrev Cx.wish (X : Cx) (E : Value → Shared → Prop) : Cx := { X with xe := E }
/-- no exception leaves -/
abbrev Cx.nox (X : Cx) : Cx := X.wish fun _ _ => False
theorem Cx.Ok.wish {X : Cx} (ok : X.Ok) (E : Value → Shared → Prop) : (X.wish E).Ok :=
  ⟨ok.mod, ok.kind, ok.glob, ok.blt, ok.above, ok.inj, ok.has, ok.cab, ok.hd, ok.frames, ok.stk, ok.exf, ok.bs, ok.bsz, ok.noex, ok.exfs, ok.funs, ok.frf⟩
theorem Cx.Ok.unwish {X : Cx} {E : Value → Shared → Prop} (ok : (X.wish E).Ok) : X.Ok :=
  ⟨ok.mod, ok.kind, ok.glob, ok.blt, ok.above, ok.inj, ok.has, ok.cab, ok.hd, ok.frames, ok.stk, ok.exf, ok.bs, ok.bsz, ok.noex, ok.exfs, ok.funs, ok.frf⟩
section
variable {X : Cx} {pins : List (Addr × Obj)} {σ : St} {H : Hp} {s : Shared} {E : Value → Shared → Prop}
theorem Inv.wish (I : Inv X pins σ H s) (E : Value → Shared → Prop) : Inv (X.wish E) pins σ H s := ⟨I.ok.wish E, I.os, I.bare, I.base, I.loc, I.cell, I.free, I.freeC, I.pin, I.hok, I.len⟩
theorem Inv.unwish (I : Inv (X.wish E) pins σ H s) : Inv X pins σ H s := ⟨I.ok.unwish, I.os, I.bare, I.base, I.loc, I.cell, I.free, I.freeC, I.pin, I.hok, I.len⟩
theorem SP.unwish {D : Ends} {f : Flow} {s' : Shared} (h : SP (X.wish E) pins D f s') : SP X pins D f s' := by
  cases f with
  | next => obtain ⟨σ', H', I, q⟩ := h; exact ⟨σ', H', I.unwish, q⟩
  | brk => obtain ⟨σ', H', I, q⟩ := h; exact ⟨σ', H', I.unwish, q⟩
  | cont => obtain ⟨σ', H', I, q⟩ := h; exact ⟨σ', H', I.unwish, q⟩
  | ret u => obtain ⟨v, σ', H', I, r, q⟩ := h; exact ⟨v, σ', H', I.unwish, r, q⟩
theorem PSs.nox {st : List Stmt} {t : TS} (h : PSs X.nox st t) : PSs X st t := fun pins s σ H D I hw =>
  wpAny_mono (h pins s σ H D (I.wish _) hw) (fun _ _ q => q.unwish) fun _ _ z => False.elim z
end

/-! ### blocks and small statements -/
section
variable {X : Cx} {st : Stmt} {rest : List Stmt} {t u : TS} {e : Expr} {te : TE} {pos : Pos}
def tNext : TS := fun D σ H => D.nx σ H
def tSeq (t u : TS) : TS := fun D σ H => t { D with nx := u D } σ H
theorem pss_nil : PSs X [] tNext := fun _ _ σ H _ I h => wpAny_execs_nil ⟨σ, H, I, h⟩
theorem pss_cons (h1 : PS X st t) (h2 : PSs X rest u) : PSs X (st :: rest) (tSeq t u) := by
  intro pins s σ H D I h
  refine wpAny_execs_cons (thn (h1 pins s σ H { D with nx := u D } I h) fun f s1 q => ?_)
  cases f with
  | next =>
    obtain ⟨σ', H', I', q⟩ := q
    exact h2 pins s1 σ' H' D I' q
  | ret v => exact q
  | brk => exact q
  | cont => exact q
theorem pss_one (h1 : PS X st t) : PSs X [st] t := by
  intro pins s σ H D I h
  refine wpAny_execs_cons (thn (h1 pins s σ H D I h) fun f s1 q => ?_)
  cases f with
  | next => exact wpAny_execs_nil q
  | ret v => exact q
  | brk => exact q
  | cont => exact q
def tBreak : TS := fun D σ H => D.bk σ H
def tCont : TS := fun D σ H => D.ct σ H
/-- in a def's body nothing is shown -/
theorem Inv.quiet {pins : List (Addr × Obj)} {σ : St} {H : Hp} {s : Shared} (I : Inv X pins σ H s) : interactive X.env = false := by simp [interactive, I.ok.kind]
/-- an expression whose value is dropped -/
def tDrop (te : TE) : TS := fun D σ H => te σ H fun _ H1 => D.nx σ H1
theorem ps_expr (he : PE X e te) (hs : swapsWith e none pos.line X.env = pure false := by rfl) : PS X (.Expr e pos) (tDrop te) := by
  intro pins s σ H D I h
  exact wpAny_Expr_any (thn (he pins s σ H _ I h) fun v s1 ⟨x, H1, I1, r1, q1⟩ => ⟨σ, H1, I1, q1⟩) I.quiet hs
def tRet (te : TE) : TS := fun D σ H => te σ H D.rt
theorem ps_ret (he : PE X e te) : PS X (.Return (some e) pos) (tRet te) := by
  intro pins s σ H D I h
  exact wpAny_Return_some (thn (he pins s σ H _ I h) fun v s1 ⟨x, H1, I1, r1, q1⟩ => ⟨x, σ, H1, I1, r1, q1⟩)
def tRetN : TS := fun D _ H => D.rt .non H
def tIfS (c : TT) (t u : TS) : TS := fun D σ H => c σ H fun b H1 => if b = true then t D σ H1 else u D σ H1
theorem ps_if {c : Expr} {a b : List Stmt} {tc : TT} (hc : PT X c tc) (ha : PSs X a t) (hb : PSs X b u) : PS X (.If c a b pos) (tIfS tc t u) := by
  intro pins s σ H D I h
  refine wpAny_If (thn (hc pins s σ H _ I h) fun d s1 ⟨H1, I1, q1⟩ => ?_)
  cases d with
  | true => exact ha pins s1 σ H1 D I1 q1
  | false => exact hb pins s1 σ H1 D I1 q1
/-- code that the proof never comes to -/
def tNever : TS := fun _ _ _ => False
end

/-! ### targets -/
abbrev TG := V → St → Hp → (St → Hp → Prop) → Prop
abbrev TGs := List V → St → Hp → (St → Hp → Prop) → Prop
def PG (X : Cx) (target : Expr) (t : TG) : Prop :=
  ∀ (pins : List (Addr × Obj)) (s : Shared) (σ : St) (H : Hp) (v : V) (u : Value) (Q : St → Hp → Prop), Inv X pins σ H s → RelV v u → t v σ H Q →
    wpAny (model X.prog X.w) X.A (assign target X.env u) (fun _ s' => ∃ σ' H', Inv X pins σ' H' s' ∧ Q σ' H') X.xe s
/-- several targets, one after another -/
def PGs (X : Cx) (ts : List Expr) (t : TGs) : Prop :=
  ∀ (pins : List (Addr × Obj)) (s : Shared) (σ : St) (H : Hp) (vs : List V) (us : List Value) (Q : St → Hp → Prop), Inv X pins σ H s → Vals vs us → t vs σ H Q →
    wpAny (model X.prog X.w) X.A (assignInOrder ((assignEach ts X.env).map (·.2)) us) (fun _ s' => ∃ σ' H', Inv X pins σ' H' s' ∧ Q σ' H') X.xe s
/-- o[i] = v, by values -/
abbrev TSet := V → V → V → Hp → (Hp → Prop) → Prop
def PSet (X : Cx) (t : TSet) : Prop :=
  ∀ (pins : List (Addr × Obj)) (s : Shared) (σ : St) (H : Hp) (o i v : V) (ov iv u : Value) (Q : Hp → Prop), Inv X pins σ H s → RelV o ov → RelV i iv → RelV v u → t o i v H Q →
    wpAny (model X.prog X.w) X.A (setItem ov iv u) (fun _ s' => ∃ H', Inv X pins σ H' s' ∧ Q H') X.xe s
/-- a op= b, by values -/
abbrev TIp := V → V → Hp → VK → Prop
def PIp (X : Cx) (op : Operator) (t : TIp) : Prop :=
  ∀ (pins : List (Addr × Obj)) (s : Shared) (σ : St) (H : Hp) (x y : V) (v u : Value) (Q : VK), Inv X pins σ H s → RelV x v → RelV y u → t x y H Q →
    wpAny (model X.prog X.w) X.A (inplaceOp op v u) (EP X pins σ Q) X.xe s
section
variable {X : Cx} {pos : Pos}
def gName (i : Nat) : TG := fun v σ H Q => Q (σ.set i (some v)) H
theorem pg_name {i : Nat} {x : Str} (hN : X.N.Nodup) (hi : X.N[i]? = some x) (hx : Loc X.env.scope x) (hf : X.fn x = true ∨ X.env.scope.names.lookup x = some .local := by first | exact .inl rfl | exact .inr rfl | assumption) : PG X (.Name x pos) (gName i) := by
  intro pins s σ H v u Q I r h
  exact wpAny_assign_Name (store_ok I hN hi hx r (fun s' I' => ⟨_, H, I', h⟩) hf)
def gNil : TGs := fun vs σ H Q => vs = [] ∧ Q σ H
def gCons (t : TG) (u : TGs) : TGs := fun vs σ H Q => ∃ v r, vs = v :: r ∧ t v σ H fun σ' H' => u r σ' H' Q
theorem pgs_nil : PGs X [] gNil := by
  intro pins s σ H vs us Q I r h
  obtain ⟨e, h⟩ := h
  subst e
  cases r
  exact assignInOrder_nil ⟨σ, H, I, h⟩
theorem pgs_cons {e : Expr} {es : List Expr} {t : TG} {u : TGs} (h1 : PG X e t) (h2 : PGs X es u)
    (hs : (assignEach (e :: es) X.env).map (·.2) = assign e X.env :: (assignEach es X.env).map (·.2) := by rfl) : PGs X (e :: es) (gCons t u) := by
  intro pins s σ H vs us Q I r h
  obtain ⟨v, vr, e1, h⟩ := h
  subst e1
  cases r with
  | cons r rr =>
    rw [hs]
    refine assignInOrder_cons (thn (h1 pins s σ H _ _ _ I r h) fun _ s1 ⟨σ1, H1, I1, q1⟩ => ?_)
    exact h2 pins s1 σ1 H1 _ _ Q I1 rr q1
/-- (a, b, ..) = a tuple of that length -/
def gTup (K : PySem.W.Frag) (n : Nat) (t : TGs) : TG := fun v σ H Q => ∃ a xs, v = .ref a ∧ SqT K H a xs ∧ xs.length = n ∧ t xs σ H Q
theorem pg_tup {es : List Expr} {k : Nat} {t : TGs} {n : Nat} (hc : X.calm = true) (h : PGs X es t)
    (hn : (assignEach es X.env).length = n := by rfl) (hst : (assignEach es X.env).findIdx? (·.1) = none := by rfl) : PG X (.Tuple es k pos) (gTup X.K n t) := by
  intro pins s σ H v u Q I r hw
  obtain ⟨a, xs, e1, hq, hl, hw⟩ := hw
  subst e1
  cases r
  obtain ⟨its, rv, ht, hz⟩ := I.tuple hq
  refine assign_Tuple_tuple (I.ok.hd hc) ht (by simp [hn, ← hl, rv.length]) hst fun h' hx => ?_
  have I1 : Inv X pins σ H { s with heap := h' } := I.kept (t' := s.toks) fun b o e => hx b o (Nat.ne_of_lt (Heap.lt_size e)) e
  exact h pins _ σ H xs _ Q I1 (by simpa using rv) hw
/-- o[i] = .. -/
def gSub (to ti : TE) (t : TSet) : TG := fun v σ H Q => to σ H fun o H1 => ti σ H1 fun i H2 => t o i v H2 fun H3 => Q σ H3
/-- target = value -/
def tAsg (te : TE) (g : TG) : TS := fun D σ H => te σ H fun x H1 => g x σ H1 D.nx
theorem ps_asg {tg e : Expr} {te : TE} {g : TG} (he : PE X e te) (hg : PG X tg g) (hs : swapsWithSole [tg] e pos.line X.env = pure false := by rfl) (hw : swappedStores [tg] e X.env = pure none := by rfl)
    (h1 : (assignEach [tg] X.env).map (·.2) = [assign tg X.env] := by rfl) : PS X (.Assign [tg] e pos) (tAsg te g) := by
  intro pins s σ H D I h
  refine wpAny_Assign_stores (thn (he pins s σ H _ I h) fun v s1 ⟨x, H1, I1, r1, q1⟩ => ?_) hs hw
  rw [h1]
  exact thn (hg pins s1 σ H1 x v _ I1 r1 q1) fun _ s2 q => q
/-- name = value -/
theorem ps_set {i : Nat} {x : Str} {e : Expr} {te : TE} {pos' : Pos} (hN : X.N.Nodup) (hi : X.N[i]? = some x) (hx : Loc X.env.scope x) (he : PE X e te) (hs : swapsWith e (some (.Name x pos')) pos.line X.env = pure false := by rfl) (hf : X.fn x = true ∨ X.env.scope.names.lookup x = some .local := by first | exact .inl rfl | exact .inr rfl | assumption) :
    PS X (.Assign [.Name x pos'] e pos) (tAsg te (gName i)) := by
  intro pins s σ H D I h
  refine wpAny_Assign_Name (thn (he pins s σ H _ I h) fun v s1 ⟨y, H1, I1, r1, q1⟩ => ?_) hs
  exact store_ok I1 hN hi hx r1 (fun s2 I2 => ⟨_, H1, I2, q1⟩) hf
/-- a, b = x, y with plain local names: stored from the right; the pair itself is not tracked (the opening rows as in PyProof/Rows/TupAssign.lean:23) -/
def tPar (i j : Nat) (ta : TA) : TS := fun D σ H => ta σ H fun vs H1 => ∃ v w, vs = [v, w] ∧ D.nx ((σ.set i (some v)).set j (some w)) H1
/-- name op= e -/
def tAug (i : Nat) (te : TE) (ti : TIp) : TS := fun D σ H => ∃ x, σ[i]? = some (some x) ∧ te σ H fun y H1 => ti x y H1 fun z H2 => D.nx (σ.set i (some z)) H2
/-- o[i] op= e -/
def tAugS (to ti te : TE) (tget : V → V → Hp → VK → Prop) (tip : TIp) (tset : TSet) : TS := fun D σ H => to σ H fun o H1 => ti σ H1 fun i H2 => tget o i H2 fun x H3 => te σ H3 fun y H4 => tip x y H4 fun z H5 => tset o i z H5 fun H6 => D.nx σ H6
/-- o[i], by values -/
def PGet (X : Cx) (t : V → V → Hp → VK → Prop) : Prop :=
  ∀ (pins : List (Addr × Obj)) (s : Shared) (σ : St) (H : Hp) (o i : V) (ov iv : Value) (Q : VK), Inv X pins σ H s → RelV o ov → RelV i iv → t o i H Q →
    wpAny (model X.prog X.w) X.A (getItem ov iv) (EP X pins σ Q) X.xe s
/-- ints -/
def ipI (f : Int → Int → Int) : TIp := fun x y H Q => ∃ i j, x = .int i ∧ y = .int j ∧ Q (.int (f i j)) H
end

/-! ### while -/
section
variable {X : Cx} {pos : Pos}
/-- the invariant W with its measure -/
def tWhile (c : TT) (tb : TS) : TS := fun D σ H => ∃ W : Nat → St → Hp → Prop, (∃ m, W m σ H) ∧ ∀ m σ H, W m σ H →
  c σ H fun b H1 => if b = true then ∃ N : St → Hp → Prop, (∀ σ' H', N σ' H' → ∃ m', m' < m ∧ W m' σ' H') ∧ tb { D with nx := N, ct := N, bk := D.nx } σ H1 else D.nx σ H1
theorem ps_while {c : Expr} {body : List Stmt} {tc : TT} {tb : TS} (hp : PassesOwn (model X.prog X.w) X.A X.env X.xe) (hc : PT X c tc) (hb : PSs X body tb) : PS X (.While c body [] pos) (tWhile tc tb) := by
  intro pins s σ H D I h
  obtain ⟨W, ⟨m0, w0⟩, turn⟩ := h
  refine wpAny_While (codeAny_whileLoop (fun n s' => ∃ σ' H', Inv X pins σ' H' s' ∧ W n σ' H') ?_ m0 ⟨σ, H, I, w0⟩)
  rintro n s1 ⟨σ1, H1, I1, w1⟩
  refine wpAny_passesOwn hp (thn (hc pins s1 σ1 H1 _ I1 (turn n σ1 H1 w1)) fun b s2 ⟨H2, I2, q2⟩ => ?_)
  cases b with
  | true =>
    obtain ⟨N, hN, q2⟩ := q2
    rw [if_pos rfl]
    refine wpAny_passesOwn hp (thn (hb pins s2 σ1 H2 _ I2 q2) fun f s3 q3 => ?_)
    cases f with
    | next =>
      obtain ⟨σ3, H3, I3, n3⟩ := q3
      obtain ⟨m', hm, w3⟩ := hN σ3 H3 n3
      exact ⟨m', hm, σ3, H3, I3, w3⟩
    | cont =>
      obtain ⟨σ3, H3, I3, n3⟩ := q3
      obtain ⟨m', hm, w3⟩ := hN σ3 H3 n3
      exact ⟨m', hm, σ3, H3, I3, w3⟩
    | brk => exact q3
    | ret v => exact q3
  | false =>
    rw [if_neg Bool.false_ne_true]
    exact wpAny_execs_nil ⟨σ1, H2, I2, q2⟩
end

/-! ### what a loop or a comprehension walks -/
/-- at turn i: it yields x (the heap may grow), or it stops -/
structure It where
  go : Nat → Hp → Prop
  yld : Nat → Hp → V → Hp → Prop
  stop : Nat → Hp → Prop
/-- the iterator's own objects may turn: they are not the frame's, not pinned, younger than the entry (or a comprehension's own) -/
def FpOk (X : Cx) (pins : List (Addr × Obj)) (H : Hp) (b : Addr) : Prop :=
  H b = none ∧ b ≠ X.env.locals ∧ b ∉ X.fs ∧ (b ∈ X.ex ∨ X.s₀.heap.objs.size ≤ b) ∧ (∀ x c, X.env.cells.lookup x = some c → c ≠ b) ∧ ∀ p ∈ X.pn ++ pins, p.1 ≠ b
theorem Inv.fpOk {X : Cx} {pins : List (Addr × Obj)} {σ : St} {H H' : Hp} {s : Shared} {b : Addr} (I : Inv X pins σ H s) (hb : s.heap.objs.size ≤ b) (hn : H' b = none) : FpOk X pins H' b := by
  refine ⟨hn, Nat.ne_of_gt (Nat.lt_of_lt_of_le I.lt hb), I.nofs hb, .inr (Nat.le_trans I.sz hb), fun x c e z => ?_, fun p hp z => ?_⟩
  · obtain ⟨v, q⟩ := I.cell x c e
    exact absurd (Nat.lt_of_lt_of_le q.lt (by rw [z]; exact hb)) (Nat.lt_irrefl _)
  · exact absurd (Nat.lt_of_lt_of_le (Heap.lt_size (I.pin p hp).1) (by rw [z]; exact hb)) (Nat.lt_irrefl _)
structure Turn (P : Program) (w : World) (K : PySem.W.Frag) (tg : Expr) (J : It) (fp : List Addr) (it : Addr) (tn : Nat → Heap → Prop) : Prop where
  mem : it ∈ fp
  obj : ∀ i h, tn i h → ∀ b ∈ fp, ∃ o, h.get? b = some o ∧ ∀ v, o.data ≠ .cell v
  keep : ∀ i h h', tn i h → (∀ b ∈ fp, ∀ o, h.get? b = some o → h'.get? b = some o) → tn i h'
  item : ∀ (X : Cx), X.prog = P → X.w = w → X.K = K → X.calm = true → ∀ (i : Nat) (pins : List (Addr × Obj)) (s : Shared) (σ : St) (H : Hp) (E : Value → Shared → Prop), Inv X pins σ H s → (∀ b ∈ fp, FpOk X pins H b) → tn i s.heap → J.go i H →
    wpAny (model P w) X.A (pyNext (.ref it)) (fun r s1 => ∃ u, r = some u ∧
      wpAny (model P w) X.A (letOwnedTupleGo tg (.ref it) u) (fun _ s2 => ∃ x H', Inv X pins σ H' s2 ∧ RelV x u ∧ J.yld i H x H' ∧ tn (i + 1) s2.heap ∧ ∀ b ∈ fp, H' b = none) E s1) E s
  done : ∀ (X : Cx), X.prog = P → X.w = w → X.K = K → X.calm = true → ∀ (i : Nat) (pins : List (Addr × Obj)) (s : Shared) (σ : St) (H : Hp) (E : Value → Shared → Prop), Inv X pins σ H s → (∀ b ∈ fp, FpOk X pins H b) → tn i s.heap → J.stop i H →
    wpAny (model P w) X.A (pyNext (.ref it)) (fun r s1 => r = none ∧ Inv X pins σ H s1) E s
  self : ∀ (A : Around) (i : Nat) (s : Shared) (Q : Value → Shared → Prop) (E : Value → Shared → Prop), tn i s.heap → Q (.ref it) s → wpAny (model P w) A (pyIter (.ref it)) Q E s
abbrev TI := St → Hp → (It → Hp → Prop) → Prop
/-- an iterator has come -/
def PIE (X : Cx) (pins : List (Addr × Obj)) (σ : St) (tg : Expr) (R : It → Hp → Prop) (itv : Value) (s2 : Shared) : Prop :=
  ∃ (it : Addr) (fp : List Addr) (tn : Nat → Heap → Prop) (J : It) (H' : Hp), itv = .ref it ∧ Inv X pins σ H' s2 ∧ Turn X.prog X.w X.K tg J fp it tn ∧ tn 0 s2.heap ∧ (∀ b ∈ fp, FpOk X pins H' b) ∧ R J H'
def PI (X : Cx) (tg iter : Expr) (wi : TI) : Prop :=
  ∀ (pins : List (Addr × Obj)) (s : Shared) (σ : St) (H : Hp) (R : It → Hp → Prop), Inv X pins σ H s → wi σ H R →
    wpAny (model X.prog X.w) X.A (eval iter X.env) (fun v s1 => wpAny (model X.prog X.w) X.A (pyIter v) (PIE X pins σ tg R) X.xe s1) X.xe s

/-- the step ahead of the store is nothing for an iterator that keeps no tuple -/
theorem go_of {M : Model} {A : Around} {E : Value → Shared → Prop} {s : Shared} {tg : Expr} {it : Addr} {u : Value} {o : Obj} {n : String} {vs : Array Value} {Q : Unit → Shared → Prop} (ho : s.heap.get? it = some o) (hc : o.cls = .type n) (hd : o.data = .fields vs)
    (hn : ["enumerate", "zip", "dict_itemiterator", "dict_reverseitemiterator", "odict_iterator", "itertools.zip_longest", "itertools.pairwise"].contains n = false) (hQ : Q () s) : wpAny M A (letOwnedTupleGo tg (.ref it) u) Q E s := by
  unfold letOwnedTupleGo
  cases tg <;> first
    | exact wpAny_pure hQ
    | (cases u <;> first
        | exact wpAny_pure hQ
        | (refine wpAny_bind (wpAny_load ho ?_)
           rw [hc, hd]
           show wpAny M A (if (["enumerate", "zip", "dict_itemiterator", "dict_reverseitemiterator", "odict_iterator", "itertools.zip_longest", "itertools.pairwise"].contains n && vs[0]? == some (rawInt _)) = true then _ else _) Q E s
           rw [if_neg (by intro h; rw [hn, Bool.false_and] at h; cases h)]
           exact wpAny_pure hQ))

/-- the list at a, as it stands at each turn (a loop may append to it) -/
def Itl (K : PySem.W.Frag) (a : Addr) : It :=
  ⟨fun i H => ∃ xs x, SqL K H a xs ∧ xs[i]? = some x, fun i H x H' => H' = H ∧ ∀ xs, SqL K H a xs → xs[i]? = some x, fun i H => ∃ xs, SqL K H a xs ∧ xs.length ≤ i⟩
def Itt (K : PySem.W.Frag) (a : Addr) : It :=
  ⟨fun i H => ∃ xs x, SqT K H a xs ∧ xs[i]? = some x, fun i H x H' => H' = H ∧ ∀ xs, SqT K H a xs → xs[i]? = some x, fun i H => ∃ xs, SqT K H a xs ∧ xs.length ≤ i⟩
/-- lo, lo + 1, .. (n of them) -/
def Itr (lo : Int) (n : Nat) : It := ⟨fun i _ => i < n, fun i H x H' => H' = H ∧ x = .int (lo + i), fun i _ => n ≤ i⟩
theorem turn_tuple {P : Program} {w : World} {K : PySem.W.Frag} {tg : Expr} (a it : Addr) : Turn P w K tg (Itt K a) [it] it (fun i h => h.IsTupleIter it a i) where
  mem := by simp
  obj := fun i h st b hb => by
    have e : b = it := by simpa using hb
    subst e
    obtain ⟨o, e, c, d⟩ := st
    exact ⟨o, e, fun v z => by rw [d] at z; cases z⟩
  keep := fun i h h' st k => st.at fun o e => k it (by simp) o e
  item := by
    intro X hP hw hK hc i pins s σ H E I hf st hg
    subst hP hw hK
    obtain ⟨xs, x, hq, hx⟩ := hg
    obtain ⟨its, rv, p, hz⟩ := I.tuple hq
    obtain ⟨u, hu, ru⟩ := rv.get hx
    obtain ⟨f0, f1, f2, f3, f4, f5⟩ := hf it (by simp)
    refine wpAny_pyNext_tuple_item st (show s.heap.IsTuple a its.toArray from p) (x := u) (by simpa using hu) fun h' st' sb => ?_
    have I1 : Inv X pins σ H { s with heap := h' } := I.turned (t' := s.toks) (fun b o hb e => (sb.2 b hb).trans e) f0 f1 f3 f4 f5
    obtain ⟨o, e, c, d⟩ := id st'
    exact ⟨u, rfl, go_of (s := { s with heap := h' }) e c d (by decide) ⟨x, H, I1, ru, ⟨rfl, fun ys hy => by rw [I.tuple_inj hy hq]; exact hx⟩, st', fun b hb => (hf b hb).1⟩⟩
  done := by
    intro X hP hw hK hc i pins s σ H E I hf st hg
    subst hP hw hK
    obtain ⟨xs, hq, hx⟩ := hg
    obtain ⟨its, rv, p, hz⟩ := I.tuple hq
    obtain ⟨f0, f1, f2, f3, f4, f5⟩ := hf it (by simp)
    have hl := rv.length
    exact wpAny_pyNext_tuple_end (I.ok.hd hc) st (show s.heap.IsTuple a its.toArray from p) (by simp; omega) fun h' eb => ⟨rfl, I.turned (t' := s.toks) (fun b o hb e => eb b o hb e) f0 f1 f3 f4 f5⟩
  self := fun _ _ _ _ _ st h => wpAny_pyIter_tupleiter st h
theorem turn_range {P : Program} {w : World} {K : PySem.W.Frag} {tg : Expr} (it : Addr) (lo : Int) (n : Nat) : Turn P w K tg (Itr lo n) [it] it (fun i h => IsRangeIter h it (lo + (i : Nat) * 1) ((n : Int) - (i : Nat)) 1) where
  mem := by simp
  obj := fun i h st b hb => by
    have e : b = it := by simpa using hb
    subst e
    exact ⟨_, st, fun v z => by
      have z' : Data.fields _ = Data.cell v := z
      cases z'⟩
  keep := fun i h h' st k => k it (by simp) _ st
  item := by
    intro X hP hw hK hc i pins s σ H E I hf st hg
    subst hP hw hK
    obtain ⟨f0, f1, f2, f3, f4, f5⟩ := hf it (by simp)
    have W := Walks.range (prog := X.prog) (w := X.w) (I.ok.hd hc) it lo 1 n
    refine W.item i s _ _ hg st fun v h' tk hv st' kk => ?_
    obtain ⟨t, rfl⟩ := hv
    have I1 : Inv X pins σ H { s with heap := h', toks := tk } := I.turned (fun b o hb e => kk b o (by simpa using hb) e) f0 f1 f3 f4 f5
    refine ⟨_, rfl, go_of (s := { s with heap := h', toks := tk }) (n := "range_iterator") st' rfl rfl (by decide) ⟨.int (lo + i), H, I1, ⟨t, ?_⟩, ⟨rfl, rfl⟩, st', fun b hb => (hf b hb).1⟩⟩
    rw [Int.mul_one]
  done := by
    intro X hP hw hK hc i pins s σ H E I hf st hg
    subst hP hw hK
    obtain ⟨f0, f1, f2, f3, f4, f5⟩ := hf it (by simp)
    exact wpAny_pyNext_range_end (I.ok.hd hc) st (by have : n ≤ i := hg; omega) fun h' eb => ⟨rfl, I.turned (t' := s.toks) (fun b o hb e => eb b o hb e) f0 f1 f3 f4 f5⟩
  self := fun _ _ _ _ _ st h => wpAny_pyIter_rangeiter st h
end L2

namespace L2
open PySem PySem.Spec PyProof.Rows
section
variable {X : Cx} {tg : Expr}
def iList (K : PySem.W.Frag) (tl : TE) : TI := fun σ H R => tl σ H fun x H1 => ∃ a, x = .ref a ∧ (∃ xs, SqL K H1 a xs) ∧ R (Itl K a) H1
def iTup (K : PySem.W.Frag) (tl : TE) : TI := fun σ H R => tl σ H fun x H1 => ∃ a, x = .ref a ∧ (∃ xs, SqT K H1 a xs) ∧ R (Itt K a) H1
theorem pi_tup {l : Expr} {tl : TE} (hl : PE X l tl) : PI X tg l (iTup X.K tl) := by
  intro pins s σ H R I h
  refine thn (hl pins s σ H _ I h) fun v s1 ⟨x, H1, I1, r1, q1⟩ => ?_
  obtain ⟨a, e, ⟨xs, hq⟩, q⟩ := q1
  subst e
  cases r1
  obtain ⟨its, rv, p, hz⟩ := I1.tuple hq
  refine wpAny_pyIter_tuple (show s1.heap.IsTuple a its.toArray from p) ?_
  refine ⟨s1.heap.objs.size, [s1.heap.objs.size], _, _, H1, rfl, I1.kept (t' := s1.toks) fun b o e => Heap.get?_push_of_some _ e, turn_tuple a _, ⟨_, Heap.get?_push_size _ rfl, rfl, rfl⟩, fun b hb => ?_, q⟩
  have e : b = s1.heap.objs.size := by simpa using hb
  subst e
  exact I1.fpOk (Nat.le_refl _) (I1.hok.fresh (Nat.le_refl _))
/-- a range object just made, walked -/
theorem range_it {pins : List (Addr × Obj)} {σ : St} {H : Hp} {s : Shared} {R : It → Hp → Prop} {E : Value → Shared → Prop} {lo hi : Int} {t u v : Tok} {tk : Nat} (I : Inv X pins σ H s) (h1 : -(2 ^ 62) ≤ lo) (h2 : lo < 2 ^ 62) (h3 : -(2 ^ 62) ≤ hi) (h4 : hi < 2 ^ 62)
    (q : R (Itr lo (hi - lo).toNat) H) : wpAny (model X.prog X.w) X.A (pyIter (.ref s.heap.objs.size)) (PIE X pins σ tg R) E { s with heap := s.heap.push { cls := .type "range", data := .fields #[.int lo t, .int hi u, .int 1 v] }, toks := tk } := by
  refine wpAny_pyIter_range (IsRange.new ..) (small_one h1 h2 h3 h4) ?_
  have I1 : Inv X pins σ H { s with heap := s.heap.push { cls := .type "range", data := .fields #[.int lo t, .int hi u, .int 1 v] }, toks := tk } := I.kept fun b o e => Heap.get?_push_of_some _ e
  refine ⟨(s.heap.push { cls := .type "range", data := .fields #[.int lo t, .int hi u, .int 1 v] }).objs.size, [(s.heap.push { cls := .type "range", data := .fields #[.int lo t, .int hi u, .int 1 v] }).objs.size], _, _, H, rfl,
    I1.kept (t' := tk) fun b o e => Heap.get?_push_of_some _ e, turn_range _ lo (hi - lo).toNat, ?_, fun b hb => ?_, q⟩
  · have e1 : lo + ((0 : Nat) : Int) * 1 = lo := by simp
    have e2 : (((hi - lo).toNat : Nat) : Int) - ((0 : Nat) : Int) = Builtin.Range.rangeSize lo hi 1 := by rw [rangeSize_one]; split <;> omega
    show IsRangeIter _ _ (lo + ((0 : Nat) : Int) * 1) ((((hi - lo).toNat : Nat) : Int) - ((0 : Nat) : Int)) 1
    rw [e1, e2]
    exact Heap.get?_push_size _ rfl
  · have e : b = (s.heap.push { cls := .type "range", data := .fields #[.int lo t, .int hi u, .int 1 v] }).objs.size := by simpa using hb
    subst e
    exact I1.fpOk (Nat.le_refl _) (I1.hok.fresh (Nat.le_refl _))
def iRng1 (ta : TA) : TI := fun σ H R => ta σ H fun vs H1 => ∃ j : Int, vs = [.int j] ∧ -(2 ^ 62) ≤ j ∧ j < 2 ^ 62 ∧ R (Itr 0 j.toNat) H1
def iRng2 (ta : TA) : TI := fun σ H R => ta σ H fun vs H1 => ∃ i j : Int, vs = [.int i, .int j] ∧ (-(2 ^ 62) ≤ i ∧ i < 2 ^ 62 ∧ -(2 ^ 62) ≤ j ∧ j < 2 ^ 62) ∧ R (Itr i (j - i).toNat) H1
theorem pi_range1 {a : Expr} {ta : TA} {p pos : Pos} (hg : Gl X "range") (hm : X.mg "range" = none) (ha : PA X [a] ta) (hs : starEach [a] X.env = [(false, eval a X.env)] := by rfl) : PI X tg (.Call (.Name "range" p) [a] [] pos) (iRng1 ta) := by
  intro pins s σ H R I h
  refine Call_ (ld_blt I hg hm boot_range (PyProof.Rows.callWith_type1 (thn (ha pos pins s σ H _ I h) fun us s1 ⟨vs, H1, I1, r1, q1⟩ => ?_) hs rfl))
  obtain ⟨j, e, q1, q2, q⟩ := q1
  subst e
  cases r1 with
  | cons r rr =>
    cases rr
    obtain ⟨t, rfl⟩ := r
    exact call_range_1 (range_it I1 (by omega) (by omega) q1 q2 (by simpa using q))
/-! ### for -/
/-- W: the invariant by the turn and a measure; N: what the body is to reach -/
def tFor (wi : TI) (g : TG) (tb : TS) : TS := fun D σ H => wi σ H fun J H1 => ∃ W : Nat → Nat → St → Hp → Prop, (∃ m, W 0 m σ H1) ∧ ∀ i m σ H, W i m σ H →
  (J.stop i H ∧ D.nx σ H) ∨ (J.go i H ∧ ∃ N : St → Hp → Prop, (∀ σ' H', N σ' H' → ∃ m', m' < m ∧ W (i + 1) m' σ' H') ∧ ∀ x H', J.yld i H x H' → g x σ H' fun σ2 H2 => tb { D with nx := N, ct := N, bk := D.nx } σ2 H2)
/-- the records at fp as they stand -/
def pinsAt (fp : List Addr) (h : Heap) : List (Addr × Obj) := fp.filterMap fun b => (h.get? b).map fun o => (b, o)
theorem mem_pinsAt {fp : List Addr} {h : Heap} {b : Addr} {o : Obj} (hb : b ∈ fp) (e : h.get? b = some o) : (b, o) ∈ pinsAt fp h := List.mem_filterMap.mpr ⟨b, hb, by rw [e]; rfl⟩
theorem of_pinsAt {fp : List Addr} {h : Heap} {p : Addr × Obj} (hp : p ∈ pinsAt fp h) : p.1 ∈ fp ∧ h.get? p.1 = some p.2 := by
  obtain ⟨b, hb, e⟩ := List.mem_filterMap.mp hp
  cases q : h.get? b with
  | none => rw [q] at e; cases e
  | some o =>
    rw [q] at e
    have e' : (b, o) = p := Option.some.inj e
    subst e'
    exact ⟨hb, q⟩
theorem Inv.pinned {pins : List (Addr × Obj)} {σ : St} {H : Hp} {s : Shared} {fp : List Addr} (I : Inv X pins σ H s) (hf : ∀ b ∈ fp, FpOk X pins H b) (ho : ∀ b ∈ fp, ∃ o, s.heap.get? b = some o ∧ ∀ v, o.data ≠ .cell v) : Inv X (pins ++ pinsAt fp s.heap) σ H s :=
  I.pins_of fun p hp => (List.mem_append.mp hp).elim (fun z => I.pin p (List.mem_append_right _ z)) fun z => by
    obtain ⟨hb, e⟩ := of_pinsAt z
    obtain ⟨f0, f1, f2, _⟩ := hf p.1 hb
    obtain ⟨o, e', d⟩ := ho p.1 hb
    rw [e] at e'; cases e'
    exact ⟨e, f0, f1, f2, d⟩
theorem Inv.unpinned {pins pl : List (Addr × Obj)} {σ : St} {H : Hp} {s : Shared} (I : Inv X (pins ++ pl) σ H s) : Inv X pins σ H s := I.pins_of fun p hp => I.pin p (List.mem_append_right _ (List.mem_append_left _ hp))
theorem ps_for {iter : Expr} {body : List Stmt} {wi : TI} {g : TG} {tb : TS} {pos : Pos} (hp : PassesOwn (model X.prog X.w) X.A X.env X.xe) (hc : X.calm = true) (hi : PI X tg iter wi) (hg : PG X tg g) (hb : PSs X body tb)
    (hs : ∀ x, foldedSetIterable iter X.env x = pure x := by intro _; rfl) : PS X (.For tg iter body [] pos) (tFor wi g tb) := by
  intro pins s σ H D I h
  refine wpAny_For (thn (hi pins s σ H _ I h) fun v s1 h1 => thn h1 fun itv s2 h2 => ?_) hs
  obtain ⟨it, fp, tn, J, H2, e, I2, T, st2, f2, W, ⟨m0, w0⟩, turn⟩ := h2
  subst e
  -- what stays true of the iterator's objects through the loop
  have stat : ∀ {H' : Hp}, (∀ b ∈ fp, H' b = none) → ∀ b ∈ fp, FpOk X pins H' b := fun hn b hb => ⟨hn b hb, (f2 b hb).2⟩
  refine codeAny_forLoop_any (fun n s' => ∃ i σ' H', Inv X pins σ' H' s' ∧ tn i s'.heap ∧ (∀ b ∈ fp, H' b = none) ∧ W i n σ' H') ?_ m0 ⟨0, σ, H2, I2, st2, fun b hb => (f2 b hb).1, w0⟩
  rintro n s3 ⟨i, σ3, H3, I3, st3, fr3, w3⟩
  rcases turn i n σ3 H3 w3 with ⟨stop, qn⟩ | ⟨go, N, hN, step⟩
  · refine wpAny_passesOwn hp (thn (T.done X rfl rfl rfl hc i pins s3 σ3 H3 X.xe I3 (stat fr3) st3 stop) fun r s4 ⟨hr, I4⟩ => ?_)
    subst hr
    exact wpAny_execs_nil ⟨σ3, H3, I4, qn⟩
  · refine wpAny_passesOwn hp (thn (T.item X rfl rfl rfl hc i pins s3 σ3 H3 X.xe I3 (stat fr3) st3 go) fun r s4 ⟨u, hr, h4⟩ => ?_)
    subst hr
    refine wpAny_passesOwn hp (thn h4 fun _ s5 ⟨x, H5, I5, r5, y5, st5, fr5⟩ => ?_)
    have I5' := I5.pinned (stat fr5) (T.obj _ _ st5)
    refine wpAny_passesOwn hp (thn (hg _ s5 σ3 H5 x u _ I5' r5 (step x H5 y5)) fun _ s6 ⟨σ6, H6, I6, q6⟩ => ?_)
    refine wpAny_passesOwn hp (thn (hb _ s6 σ6 H6 _ I6 q6) fun f s7 q7 => ?_)
    have again : ∀ {σ7 : St} {H7 : Hp}, Inv X (pins ++ pinsAt fp s5.heap) σ7 H7 s7 → N σ7 H7 → ∃ m, m < n ∧ ∃ i σ' H', Inv X pins σ' H' s7 ∧ tn i s7.heap ∧ (∀ b ∈ fp, H' b = none) ∧ W i m σ' H' := fun {σ7 H7} I7 n7 => by
      obtain ⟨m', hm, w7⟩ := hN σ7 H7 n7
      refine ⟨m', hm, i + 1, σ7, H7, I7.unpinned, T.keep _ _ _ st5 fun b hb o e => (I7.pin (b, o) (List.mem_append_right _ (List.mem_append_right _ (mem_pinsAt hb e)))).1, fun b hb => ?_, w7⟩
      obtain ⟨o, e, d⟩ := T.obj _ _ st5 b hb
      exact (I7.pin (b, o) (List.mem_append_right _ (List.mem_append_right _ (mem_pinsAt hb e)))).2.1
    cases f with
    | next => obtain ⟨σ7, H7, I7, n7⟩ := q7; exact again I7 n7
    | cont => obtain ⟨σ7, H7, I7, n7⟩ := q7; exact again I7 n7
    | brk => obtain ⟨σ7, H7, I7, q7⟩ := q7; exact ⟨σ7, H7, I7.unpinned, q7⟩
    | ret v => obtain ⟨x7, σ7, H7, I7, r7, q7⟩ := q7; exact ⟨x7, σ7, H7, I7.unpinned, r7, q7⟩
end

/-! ### the forms one uses -/
theorem for_range {lo : Int} {n : Nat} {g : TG} {tb : TS} {D : Ends} {σ : St} {H : Hp} (Pv : Nat → St → Hp → Prop) (h0 : Pv 0 σ H)
    (hs : ∀ i σ H, i < n → Pv i σ H → g (.int (lo + i)) σ H fun σ2 H2 => tb { D with nx := Pv (i + 1), ct := Pv (i + 1), bk := D.nx } σ2 H2) (hd : ∀ σ H, Pv n σ H → D.nx σ H) :
    ∃ W : Nat → Nat → St → Hp → Prop, (∃ m, W 0 m σ H) ∧ ∀ i m σ H, W i m σ H →
      ((Itr lo n).stop i H ∧ D.nx σ H) ∨ ((Itr lo n).go i H ∧ ∃ N : St → Hp → Prop, (∀ σ' H', N σ' H' → ∃ m', m' < m ∧ W (i + 1) m' σ' H') ∧ ∀ x H', (Itr lo n).yld i H x H' → g x σ H' fun σ2 H2 => tb { D with nx := N, ct := N, bk := D.nx } σ2 H2) := by
  refine ⟨fun i m σ H => m = n - i ∧ i ≤ n ∧ Pv i σ H, ⟨n, by simp, Nat.zero_le _, h0⟩, ?_⟩
  rintro i m σ H ⟨rfl, hi, p⟩
  by_cases hlt : i < n
  · refine .inr ⟨hlt, Pv (i + 1), fun σ' H' p' => ⟨n - (i + 1), by omega, rfl, hlt, p'⟩, fun x H' y => ?_⟩
    obtain ⟨e, y⟩ := y
    subst e y
    exact hs i σ _ hlt p
  · have e : i = n := by omega
    subst e
    exact .inl ⟨Nat.le_refl _, hd σ H p⟩
end L2

namespace L2
open PySem PySem.Spec PyProof.Rows

abbrev R2 := V → V → Hp → VK → Prop
/-- a two-place operation on values: f is binaryOp op, inplaceOp op or compareOp op -/
def OpR (X : Cx) (f : Value → Value → Sem Value) (r : R2) : Prop :=
  ∀ (pins : List (Addr × Obj)) (s : Shared) (σ : St) (H : Hp) (x y : V) (v u : Value) (Q : VK), Inv X pins σ H s → RelV x v → RelV y u → r x y H Q →
    wpAny (model X.prog X.w) X.A (f v u) (EP X pins σ Q) X.xe s
/-- a one-place operation -/
def UnR (X : Cx) (f : Value → Sem Value) (r : V → Hp → VK → Prop) : Prop :=
  ∀ (pins : List (Addr × Obj)) (s : Shared) (σ : St) (H : Hp) (x : V) (v : Value) (Q : VK), Inv X pins σ H s → RelV x v → r x H Q →
    wpAny (model X.prog X.w) X.A (f v) (EP X pins σ Q) X.xe s
/-- a call of a value that is known (a builtin, a type) with values -/
def CallR (X : Cx) (f : Value) (r : List V → Hp → VK → Prop) : Prop :=
  ∀ (pins : List (Addr × Obj)) (s : Shared) (σ : St) (H : Hp) (xs : List V) (us : List Value) (Q : VK), Inv X pins σ H s → Vals xs us → r xs H Q →
    wpAny (model X.prog X.w) X.A (call f us) (EP X pins σ Q) X.xe s
/-- a value's truth -/
def TruR (X : Cx) (r : V → Hp → (Bool → Hp → Prop) → Prop) : Prop :=
  ∀ (pins : List (Addr × Obj)) (s : Shared) (σ : St) (H : Hp) (x : V) (v : Value) (Q : Bool → Hp → Prop), Inv X pins σ H s → RelV x v → r x H Q →
    wpAny (model X.prog X.w) X.A (truthy v) (TP X pins σ Q) X.xe s

def tOp (r : R2) (ta tb : TE) : TE := fun σ H Q => ta σ H fun x H1 => tb σ H1 fun y H2 => r x y H2 Q
def tUn (r : V → Hp → VK → Prop) (ta : TE) : TE := fun σ H Q => ta σ H fun x H1 => r x H1 Q
/-- ints in, under C, and a value out -/
def rI (C : Int → Int → Prop) (g : Int → Int → V) : R2 := fun x y H Q => ∃ i j, x = .int i ∧ y = .int j ∧ C i j ∧ Q (g i j) H
def rI0 (g : Int → Int → V) : R2 := fun x y H Q => ∃ i j, x = .int i ∧ y = .int j ∧ Q (g i j) H
def rU (g : Int → V) : V → Hp → VK → Prop := fun x H Q => ∃ i, x = .int i ∧ Q (g i) H

section
variable {X : Cx} {a b c : Expr} {ta tb tc : TE} {pos : Pos}

theorem binT (ha : PE X a ta) (hb : PE X b tb) {pins : List (Addr × Obj)} {s : Shared} {σ : St} {H : Hp} {R : V → V → Hp → Prop} (I : Inv X pins σ H s)
    (h : ta σ H fun x H1 => tb σ H1 fun y H2 => R x y H2) {Q : Value → Shared → Prop} {f : Value → Value → Sem Value}
    (hf : ∀ v u s2 x y H2, Inv X pins σ H2 s2 → RelV x v → RelV y u → R x y H2 → wpAny (model X.prog X.w) X.A (f v u) Q X.xe s2) :
    wpAny (model X.prog X.w) X.A (eval a X.env) (fun v s₁ => wpAny (model X.prog X.w) X.A (eval b X.env) (fun u s₂ => wpAny (model X.prog X.w) X.A (f v u) Q X.xe s₂) X.xe s₁) X.xe s := by
  refine thn (ha pins s σ H _ I h) fun v s1 ⟨x, H1, I1, r1, q1⟩ => ?_
  refine thn (hb pins s1 σ H1 _ I1 q1) fun u s2 ⟨y, H2, I2, r2, q2⟩ => ?_
  exact hf v u s2 x y H2 I2 r1 r2 q2

theorem pe_op {op : Operator} {r : R2} (ho : OpR X (binaryOp op) r) (ha : PE X a ta) (hb : PE X b tb) : PE X (.BinOp a op b pos) (tOp r ta tb) := by
  intro pins s σ H Q I h
  exact wpAny_BinOp (binT ha hb I h fun v u s2 x y H2 I2 rx ry q => ho pins s2 σ H2 x y v u Q I2 rx ry q)
theorem pe_un {op : UnaryOp} {r : V → Hp → VK → Prop} (ho : UnR X (unaryOp op) r) (ha : PE X a ta) : PE X (.UnaryOp op a pos) (tUn r ta) := by
  intro pins s σ H Q I h
  exact UnaryOp_ (thn (ha pins s σ H _ I h) fun v s1 ⟨x, H1, I1, r1, q1⟩ => ho pins s1 σ H1 x v Q I1 r1 q1)
/-! ### ints -/
theorem opI {f : Value → Value → Sem Value} {C : Int → Int → Prop} {g : Int → Int → Int}
    (rule : ∀ (i j : Int) (t u : Tok) (s : Shared) (Q : Value → Shared → Prop) (E : Value → Shared → Prop), C i j → Q (.int (g i j) s.toks) { s with toks := s.toks + 1 } → wpAny (model X.prog X.w) X.A (f (.int i t) (.int j u)) Q E s) :
    OpR X f (rI C fun i j => .int (g i j)) := by
  intro pins s σ H x y v u Q I rx ry h
  obtain ⟨i, j, rfl, rfl, hc, q⟩ := h
  obtain ⟨t, rfl⟩ := rx
  obtain ⟨t', rfl⟩ := ry
  exact rule i j t t' s _ _ hc ⟨.int (g i j), H, I.tok _, ⟨_, rfl⟩, q⟩
theorem opI0 {f : Value → Value → Sem Value} {g : Int → Int → Int}
    (rule : ∀ (i j : Int) (t u : Tok) (s : Shared) (Q : Value → Shared → Prop) (E : Value → Shared → Prop), Q (.int (g i j) s.toks) { s with toks := s.toks + 1 } → wpAny (model X.prog X.w) X.A (f (.int i t) (.int j u)) Q E s) :
    OpR X f (rI0 fun i j => .int (g i j)) := by
  intro pins s σ H x y v u Q I rx ry h
  obtain ⟨i, j, rfl, rfl, q⟩ := h
  obtain ⟨t, rfl⟩ := rx
  obtain ⟨t', rfl⟩ := ry
  exact rule i j t t' s _ _ ⟨.int (g i j), H, I.tok _, ⟨_, rfl⟩, q⟩
theorem opB0 {f : Value → Value → Sem Value} {g : Int → Int → Bool}
    (rule : ∀ (i j : Int) (t u : Tok) (s : Shared) (Q : Value → Shared → Prop) (E : Value → Shared → Prop), Q (.bool (g i j)) s → wpAny (model X.prog X.w) X.A (f (.int i t) (.int j u)) Q E s) :
    OpR X f (rI0 fun i j => .bl (g i j)) := by
  intro pins s σ H x y v u Q I rx ry h
  obtain ⟨i, j, rfl, rfl, q⟩ := h
  obtain ⟨t, rfl⟩ := rx
  obtain ⟨t', rfl⟩ := ry
  exact rule i j t t' s _ _ ⟨.bl (g i j), H, I, rfl, q⟩

def CDiv (i j : Int) : Prop := 0 < j ∧ j < 1073741824
def CDivN (i j : Int) : Prop := j ≠ 0 ∧ j.natAbs < 1073741824
def CPow (i j : Int) : Prop := 0 ≤ j ∧ j ≤ 1000000 ∧ i.natAbs < 2 ^ 64
def CMul (i j : Int) : Prop := (-(2 ^ 64) < i ∧ i < 2 ^ 64) ∨ (-(2 ^ 64) < j ∧ j < 2 ^ 64)
theorem CMul.ok {i j : Int} (h : CMul i j) : IntMulOk i j := by
  rcases h with ⟨h1, h2⟩ | ⟨h1, h2⟩
  · exact .of_left (intBits_le_64 h1 h2)
  · exact .of_right (intBits_le_64 h1 h2)
theorem op_add : OpR X (binaryOp .Add) (rI0 fun i j => .int (i + j)) := opI0 fun _ _ _ _ _ _ _ q => add_int q
theorem op_sub : OpR X (binaryOp .Sub) (rI0 fun i j => .int (i - j)) := opI0 fun _ _ _ _ _ _ _ q => sub_int q
theorem op_mul : OpR X (binaryOp .Mult) (rI CMul fun i j => .int (i * j)) := opI fun _ _ _ _ _ _ _ hc q => mul_int q hc.ok
/-- % by a positive divisor of any size -/
theorem op_mod : OpR X (binaryOp .Mod) (rI (fun _ j => 0 < j) fun i j => .int (i % j)) := opI fun i j _ _ _ _ _ hc q => by
  have h1 : (0 : Int) < j := hc
  exact mod_int' (by omega) (by rw [Int.fmod_eq_emod_of_nonneg i (by omega)]; exact q)
theorem op_pow : OpR X (binaryOp .Pow) (rI CPow fun i j => .int (i ^ j.toNat)) := opI fun _ _ _ _ _ _ _ hc q => pow_int_small hc.1 hc.2.1 hc.2.2 q
/-! ### bools among ints: n += (a < b) -/
end

/-! ### comparisons -/
/-- the scalars that == tells apart as data does -/
def scal : V → V → Bool
  | .non, .non => true | .non, .int _ => true | .int _, .non => true | .non, .bl _ => true | .bl _, .non => true | .non, .str _ => true | .str _, .non => true
  | .int _, .int _ => true | .bl _, .bl _ => true | .str _, .str _ => true | .byt _, .byt _ => true
  | .int _, .str _ => true | .str _, .int _ => true | .bl _, .str _ => true | .str _, .bl _ => true
  | _, _ => false
def rEq : R2 := fun x y H Q => scal x y = true ∧ Q (.bl (decide (x = y))) H
def rNe : R2 := fun x y H Q => scal x y = true ∧ Q (.bl (!decide (x = y))) H

theorem dec_int {i j : Int} : decide (V.int i = V.int j) = (i == j) := by
  rw [Bool.eq_iff_iff]
  simp
theorem dec_bl {i j : Bool} : decide (V.bl i = V.bl j) = (i == j) := by
  rw [Bool.eq_iff_iff]
  simp
theorem dec_str {i j : Str} : decide (V.str i = V.str j) = (i == j) := by
  rw [Bool.eq_iff_iff]
  simp
theorem dec_byt {i j : Array UInt8} : decide (V.byt i = V.byt j) = (i.toList == j.toList) := by
  rw [Bool.eq_iff_iff]
  cases i
  cases j
  simp

section
variable {X : Cx} {a b c : Expr} {ta tb tc : TE} {pos : Pos}
theorem fin_bl {pins : List (Addr × Obj)} {σ : St} {H : Hp} {s : Shared} {Q : VK} {k k' : Bool} (I : Inv X pins σ H s) (q : Q (.bl k) H) (e : k = k') : EP X pins σ Q (.bool k') s := by
  subst e
  exact ⟨.bl k, H, I, rfl, q⟩
theorem op_eq : OpR X (compareOp .Eq) rEq := by
  intro pins s σ H x y v u Q I rx ry h
  obtain ⟨hs, q⟩ := h
  cases x with
  | non =>
    cases rx
    cases y with
    | non => cases ry; exact PySem.EqNone.eq_none_none (fin_bl I q (by simp))
    | bl j => cases ry; exact PySem.EqNone.eq_none_bool (fin_bl I q (by simp))
    | int j => obtain ⟨t', rfl⟩ := ry; exact PySem.EqNone.eq_none_int (fin_bl I q (by simp))
    | str j => obtain ⟨t', rfl⟩ := ry; exact PySem.EqNone.eq_none_str (fin_bl I q (by simp))
    | _ => exact absurd (show false = true from hs) Bool.false_ne_true
  | bl i =>
    cases rx
    cases y with
    | non => cases ry; exact PySem.EqNone.eq_bool_none (fin_bl I q (by simp))
    | bl j => cases ry; exact eq_bool (fin_bl I q dec_bl)
    | str j => obtain ⟨t', rfl⟩ := ry; exact PySem.EqMixed.eq_bool_str (fin_bl I q (by simp))
    | _ => exact absurd (show false = true from hs) Bool.false_ne_true
  | int i =>
    obtain ⟨t, rfl⟩ := rx
    cases y with
    | non => cases ry; exact PySem.EqNone.eq_int_none (fin_bl I q (by simp))
    | int j => obtain ⟨t', rfl⟩ := ry; exact eq_int (fin_bl I q dec_int)
    | str j => obtain ⟨t', rfl⟩ := ry; exact PySem.EqMixed.eq_int_str (fin_bl I q (by simp))
    | _ => exact absurd (show false = true from hs) Bool.false_ne_true
  | str i =>
    obtain ⟨t, rfl⟩ := rx
    cases y with
    | non => cases ry; exact PySem.EqNone.eq_str_none (fin_bl I q (by simp))
    | bl j => cases ry; exact PySem.EqMixed.eq_str_bool (fin_bl I q (by simp))
    | int j => obtain ⟨t', rfl⟩ := ry; exact PySem.EqMixed.eq_str_int (fin_bl I q (by simp))
    | str j => obtain ⟨t', rfl⟩ := ry; exact eq_str (fin_bl I q dec_str)
    | _ => exact absurd (show false = true from hs) Bool.false_ne_true
  | byt i =>
    obtain ⟨t, rfl⟩ := rx
    cases y with
    | byt j => obtain ⟨t', rfl⟩ := ry; exact PySem.W.eq_bytes (fin_bl I q dec_byt)
    | _ => exact absurd (show false = true from hs) Bool.false_ne_true
  | _ => cases y <;> exact absurd (show false = true from hs) Bool.false_ne_true
theorem op_ne : OpR X (compareOp .NotEq) rNe := by
  intro pins s σ H x y v u Q I rx ry h
  obtain ⟨hs, q⟩ := h
  cases x with
  | non =>
    cases rx
    cases y with
    | non => cases ry; exact PySem.EqNone.ne_none_none (fin_bl I q (by simp))
    | bl j => cases ry; exact PySem.EqNone.ne_none_bool (fin_bl I q (by simp))
    | int j => obtain ⟨t', rfl⟩ := ry; exact PySem.EqNone.ne_none_int (fin_bl I q (by simp))
    | str j => obtain ⟨t', rfl⟩ := ry; exact PySem.EqNone.ne_none_str (fin_bl I q (by simp))
    | _ => exact absurd (show false = true from hs) Bool.false_ne_true
  | bl i =>
    cases rx
    cases y with
    | non => cases ry; exact PySem.EqNone.ne_bool_none (fin_bl I q (by simp))
    | bl j => cases ry; exact ne_bool (fin_bl I q (congrArg not dec_bl))
    | str j => obtain ⟨t', rfl⟩ := ry; exact PySem.EqMixed.ne_bool_str (fin_bl I q (by simp))
    | _ => exact absurd (show false = true from hs) Bool.false_ne_true
  | int i =>
    obtain ⟨t, rfl⟩ := rx
    cases y with
    | non => cases ry; exact PySem.EqNone.ne_int_none (fin_bl I q (by simp))
    | int j => obtain ⟨t', rfl⟩ := ry; exact ne_int (fin_bl I q (congrArg not dec_int))
    | str j => obtain ⟨t', rfl⟩ := ry; exact PySem.EqMixed.ne_int_str (fin_bl I q (by simp))
    | _ => exact absurd (show false = true from hs) Bool.false_ne_true
  | str i =>
    obtain ⟨t, rfl⟩ := rx
    cases y with
    | non => cases ry; exact PySem.EqNone.ne_str_none (fin_bl I q (by simp))
    | bl j => cases ry; exact PySem.EqMixed.ne_str_bool (fin_bl I q (by simp))
    | int j => obtain ⟨t', rfl⟩ := ry; exact PySem.EqMixed.ne_str_int (fin_bl I q (by simp))
    | str j => obtain ⟨t', rfl⟩ := ry; exact ne_str (fin_bl I q (congrArg not dec_str))
    | _ => exact absurd (show false = true from hs) Bool.false_ne_true
  | byt i =>
    obtain ⟨t, rfl⟩ := rx
    cases y with
    | byt j => obtain ⟨t', rfl⟩ := ry; exact PySem.W.ne_bytes (fin_bl I q (congrArg not dec_byt))
    | _ => exact absurd (show false = true from hs) Bool.false_ne_true
  | _ => cases y <;> exact absurd (show false = true from hs) Bool.false_ne_true

theorem op_lt : OpR X (compareOp .Lt) (rI0 fun i j => .bl (decide (i < j))) := opB0 fun _ _ _ _ _ _ _ q => lt_int q
theorem op_le : OpR X (compareOp .LtE) (rI0 fun i j => .bl (decide (i ≤ j))) := opB0 fun _ _ _ _ _ _ _ q => le_int q
theorem op_gt : OpR X (compareOp .Gt) (rI0 fun i j => .bl (decide (j < i))) := opB0 fun _ _ _ _ _ _ _ q => gt_int q
theorem op_ge : OpR X (compareOp .GtE) (rI0 fun i j => .bl (decide (j ≤ i))) := opB0 fun _ _ _ _ _ _ _ q => ge_int q
/-- is, is not of two objects that are tracked lists or instances -/
def isObj : HO → Bool
  | .lst _ => true
  | .ins _ _ _ => true
  | _ => false
theorem nomark (b : Expr) {op : CmpOp} (h : op ≠ .In := by decide) (h2 : op ≠ .NotIn := by decide) : behindInMarks op b = false := by
  have e1 : (op == CmpOp.In) = false := by cases op <;> first | rfl | exact absurd rfl h
  have e2 : (op == CmpOp.NotIn) = false := by cases op <;> first | rfl | exact absurd rfl h2
  cases b <;> simp [behindInMarks, e1, e2]
/-- a comparison as a value; hm: nomark b, or (for in, not in) by with_unfolding_all rfl -/
theorem pe_cmpR {op : CmpOp} {r : R2} (ho : OpR X (compareOp op) r) (ha : PE X a ta) (hb : PE X b tb) (hm : behindInMarks op b = false) : PE X (.Compare a [op] [b] pos) (tOp r ta tb) := by
  intro pins s σ H Q I h
  exact wpAny_Compare1 (binT ha hb I h fun v u s2 x y H2 I2 rx ry q => ho pins s2 σ H2 x y v u Q I2 rx ry q) hm
/-- a reading of a value as a test -/
def tTest (t : TE) : TT := fun σ H Q => t σ H fun x H' => ∃ k, x = .bl k ∧ Q k H'
theorem pt_cmpR {op : CmpOp} {r : R2} (ho : OpR X (compareOp op) r) (ha : PE X a ta) (hb : PE X b tb) (hm : behindInMarks op b = false) : PT X (.Compare a [op] [b] pos) (tTest (tOp r ta tb)) := by
  intro pins s σ H Q I h
  refine wpAny_isTrue_Compare1 (thn (ha pins s σ H _ I h) fun v s1 ⟨x, H1, I1, r1, q1⟩ => thn (hb pins s1 σ H1 _ I1 q1) fun u s2 ⟨y, H2, I2, r2, q2⟩ =>
    thn (ho pins s2 σ H2 x y v u _ I2 r1 r2 q2) fun c s3 ⟨z, H3, I3, r3, k, e, q3⟩ => ?_) hm
  subst e
  cases r3
  exact wpAny_truthy_bool ⟨H3, I3, q3⟩
/-- a op1 b op2 c -/
def tChain (r r' : R2) (ta tb tc : TE) : TE := fun σ H Q => ta σ H fun x H1 => tb σ H1 fun y H2 => r x y H2 fun z H3 => ∃ k, z = .bl k ∧
  (if k = true then tc σ H3 fun w' H4 => r' y w' H4 Q else Q (.bl false) H3)
theorem pe_chain {op op' : CmpOp} {r r' : R2} (ho : OpR X (compareOp op) r) (ho' : OpR X (compareOp op') r') (ha : PE X a ta) (hb : PE X b tb) (hc : PE X c tc)
    (hm : lastMarks [op, op'] [b, c] = false := by with_unfolding_all rfl) : PE X (.Compare a [op, op'] [b, c] pos) (tChain r r' ta tb tc) := by
  intro pins s σ H Q I h
  refine Compare_chain (thn (ha pins s σ H _ I h) fun v s1 ⟨x, H1, I1, r1, q1⟩ => chain_link (thn (hb pins s1 σ H1 _ I1 q1) fun u s2 ⟨y, H2, I2, r2, q2⟩ =>
    thn (ho pins s2 σ H2 x y v u _ I2 r1 r2 q2) fun d s3 ⟨z, H3, I3, r3, k, e, q3⟩ => ?_)) hm
  subst e
  cases r3
  refine wpAny_truthy_bool ?_
  cases k with
  | false => exact ite_ff ⟨.bl false, H3, I3, rfl, q3⟩
  | true => exact ite_tt (chain_last (thn (hc pins s3 σ H3 _ I3 q3) fun w' s4 ⟨z', H4, I4, r4, q4⟩ => ho' pins s4 σ H4 y z' u w' Q I4 r2 r4 q4))
/-! ### truth -/
/-- a value's truth by the abstract heap -/
def TruV (K : PySem.W.Frag) (x : V) (H : Hp) (k : Bool) : Prop :=
  match x with
  | .non => k = false
  | .bl b => k = b
  | .int i => k = (i != 0)
  | .str y => y.length ≤ sizeLine ∧ k = ((y.length : Int) != 0)
  | .byt y => y.size ≤ sizeLine ∧ k = ((y.size : Int) != 0)
  | .ref p => (∃ xs, SqL K H p xs ∧ k = !xs.isEmpty) ∨ (∃ xs, SqT K H p xs ∧ k = !xs.isEmpty) ∨ ∃ kvs, H p = some (.dK kvs) ∧ k = !kvs.isEmpty
  | _ => False
theorem isEmpty_kv {κ : Type} {kvs : List (κ × V)} {vs : List (κ × Value)} (r : KV kvs vs) : (!vs.isEmpty) = !kvs.isEmpty := by
  cases r <;> rfl
theorem isEmpty_of {xs : List V} {its : List Value} (r : Vals xs its) : (!its.toArray.isEmpty) = !xs.isEmpty := by
  cases r <;> simp
theorem line63 : (sizeLine : Nat) < 2 ^ 63 := by rw [sizeLine_eq]; decide
theorem tru_ok : TruR X (fun x H Q => ∃ k, TruV X.K x H k ∧ Q k H) := by
  intro pins s σ H x v Q I rx h
  obtain ⟨k, e, q⟩ := h
  have hl := line63
  have hs : sizeLine = 16777216 := sizeLine_eq
  cases x with
  | non =>
    cases rx
    have e' : k = false := e
    subst e'
    exact truthy_none ⟨H, I, q⟩
  | bl b =>
    cases rx
    have e' : k = b := e
    subst e'
    exact wpAny_truthy_bool ⟨H, I, q⟩
  | int i =>
    obtain ⟨t, rfl⟩ := rx
    have e' : k = (i != 0) := e
    subst e'
    exact PySem.P.truthy_int ⟨H, I, q⟩
  | str y =>
    obtain ⟨t, rfl⟩ := rx
    obtain ⟨hy, e'⟩ : y.length ≤ sizeLine ∧ k = ((y.length : Int) != 0) := e
    subst e'
    exact PySem.P.truthy_str (by omega) ⟨H, I.tok _, q⟩
  | byt y =>
    obtain ⟨t, rfl⟩ := rx
    obtain ⟨hy, e'⟩ : y.size ≤ sizeLine ∧ k = ((y.size : Int) != 0) := e
    subst e'
    exact PySem.W.truthy_bytes (by omega) ⟨H, I.tok _, q⟩
  | ref p =>
    cases rx
    have e' : (∃ xs, SqL X.K H p xs ∧ k = !xs.isEmpty) ∨ (∃ xs, SqT X.K H p xs ∧ k = !xs.isEmpty) ∨ ∃ kvs, H p = some (.dK kvs) ∧ k = !kvs.isEmpty := e
    rcases e' with ⟨xs, hx, e'⟩ | ⟨xs, hx, e'⟩ | ⟨kvs, hx, e'⟩
    · subst e'
      obtain ⟨its, r, pl, hz⟩ := I.list hx
      have hlen := r.length
      exact wpAny_truthy_list pl.isList (by simp only [List.size_toArray]; omega) ⟨H, I.tok _, by rw [isEmpty_of r]; exact q⟩
    · subst e'
      obtain ⟨its, r, pl, hz⟩ := I.tuple hx
      have hlen := r.length
      exact truthy_tuple pl (by simp only [List.size_toArray]; omega) ⟨H, I.tok _, by rw [isEmpty_of r]; exact q⟩
    · subst e'
      obtain ⟨hz, hS, vs, r, m⟩ : kvs.length ≤ sizeLine ∧ (p == sysModules) = false ∧ ∃ vs, KV kvs vs ∧ s.heap.DictOf (mixKind X.prog X.w) p vs := I.hok p _ hx
      have hlen : kvs.length = vs.length := Paired.length r
      exact wpAny_truthy_dict hS m (by omega) ⟨H, I.tok _, by rw [isEmpty_kv r]; exact q⟩
  | _ => exact (show False from e).elim
/-- any expression whose test is its value's truth (a name, a call, a subscript, a field ..: he by fun _ => rfl) -/
theorem pt_truth (ha : PE X a ta) (he : ∀ whole, isTrue a X.env whole = (do let v ← whole; standAt a.pos; holding [v] (truthy v))) :
    PT X a (fun σ H Q => ta σ H fun x H' => ∃ k, TruV X.K x H' k ∧ Q k H') := by
  intro pins s σ H Q I h
  exact isTrue_plain (thn (ha pins s σ H _ I h) fun v s1 ⟨x, H1, I1, r1, q1⟩ => tru_ok pins s1 σ H1 x v Q I1 r1 q1) (he _)

/-! ### strs and bytes -/
def PlainIxT (b : Expr) : Prop := ∀ o i, subscripted b false o i = operate [o, i] (getItem o i)
/-! ### scalar builtins, by CallR -/
theorem vals1 {x : V} {us : List Value} (r : Vals [x] us) : ∃ u, us = [u] ∧ RelV x u := by
  cases r with
  | cons r1 r2 => cases r2; exact ⟨_, rfl, r1⟩
theorem vals2 {x y : V} {us : List Value} (r : Vals [x, y] us) : ∃ u w', us = [u, w'] ∧ RelV x u ∧ RelV y w' := by
  cases r with
  | cons r1 r2 =>
    cases r2 with
    | cons r3 r4 => cases r4; exact ⟨_, _, rfl, r1, r3⟩
theorem call_max2 (hc : X.calm = true) : CallR X (.builtin "max") (fun xs H Q => ∃ i j, xs = [.int i, .int j] ∧ Q (.int (if j > i then j else i)) H) := by
  intro pins s σ H xs us Q I r h
  obtain ⟨i, j, rfl, q⟩ := h
  obtain ⟨u, w', rfl, ⟨t, rfl⟩, ⟨t', rfl⟩⟩ := vals2 r
  refine max_two_ints (I.ok.hd hc) fun h' tk k => ⟨_, H, I.kept k, ?_, q⟩
  by_cases hj : j > i
  · rw [if_pos hj, if_pos hj]; exact ⟨_, rfl⟩
  · rw [if_neg hj, if_neg hj]; exact ⟨_, rfl⟩
/-- len of a str, a bytes, a list, a tuple -/
def LenV (K : PySem.W.Frag) (x : V) (H : Hp) (n : Nat) : Prop :=
  match x with
  | .str y => y.length ≤ sizeLine ∧ n = y.length
  | .byt y => y.size ≤ sizeLine ∧ n = y.size
  | .ref p => (∃ xs, SqL K H p xs ∧ n = xs.length) ∨ ∃ xs, SqT K H p xs ∧ n = xs.length
  | _ => False
end
end L2

namespace L2
open PySem PySem.Spec PyProof.Rows

/-! ### an instance, its attributes a map -/
structure ObjM (h : Heap) (x dx C : Addr) (mA : Str → Option Value) : Prop where
  obj : h.get? x = some (PySem.W.instObj C dx)
  ns : h.Ns1 dx mA
  ne : dx ≠ x

theorem lookIn_ns {h : Heap} {dx : Addr} {mA : Str → Option Value} (n : h.Ns1 dx mA) : ∃ od, h.get? dx = some od ∧ ∀ name, PySem.W.lookIn name od = some (mA name) := by
  obtain ⟨o, es, ep, ho, hd, hk, _, hm⟩ := n
  refine ⟨o, ho, fun name => ?_⟩
  have e := hm name
  unfold nsFind findBy at e
  rw [← Array.find?_toList] at e
  unfold PySem.W.lookIn
  rw [hd]
  dsimp only
  split
  · rename_i y q
    rw [q] at e
    exact congrArg some e
  · rename_i q
    rw [q] at e
    have a : es.toList.any (·.refKey) = false := by
      rw [List.any_eq_false]
      intro y hy
      obtain ⟨z, t, hkey⟩ := hk y (Array.mem_toList_iff.mp hy)
      simp [DictEntry.refKey, hkey]
    have a' : ¬ es.toList.any (·.refKey) = true := by rw [a]; exact Bool.false_ne_true
    rw [if_neg a']
    exact congrArg some e

theorem ObjM.look {h : Heap} {x dx C : Addr} {mA : Str → Option Value} (I : ObjM h x dx C mA) : ∃ od, PySem.W.InstAt h x (PySem.W.instObj C dx) C (some od) ∧ ∀ name, PySem.W.lookIn name od = some (mA name) :=
  let ⟨od, ho, hl⟩ := lookIn_ns I.ns
  ⟨od, ⟨I.obj, rfl, rfl, ho⟩, hl⟩

section
variable {prog : Program} {w : World} {A : Around} {E : Value → Shared → Prop} {s : Shared} {K : PySem.W.Frag} {x dx C f : Addr} {mA : Str → Option Value} {name : Str} {v : Value}

end

/-! ### the attributes as a list of pairs -/
def putF (f : Str) (v : V) : List (Str × V) → List (Str × V)
  | [] => [(f, v)]
  | (g, x) :: r => if g = f then (g, v) :: r else (g, x) :: putF f v r
section
variable {P : Program} {w : World} {H H' : Hp} {h h' : Heap} {a C dx : Addr} {fs fs' : List (Str × V)}
theorem ins_get (hok : HOk P w H h) (e : H a = some (.ins C dx fs)) : ∃ mA, ObjM h a dx C mA ∧ (∀ f, RelO (fs.lookup f) (mA f)) ∧ PySem.Within mA (fs.map (·.1)) ∧ fs.length ≤ 1000 ∧ H dx = some (.own a) := by
  obtain ⟨d, z, ne, ob, mA, n, r, q⟩ := (show ObjOk P w H h a (.ins C dx fs) from hok a _ e)
  exact ⟨mA, ⟨ob, n, ne⟩, r, q, z, d⟩
end

/-! ### what of the text a class must have -/
structure Cls (K : PySem.W.Frag) (C : Addr) : Prop where
  pg : PySem.W.plainGet K C Str.empty = true
  hd : PySem.W.hasDictIn K C = true
  po : PySem.W.plainOver K C = true
  sa : PySem.W.findIn K (.ref C) "__setattr__" = some (some (.builtin "object.__setattr__"))
theorem Cls.get {K : PySem.W.Frag} {C : Addr} (c : Cls K C) (f : Str) : PySem.W.plainGet K C f = true := c.pg
/-- no class of it has the name -/
def NoAttr (K : PySem.W.Frag) (C : Addr) (f : Str) : Prop := PySem.W.findIn K (.ref C) f = some none
/-- a constant of the class -/
structure Con (K : PySem.W.Frag) (C : Addr) (f : Str) (v : V) (u : Value) : Prop where
  at_ : PySem.W.findIn K (.ref C) f = some (some u)
  rel : RelV v u
  get : PySem.W.specialIn K u "__get__" = some none
  cp : PySem.W.copiedNames.contains f = false
/-- a method: a plain def of the class or of one above it -/
structure Meth (K : PySem.W.Frag) (C : Addr) (m : Str) (f : Addr) : Prop where
  at_ : PySem.W.findIn K (.ref C) m = some (some (.ref f))
  fn : PySem.W.isFn K (.ref f) = true
  kp : PySem.W.keepIn K (.ref f) = true

section
variable {X : Cx} {pins : List (Addr × Obj)} {σ : St} {H : Hp} {s : Shared} {a C dx : Addr} {fs : List (Str × V)} {f : Str} {v : V} {A : Around} {E : Value → Shared → Prop}

end

/-! ### readings and rules -/
/-- e.f, an attribute of the instance -/
def tFld (K : PySem.W.Frag) (ta : TE) (f : Str) : TE := fun σ H Q => ta σ H fun x H1 => ∃ a C dx fs v, x = .ref a ∧ H1 a = some (.ins C dx fs) ∧ Cls K C ∧ NoAttr K C f ∧ fs.lookup f = some v ∧ Q v H1
/-- e.f, a constant of the class -/
def tCon (K : PySem.W.Frag) (ta : TE) (f : Str) : TE := fun σ H Q => ta σ H fun x H1 => ∃ a C dx fs v u, x = .ref a ∧ H1 a = some (.ins C dx fs) ∧ Cls K C ∧ Con K C f v u ∧ fs.lookup f = none ∧ Q v H1
/-- e.f = value -/
def sFld (K : PySem.W.Frag) (ta tv : TE) (f : Str) : TS := fun D σ H => tv σ H fun y H1 => ta σ H1 fun x H2 => ∃ a C dx fs, x = .ref a ∧ H2 a = some (.ins C dx fs) ∧ Cls K C ∧ NoAttr K C f ∧ fs.length < 1000 ∧
  D.nx σ (upd H2 a (.ins C dx (putF f y fs)))
/-- an augmented operator on two values -/
def InOp (X : Cx) (op : Operator) (rd : V → V → Hp → VK → Prop) : Prop :=
  ∀ (pins : List (Addr × Obj)) (s : Shared) (σ : St) (H : Hp) (x y : V) (u v : Value) (Q : VK), Inv X pins σ H s → RelV x u → RelV y v → rd x y H Q → wpAny (model X.prog X.w) X.A (inplaceOp op u v) (EP X pins σ Q) X.xe s
/-- e.f op= value -/
def sFldAug (K : PySem.W.Frag) (ta tv : TE) (rd : V → V → Hp → VK → Prop) (f : Str) : TS := fun D σ H => ta σ H fun x H1 => ∃ a C dx fs v, x = .ref a ∧ H1 a = some (.ins C dx fs) ∧ Cls K C ∧ NoAttr K C f ∧ fs.lookup f = some v ∧
  tv σ H1 fun y H2 => rd v y H2 fun z H3 => ∃ dx' fs', H3 a = some (.ins C dx' fs') ∧ fs'.length < 1000 ∧ D.nx σ (upd H3 a (.ins C dx' (putF f z fs')))

section
variable {X : Cx} {o e value : Expr} {f : Str} {pos pos' tpos : Pos} {ta tv : TE}
def rAdd : V → V → Hp → VK → Prop := fun x y H Q => ∃ i j, x = .int i ∧ y = .int j ∧ Q (.int (i + j)) H
def rSub : V → V → Hp → VK → Prop := fun x y H Q => ∃ i j, x = .int i ∧ y = .int j ∧ Q (.int (i - j)) H
end

/-! ### isinstance -/
section
variable {X : Cx} {pins : List (Addr × Obj)} {σ : St} {H : Hp} {s : Shared} {A : Around} {E : Value → Shared → Prop} {Q : Value → Shared → Prop} {c : Value} {b : Bool}
/-- the type of a value, as the fragment's deciders take it; for an instance its class -/
inductive TyOf (K : PySem.W.Frag) (H : Hp) : V → Value → Prop where
  | non : TyOf K H .non (.type "NoneType")
  | bl (x : Bool) : TyOf K H (.bl x) (.type "bool")
  | int (i : Int) : TyOf K H (.int i) (.type "int")
  | str (x : Str) : TyOf K H (.str x) (.type "str")
  | flt (x : UInt64) : TyOf K H (.flt x) (.type "float")
  | lst {a : Addr} {xs : List V} (e : H a = some (.lst xs)) : TyOf K H (.ref a) (.type "list")
  | frz {a : Addr} {o : Obj} {xs : List V} (e : H a = some (.frz o (.lst xs))) : TyOf K H (.ref a) (.type "list")
  | tup {a : Addr} {xs : List V} (e : H a = some (.tup xs)) : TyOf K H (.ref a) (.type "tuple")
  | dK {a : Addr} {kvs : List (Key × V)} (e : H a = some (.dK kvs)) : TyOf K H (.ref a) (.type "dict")
  | dT {a : Addr} {kvs : List (List Key × V)} (e : H a = some (.dT kvs)) : TyOf K H (.ref a) (.type "dict")
  | ins {a C dx : Addr} {fs : List (Str × V)} (e : H a = some (.ins C dx fs)) (cl : Cls K C) (ha : PySem.W.findIn K (.ref C) "__class__" = some (some (.builtin "object.__class__")))
      (hn : PySem.W.specialIn K (.builtin "object.__class__") "__get__" = some (some (.builtin "getset_descriptor.__get__"))) (htk : PySem.W.takesIn K (.builtin "object.__class__") = some true)
      (hm : PySem.W.mroIn K C (.type "object") = some true) : TyOf K H (.ref a) (.ref C)
/-- isinstance(x, c) for one class c, a built-in or an own one: kitOne's answer -/
theorem isinst_ok {x : V} {u t : Value} (I : Inv X pins σ H s) (rx : RelV x u) (ty : TyOf X.K H x t) (e : PySem.W.kitOne X.K t c = some b) (h : ∀ tk, Q (.bool b) { s with toks := tk }) :
    wpAny (model X.prog X.w) A (call (.builtin "isinstance") [u, c]) Q E s := by
  cases ty with
  | non => cases (show u = Value.none from rx); exact PySem.W.kia_one PySem.W.kitx_none I.kIn True.intro e (fun z => nomatch z) h
  | bl y => cases (show u = Value.bool y from rx); exact PySem.W.kia_one PySem.W.kitx_bool I.kIn True.intro e (fun z => nomatch z) h
  | int i => obtain ⟨t, q⟩ := (show ∃ t, u = Value.int i t from rx); cases q; exact PySem.W.kia_one PySem.W.kitx_int I.kIn True.intro e (fun z => nomatch z) h
  | str y => obtain ⟨t, q⟩ := (show ∃ t, u = Value.str y t from rx); cases q; exact PySem.W.kia_one PySem.W.kitx_str I.kIn True.intro e (fun z => nomatch z) h
  | flt y => obtain ⟨t, q⟩ := (show ∃ t, u = Value.float y t from rx); cases q; exact PySem.W.kia_one PySem.W.kitx_float I.kIn True.intro e (fun z => nomatch z) h
  | @lst a xs ea =>
    cases (show u = Value.ref a from rx)
    obtain ⟨_, _, n, _, h1⟩ := (show ObjOk X.prog X.w H s.heap a (.lst xs) from I.hok a _ ea)
    exact PySem.W.kia_one PySem.W.kitx_list I.kIn ⟨_, h1, rfl⟩ e (fun z => nomatch z) h
  | @frz a ob xs ea =>
    cases (show u = Value.ref a from rx)
    obtain ⟨_, _, _, n, _, h1⟩ := (show ObjOk X.prog X.w H s.heap a (.frz ob (.lst xs)) from I.hok a _ ea)
    exact PySem.W.kia_one PySem.W.kitx_list I.kIn ⟨_, h1, rfl⟩ e (fun z => nomatch z) h
  | @tup a xs ea =>
    cases (show u = Value.ref a from rx)
    obtain ⟨_, _, _, p⟩ := (show ObjOk X.prog X.w H s.heap a (.tup xs) from I.hok a _ ea)
    obtain ⟨o, h1, h2, _⟩ := p
    exact PySem.W.kia_one PySem.W.kitx_tuple I.kIn ⟨o, h1, h2⟩ e (fun z => nomatch z) h
  | @dK a kvs ea =>
    cases (show u = Value.ref a from rx)
    obtain ⟨_, _, vs, _, p⟩ := (show ObjOk X.prog X.w H s.heap a (.dK kvs) from I.hok a _ ea)
    obtain ⟨o, es, ep, h1, h2, _⟩ := p
    exact PySem.W.kia_one PySem.W.kitx_dict I.kIn ⟨o, h1, h2.1⟩ e (fun z => nomatch z) h
  | @dT a kvs ea =>
    cases (show u = Value.ref a from rx)
    obtain ⟨_, _, xs, _, o, es, ep, h1, h2, _⟩ := (show ObjOk X.prog X.w H s.heap a (.dT kvs) from I.hok a _ ea)
    exact PySem.W.kia_one PySem.W.kitx_dict I.kIn ⟨o, h1, h2.1⟩ e (fun z => nomatch z) h
  | @ins a C dx fs ea cl ha hn htk hm =>
    cases (show u = Value.ref a from rx)
    obtain ⟨mA, O, _⟩ := ins_get I.hok ea
    obtain ⟨od, J, _⟩ := O.look
    exact PySem.W.kia_one (PySem.W.kitx_own (cl.get _) cl.hd ha hn htk hm) I.kIn J e (fun z => nomatch z) h
end
end L2

namespace L2
open PySem PySem.Spec PyProof.Rows

/-! ### room -/
structure Room (k : Nat) (A : Around) : Prop where
  hd : A.handled = none
  dp : A.depth + 3 * k + 5 < recursionLimit
  un : A.units + 16 * k + 200 < cLine
theorem Room.mono {j k : Nat} {A : Around} (r : Room k A) (h : j ≤ k) : Room j A := ⟨r.hd, by have := r.dp; omega, by have := r.un; omega⟩
theorem Room.deeper {k : Nat} {A : Around} (r : Room (k + 1) A) (env : Env) : Room k (A.deeper env) :=
  ⟨r.hd, by have := r.dp; show A.depth + 1 + 3 * k + 5 < _; omega, by have := r.un; show A.units + 3 + 16 * k + 200 < _; omega⟩
theorem Room.depth {k : Nat} {A : Around} (r : Room k A) : A.depth < recursionLimit := by have := r.dp; omega
/-! ### argument lists and displays -/
def tNil : TA := fun _ H Q => Q [] H
def tCons (ta : TE) (tr : TA) : TA := fun σ H Q => ta σ H fun x H1 => tr σ H1 fun xs H2 => Q (x :: xs) H2
section
variable {X : Cx} {e : Expr} {es : List Expr} {te : TE} {t : TA} {pos : Pos}
theorem pa_nil : PA X [] tNil := fun _ _ _ _ H Q I h => Calls.spliced_nil ⟨[], H, I, .nil, h⟩
theorem pa_cons (ha : PE X e te) (hr : PA X es t) (hs : starEach (e :: es) X.env = (false, eval e X.env) :: starEach es X.env := by rfl) : PA X (e :: es) (tCons te t) := by
  intro pos pins s σ H Q I h
  rw [hs]
  show wpAny _ _ (spliced ((false, eval e X.env) :: backTo pos (starEach es X.env))) _ _ s
  refine Calls.spliced_cons (thn (ha pins s σ H _ I h) fun u s1 ⟨x, H1, I1, r1, q1⟩ => ?_)
  exact thn (hr pos pins s1 σ H1 _ I1 q1) fun us s2 ⟨xs, H2, I2, r2, q2⟩ => ⟨x :: xs, H2, I2, .cons r1 r2, q2⟩

/-- a tuple, a list of written items -/
def tTup (t : TA) : TE := fun σ H Q => t σ H fun xs H1 => xs.length ≤ sizeLine ∧ ∀ p, H1 p = none → Q (.ref p) (upd H1 p (.tup xs))
def tLst (t : TA) : TE := fun σ H Q => t σ H fun xs H1 => xs.length ≤ sizeLine ∧ ∀ p, H1 p = none → Q (.ref p) (upd H1 p (.lst xs))
theorem pe_tup {x1} (h : PA X es t) : PE X (.Tuple es x1 pos) (tTup t) := by
  intro pins s σ H Q I hq
  refine wpAny_Tuple_spliced (thn (h pos pins s σ H _ I hq) fun us s1 ⟨xs, H1, I1, r, z, q⟩ => ⟨by rw [← r.length]; exact z, ?_⟩)
  have hf : H1 s1.heap.objs.size = none := I1.hok.fresh (Nat.le_refl _)
  refine ⟨.ref s1.heap.objs.size, upd H1 s1.heap.objs.size (.tup xs), I1.laid (t' := s1.toks) (fun b u e => Heap.get?_push_of_some _ e) (Nat.le_refl _) ?_, rfl, q _ hf⟩
  exact ⟨z, us, r, ⟨_, Heap.get?_push_size _ rfl, rfl, _, rfl⟩⟩
theorem pe_lst (h : PA X es t) : PE X (.List es pos) (tLst t) := by
  intro pins s σ H Q I hq
  refine wpAny_List_spliced (thn (h pos pins s σ H _ I hq) fun us s1 ⟨xs, H1, I1, r, z, q⟩ => ⟨by rw [← r.length]; exact z, ?_⟩)
  have hf : H1 s1.heap.objs.size = none := I1.hok.fresh (Nat.le_refl _)
  refine ⟨.ref s1.heap.objs.size, upd H1 s1.heap.objs.size (.lst xs), I1.laid (t' := s1.toks) (fun b u e => Heap.get?_push_of_some _ e) (Nat.le_refl _) ?_, rfl, q _ hf⟩
  exact ⟨z, us, 0, r, Heap.get?_push_size _ rfl⟩
end

/-! ### what a def promises -/
/-- a def's promise: the bound arguments in the parameters' order, the heap, the wanted end, the wanted exception -/
abbrev Sp := List V → Hp → VK → XK → Prop
/-- how an exception lies behind a call (file 08 gives it): the callers' frames, abstract heap and state ahead of the call, the wish, the exception, the state -/
abbrev CXT := List Env → Hp → Shared → XK → Value → Shared → Prop

/-- the state at a call -/
structure Env0 (P : Program) (w : World) (K : PySem.W.Frag) (mg : Str → Option Value) (base : Heap) (A : Around) (outer : List Env) (s : Shared) (H : Hp) : Prop where
  frames : A.frames = some outer
  mod : Mod K mg base
  bs : ∀ b o, base.get? b = some o → s.heap.get? b = some o ∧ H b = none
  bsz : base.objs.size ≤ s.heap.objs.size
  funs : s.heap.FunFrames base outer
  frf : ∀ b ∈ frs outer, H b = none
  hok : HOk P w H s.heap
  bare : AllBare s.gens
/-- a call's end -/
def CE (outer : List Env) (P : Program) (w : World) (H : Hp) (s : Shared) (Q : VK) (u : Value) (s' : Shared) : Prop :=
  ∃ v H', s'.os = s.os ∧ AllBare s'.gens ∧ Un (frs outer) [] H H' s.heap s'.heap ∧ HOk P w H' s'.heap ∧ RelV v u ∧ Q v H'
def CR (CX : CXT) (outer : List Env) (P : Program) (w : World) (H : Hp) (s : Shared) (Q : VK) (E : XK) (r : Result) (s' : Shared) : Prop :=
  match r with
  | .ok (.ret u) => CE outer P w H s Q u s'
  | .ok _ => False
  | .error e => CX outer H s E e s'
structure FnOk (P : Program) (w : World) (K : PySem.W.Frag) (mg : Str → Option Value) (base : Heap) (CX : CXT) (k : Nat) (f : Addr) (fd : FuncData) (ps : List Str) (sp : Sp) : Prop where
  len : ∀ vs H Q E, sp vs H Q E → vs.length = ps.length
  run : ∀ (A : Around) (outer : List Env) (s : Shared) (H : Hp) (args : Args) (us : List Value) (vs : List V) (Q : VK) (E : XK), Room k A → Env0 P w K mg base A outer s H → BindsTo s fd args (ps.zip us) → Vals vs us → sp vs H Q E →
    codeAny (model P w) A (.call (.ref f) args) (CR CX outer P w H s Q E) s
section
variable {X : Cx} {pins : List (Addr × Obj)} {σ : St} {H : Hp} {s s' : Shared}
/-- from a body: what a callee wants -/
theorem Inv.env0 (I : Inv X pins σ H s) : Env0 X.prog X.w X.K X.mg X.base X.A X.stack s H :=
  ⟨I.ok.frames, I.ok.mod, I.bs, Nat.le_trans I.ok.bsz I.sz, I.stack, I.stkFree, I.hok, I.bare⟩
/-- behind a call -/
theorem Inv.after {Q : VK} {u : Value} (I : Inv X pins σ H s) (h : CE X.stack X.prog X.w H s Q u s') : EP X pins σ Q u s' := by
  obtain ⟨v, H', os, bare, un, hok, r, q⟩ := h
  obtain ⟨hh, g, d, t, os'⟩ := s'
  obtain rfl : os' = s.os := os
  exact ⟨v, H', I.call (h' := hh) (g' := g) (d' := d) (t' := t) (ch := []) un hok bare (fun b z => absurd z (by simp)), r, q⟩
end

/-! ### calls -/
/-- f(..): the written arguments, then the defaults dvs; E: what is wanted of an exception -/
def tCall (sp : Sp) (dvs : List V) (E : XK) (t : TA) : TE := fun σ H Q => t σ H fun vs H1 => sp (vs ++ dvs) H1 Q E
/-- o.m(..) of an instance of the class at C -/
def tMeth (C : Addr) (m : Str) (sp : Sp) (dvs : List V) (E : XK) (ta : TE) (t : TA) : TE := fun σ H Q => ta σ H fun x H1 => ∃ a dx fs, x = .ref a ∧ H1 a = some (.ins C dx fs) ∧ fs.lookup m = none ∧
  t σ H1 fun vs H2 => sp (x :: (vs ++ dvs)) H2 Q E
/-- C(..): a new instance and its dict, then __init__ -/
def tMake (C : Addr) (sp : Sp) (dvs : List V) (E : XK) (t : TA) : TE := fun σ H Q => t σ H fun vs H1 => ∀ x dx, H1 x = none → H1 dx = none → dx ≠ x →
  sp (.ref x :: (vs ++ dvs)) (upd (upd H1 dx (.own x)) x (.ins C dx [])) (fun v H2 => v = .non ∧ Q (.ref x) H2) E

/-- how the parameters are bound: us the positional arguments, kw the keywords' values by name, ds the defaults that fill up -/
def Binds (K : PySem.W.Frag) (fd : FuncData) (ps : List Str) (ds : List Value) : Prop :=
  ∀ (s : Shared) (us : List Value), K.In s.heap → (us ++ ds).length = ps.length → BindsTo s fd ⟨us, []⟩ (ps.zip (us ++ ds))
/-- every parameter is given -/
theorem Binds.all {K : PySem.W.Frag} {fd : FuncData} {ps : List Str} (h : ∀ us : List Value, us.length = ps.length → bindArgs fd ⟨us, []⟩ = pure (ps.zip us)) : Binds K fd ps [] := fun s us _ hl => by
  rw [List.append_nil] at hl ⊢
  exact .of_eq (h us hl)

/-- an exception of a callee reaches what this body wants of exceptions -/
def Passes (CX : CXT) (X : Cx) (E : XK) : Prop := ∀ (pins : List (Addr × Obj)) (σ : St) (H : Hp) (s : Shared) (e : Value) (s' : Shared), Inv X pins σ H s → CX X.stack H s E e s' → X.xe e s'

section
variable {X : Cx} {CX : CXT} {k : Nat} {f C : Addr} {fd : FuncData} {ps : List Str} {sp : Sp} {dvs : List V} {ds : List Value} {E : XK} {x m : Str} {p pos apos : Pos} {e o : Expr} {es : List Expr} {ta : TE} {t : TA}

/-- the callee runs -/
theorem run_fn {pins : List (Addr × Obj)} {σ : St} {H : Hp} {s : Shared} {Q : VK} {us : List Value} {vs : List V} (F : FnOk X.prog X.w X.K X.mg X.base CX k f fd ps sp) (hr : Room k X.A) (hb : Binds X.K fd ps ds) (hd : Vals dvs ds) (hx : Passes CX X E)
    (I : Inv X pins σ H s) (r : Vals vs us) (h : sp (vs ++ dvs) H Q E) : wpAny (model X.prog X.w) X.A (call (.ref f) us) (EP X pins σ Q) X.xe s := by
  have r2 : Vals (vs ++ dvs) (us ++ ds) := r.append hd
  have hl : (us ++ ds).length = ps.length := by rw [← r2.length]; exact F.len _ _ _ _ h
  refine wpAny_call (codeAny_mono (F.run X.A X.stack s H ⟨us, []⟩ (us ++ ds) (vs ++ dvs) Q E hr I.env0 (hb s us I.kIn hl) r2 h) fun r s' hq => ?_)
  cases r with
  | error e => exact hx pins σ H s e s' I hq
  | ok fl =>
    cases fl with
    | ret u => exact I.after hq
    | next => exact False.elim hq
    | brk => exact False.elim hq
    | cont => exact False.elim hq

theorem pe_call (F : FnOk X.prog X.w X.K X.mg X.base CX k f fd ps sp) (hr : Room k X.A) (hg : Gl X x) (hm : X.mg x = some (.ref f)) (hk : PySem.W.keepIn X.K (.ref f) = true) (hb : Binds X.K fd ps ds) (hd : Vals dvs ds) (hx : Passes CX X E)
    (ha : PA X (e :: es) t) (hdb : (x == ("__debug__" : Str)) = false := by decide) (he : starEach (e :: es) X.env = (false, eval e X.env) :: starEach es X.env := by rfl) (hpl : (backTo pos (starEach es X.env)).any (·.1) = false := by rfl) :
    PE X (.Call (.Name x p) (e :: es) [] pos) (tCall sp dvs E t) := by
  intro pins s σ H Q I h
  refine wpAny_Call_Name_kw (ld_glob I hg hm ?_ hdb)
  refine PySem.W.callWith_K (h₀ := X.base) I.ok.mod.kin hk (thn (ha pos pins s σ H _ I h) fun us s1 ⟨vs, H1, I1, r, q⟩ => ⟨I1.kIn, ?_⟩) he hpl
  exact run_fn F hr hb hd hx I1 r q
/-- what a class must have to be made -/
structure Mk (K : PySem.W.Frag) (C f : Addr) : Prop where
  makes : PySem.W.makesIn K C = true
  init : PySem.W.findIn K (.ref C) "__init__" = some (some (.ref f))
  fn : PySem.W.isFn K (.ref f) = true
  kp : PySem.W.keepIn K (.ref C) = true

end

/-! ### keywords -/
/-- the values of the keywords, from the left -/
def PK (X : Cx) (kws : List Keyword) (t : TA) : Prop :=
  ∀ (pos : Pos) (pins : List (Addr × Obj)) (s : Shared) (σ : St) (H : Hp) (Q : List V → Hp → Prop), Inv X pins σ H s → t σ H Q → wpAny (model X.prog X.w) X.A (evalAll ((backToKw pos (keywordEach kws X.env)).map (·.2))) (AP X pins σ Q) X.xe s
section
variable {X : Cx} {CX : CXT} {k : Nat} {f C : Addr} {fd : FuncData} {ps ks : List Str} {sp : Sp} {E : XK} {x m : Str} {p pos apos kpos : Pos} {e o : Expr} {es : List Expr} {kws : List Keyword} {te ta : TE} {t tk : TA} {nm : Option Str}
/-- how a call with keywords binds: g puts the positional values us and the keywords' values ws (names ks) in the parameters' order, defaults among them -/
structure KBinds (K : PySem.W.Frag) (fd : FuncData) (ps ks : List Str) (g : List Value → List Value → List Value) (gV : List V → List V → List V) : Prop where
  to : ∀ (s : Shared) (us ws : List Value), K.In s.heap → (g us ws).length = ps.length → BindsTo s fd ⟨us, ks.zip ws⟩ (ps.zip (g us ws))
  rel : ∀ {vs : List V} {us : List Value} {zs : List V} {ws : List Value}, Vals vs us → Vals zs ws → Vals (gV vs zs) (g us ws)
def tCallK (sp : Sp) (gV : List V → List V → List V) (E : XK) (t tk : TA) : TE := fun σ H Q => t σ H fun vs H1 => tk σ H1 fun zs H2 => sp (gV vs zs) H2 Q E
variable {g : List Value → List Value → List Value} {gV : List V → List V → List V}
end

/-! ### a def's body keeps its promise -/
/-- names: the parameters first -/
structure FnScope (N P : List Str) (sc : Scope) : Prop where
  kind : sc.kind = .function
  co : sc.isCoroutine = false
  gen : sc.isGenerator = false
  nd : N.Nodup
  pre : N.take P.length = P
  par : ∀ x ∈ P, sc.names.lookup x = some .local ∨ sc.names.lookup x = some .cell
  nofree : ∀ y ∈ sc.names, y.2 ≠ .free

theorem bindL_out {kindOf : Str → Option NameKind} {x : Str} : ∀ {binds : List (Str × Value)} {m : Str → Option Value}, (∀ v, (x, v) ∉ binds) → bindL kindOf binds m x = m x
  | [], _, _ => rfl
  | (n, v) :: r, m, h => by
    unfold bindL
    rw [bindL_out fun w hw => h w (List.mem_cons_of_mem _ hw)]
    split
    · have : x ≠ n := by rintro rfl; exact h v List.mem_cons_self
      simp [this]
    · rfl
theorem bindC_out {kindOf : Str → Option NameKind} {x : Str} : ∀ {binds : List (Str × Value)} {m : Str → Option Value}, (∀ v, (x, v) ∉ binds) → bindC kindOf binds m x = m x
  | [], _, _ => rfl
  | (n, v) :: r, m, h => by
    unfold bindC
    rw [bindC_out fun w hw => h w (List.mem_cons_of_mem _ hw)]
    split
    · rfl
    · have : x ≠ n := by rintro rfl; exact h v List.mem_cons_self
      simp [this]
theorem bindL_get {kindOf : Str → Option NameKind} {x : Str} {v : Value} : ∀ {P : List Str} {vs : List Value} {i : Nat} {m : Str → Option Value}, P.Nodup → P[i]? = some x → vs[i]? = some v → kindOf x = some .local →
    bindL kindOf (P.zip vs) m x = some v
  | [], _, _, _, _, h, _, _ => by simp at h
  | _ :: _, [], _, _, _, _, h, _ => by simp at h
  | p :: P, w :: vs, 0, m, nd, h1, h2, hk => by
    simp at h1 h2; subst h1; subst h2
    show bindL kindOf ((p, w) :: P.zip vs) m p = _
    unfold bindL
    rw [bindL_out fun v hv => (List.nodup_cons.mp nd).1 (List.of_mem_zip hv).1, if_pos hk]
    simp
  | p :: P, w :: vs, i + 1, m, nd, h1, h2, hk => by
    show bindL kindOf ((p, w) :: P.zip vs) m x = _
    unfold bindL
    exact bindL_get (i := i) (List.nodup_cons.mp nd).2 (by simpa using h1) (by simpa using h2) hk
theorem bindC_get {kindOf : Str → Option NameKind} {x : Str} {v : Value} : ∀ {P : List Str} {vs : List Value} {i : Nat} {m : Str → Option Value}, P.Nodup → P[i]? = some x → vs[i]? = some v → kindOf x ≠ some .local →
    bindC kindOf (P.zip vs) m x = some v
  | [], _, _, _, _, h, _, _ => by simp at h
  | _ :: _, [], _, _, _, _, h, _ => by simp at h
  | p :: P, w :: vs, 0, m, nd, h1, h2, hk => by
    simp at h1 h2; subst h1; subst h2
    show bindC kindOf ((p, w) :: P.zip vs) m p = _
    unfold bindC
    rw [bindC_out fun v hv => (List.nodup_cons.mp nd).1 (List.of_mem_zip hv).1, if_neg hk]
    simp
  | p :: P, w :: vs, i + 1, m, nd, h1, h2, hk => by
    show bindC kindOf ((p, w) :: P.zip vs) m x = _
    unfold bindC
    exact bindC_get (i := i) (List.nodup_cons.mp nd).2 (by simpa using h1) (by simpa using h2) hk

/-- the names' values at the entry -/
def start (N : List Str) (vs : List V) : St := vs.map some ++ List.replicate (N.length - vs.length) none

/-- the context of a def's body, at its entry; an exception leaves the frame, then lies as CX says -/
def cxOf (CX : CXT) (P : Program) (w : World) (K : PySem.W.Frag) (mg : Str → Option Value) (base : Heap) (N : List Str) (qual : Str) (scope : Scope) (f : Addr) (cd : Value) (A : Around) (outer : List Env) (s : Shared) (H : Hp) (E : XK) : Cx where
  prog := P
  w := w
  K := K
  mg := mg
  base := base
  A := A.deeper (envOfC qual scope s.heap.objs.size f cd)
  N := N
  s₀ := s
  H₀ := H
  env := envOfC qual scope s.heap.objs.size f cd
  outer := outer
  stack := envOfC qual scope s.heap.objs.size f cd :: outer
  ex := []
  calm := true
  fn := fun _ => true
  pn := []
  xe := fun e s' => wpAny (model P w) (A.deeper (envOfC qual scope s.heap.objs.size f cd)) (leaving (envOfC qual scope s.heap.objs.size f cd) e) (fun _ s'' => CX outer H s E e s'') (fun e' s'' => CX outer H s E e' s'') s'

theorem cell_has {sc : Scope} {n : Nat} {x : Str} (h : sc.names.lookup x = some .cell) : ∃ c, (cellsFrom n sc.names []).lookup x = some c := by
  have q := PySem.W.cellsFrom_some sc.names n [] (.inl h)
  exact Option.isSome_iff_exists.mp q

theorem inv_start {CX : CXT} {P : Program} {w : World} {K : PySem.W.Frag} {mg : Str → Option Value} {base : Heap} {N ps : List Str} {qual : Str} {scope : Scope} {f : Addr} {cd : Value} {A : Around} {outer : List Env} {s s1 : Shared} {H : Hp} {E : XK} {us : List Value} {vs : List V}
    (S : FnScope N ps scope) (hd : A.handled = none) (e0 : Env0 P w K mg base A outer s H) (hl : vs.length = ps.length) (r : Vals vs us)
    (x : InCallC s s.heap.objs.size (bindL (envOfC qual scope s.heap.objs.size f cd).kindOf (ps.zip us) fun _ => none) (cellsFrom (s.heap.objs.size + 1) scope.names []) (bindC (envOfC qual scope s.heap.objs.size f cd).kindOf (ps.zip us) fun _ => none) s1) :
    Inv (cxOf CX P w K mg base N qual scope f cd A outer s H E) [] (start N vs) H s1 := by
  have hpl : ps.length ≤ N.length := by have := congrArg List.length S.pre; rw [List.length_take] at this; omega
  obtain ⟨h1, tk, rfl, hk⟩ := x.done
  have noA : ∀ b : Addr, b ∉ (cxOf CX P w K mg base N qual scope f cd A outer s H E).ex := fun b z => absurd (show b ∈ ([] : List Addr) from z) (by simp)
  refine ⟨⟨e0.mod, S.kind, rfl, rfl, Nat.le_refl _, fun y z c h1 h2 => ?_, fun y hy => ?_, fun y c _ h => ?_, fun _ => hd, Around.frames_deeper e0.frames, .inr ⟨rfl, rfl⟩, fun b z => absurd z (noA b), e0.bs, e0.bsz, fun b _ _ => noA b, fun b z => absurd z (noA b), e0.funs, e0.frf⟩,
    rfl, e0.bare, Un.kept hk, ⟨_, x.toInCall.ns, fun i y v h1 h2 h3 => ?_⟩, fun y c h => ⟨_, x.cell y c h⟩, e0.hok.fresh (Nat.le_refl _), fun y c h => ?_, fun p hp => absurd (show p ∈ ([] : List (Addr × Obj)) from hp) (by simp), e0.hok.kept hk, ?_⟩
  · exact name_of_addr x.apart (PySem.mem_of_lookup h1) (PySem.mem_of_lookup h2)
  · have hy : scope.names.lookup y = some .cell ∨ scope.names.lookup y = some .free := hy
    rcases hy with hy | hy
    · exact cell_has hy
    · exact absurd rfl (S.nofree _ (PySem.mem_of_lookup hy))
  · exact Nat.le_of_lt (x.above y c (PySem.mem_of_lookup h))
  · have hi : i < vs.length := by
      unfold start at h2
      by_cases hi : i < vs.length
      · exact hi
      · rw [List.getElem?_append_right (by simpa using hi)] at h2
        rw [List.getElem?_replicate] at h2
        split at h2 <;> cases h2
    have ha : vs[i]? = some v := by
      unfold start at h2
      rw [List.getElem?_append_left (by simpa using hi), List.getElem?_map] at h2
      cases e : vs[i]? with
      | none => rw [e] at h2; cases h2
      | some a => rw [e] at h2; cases h2; rfl
    obtain ⟨u, hu, rv⟩ := r.get ha
    have hp : ps[i]? = some y := by
      rw [← S.pre, List.getElem?_take_of_lt (by omega)]; exact h1
    have ndP : ps.Nodup := by rw [← S.pre]; exact S.nd.sublist (List.take_sublist _ _)
    refine ⟨u, rv, ?_⟩
    rcases S.par y (List.mem_of_getElem? hp) with k | k
    · exact .inl ⟨k, bindL_get ndP hp hu k⟩
    · obtain ⟨c, e⟩ := cell_has (n := s.heap.objs.size + 1) k
      refine .inr ⟨.inl k, c, e, ?_⟩
      have q := x.cell y c e
      rw [bindC_get ndP hp hu (by show scope.names.lookup y ≠ _; rw [k]; decide)] at q
      exact q
  · exact e0.hok.fresh (Nat.le_of_lt (x.above y c (PySem.mem_of_lookup h)))
  · unfold start
    show _ = N.length
    rw [List.length_append, List.length_map, List.length_replicate]
    omega

/-- THE RULE: a def (or a method) of the text, by its body. The body's reading t is chosen for each entry; it is run at the parameters' values -/
theorem fn_of {CX : CXT} {P : Program} {w : World} {K : PySem.W.Frag} {mg : Str → Option Value} {base : Heap} {k : Nat} {f : Addr} {name qual : Str} {params : Arguments} {body : List Stmt} {scope : Scope} {dV kV doc pm cdv ct oc : Value} {an od : Option Addr}
    {osl : Array (Option Value)} {N ps : List Str} {sp : Sp} (lk : K.lookup f = some ⟨oc, od, .func (PySem.W.fnOf name qual params body scope dV kV doc pm an cdv ct), osl⟩) (hcd : PySem.W.codeIn K cdv qual = true) (S : FnScope N ps scope)
    (len : ∀ vs H Q E, sp vs H Q E → vs.length = ps.length)
    (hbody : ∀ (A : Around) (outer : List Env) (s : Shared) (H : Hp) (vs : List V) (Q : VK) (E : XK), Room k (A.deeper (envOfC qual scope s.heap.objs.size f cdv)) → sp vs H Q E →
      ∃ t, PSs (cxOf CX P w K mg base N qual scope f cdv A outer s H E) body t ∧ t { nx := fun _ H' => Q .non H', rt := Q } (start N vs) H) :
    FnOk P w K mg base CX (k + 1) f (PySem.W.fnOf name qual params body scope dV kV doc pm an cdv ct) ps sp := by
  refine ⟨len, fun A outer s H args us vs Q E hr e0 hb r hsp => ?_⟩
  have hl := len _ _ _ _ hsp
  have KX : K.In s.heap := e0.mod.kin.keeps fun b o e => (e0.bs b o e).1
  have lim : s.heap.NoLimit := e0.mod.nolimit.keeps fun b o e => (e0.bs b o e).1
  have hkind : ∀ y ∈ ps.zip us, scope.names.lookup y.1 = some .local ∨ (scope.names.lookup y.1 = some .cell ∧ ((cellsFrom (s.heap.objs.size + 1) scope.names []).lookup y.1).isSome = true) := fun ⟨n, v⟩ hy => by
    rcases S.par n (List.of_mem_zip hy).1 with q | q
    · exact .inl q
    · exact .inr ⟨q, PySem.W.cellsFrom_some _ _ _ (.inl q)⟩
  refine codeAny_call_function hr.depth (KX _ _ lk) rfl S.co S.gen rfl (PySem.W.codeRec_of KX hcd) (hb _ _ _ _ ?_)
  refine wpAny_newFunctionEnv_cells S.kind hkind fun env he s1 x => ?_
  subst he
  refine ⟨lim.keeps x.toInCall.keep, codeAny_func ?_⟩
  obtain ⟨t, ht, hq⟩ := hbody A outer s H vs Q E (hr.deeper _) hsp
  have I : Inv (cxOf CX P w K mg base N qual scope f cdv A outer s H E) [] (start N vs) H s1 := inv_start S hr.hd e0 hl r x
  refine wpAny_mono (ht [] s1 (start N vs) H _ I hq) (fun fl s' hs => ?_) fun e s' hs => hs
  have fin : ∀ {σ' : St} {H' : Hp} {v : V} {u : Value}, Inv (cxOf CX P w K mg base N qual scope f cdv A outer s H E) [] σ' H' s' → RelV v u → Q v H' → CE outer P w H s Q u s' :=
    fun {σ' H' v u} J rv q => ⟨v, H', J.os, J.bare, J.base, J.hok, rv, q⟩
  cases fl with
  | ret u =>
    obtain ⟨v, σ', H', J, rv, q⟩ := hs
    exact fin J rv q
  | next =>
    obtain ⟨σ', H', J, q⟩ := hs
    exact fin (v := V.non) (u := Value.none) J rfl q
  | brk =>
    obtain ⟨_, _, _, q⟩ := hs
    exact False.elim q
  | cont =>
    obtain ⟨_, _, _, q⟩ := hs
    exact False.elim q
end L2

namespace L2
open PySem PySem.Spec PyProof.Rows
section
variable {X : Cx} {x : Str} {p pos : Pos} {e : Expr} {es : List Expr} {t : TA} {id T : String} {r : List V → Hp → VK → Prop}

def tCB (r : List V → Hp → VK → Prop) (t : TA) : TE := fun σ H Q => t σ H fun vs H1 => r vs H1 Q
/-- f(e, ..), f a built-in function -/
theorem pe_callB (hc : CallR X (.builtin id) r) (hg : Gl X x) (hm : X.mg x = none) (hv : bootBuiltins x = some (.builtin id)) (ha : PA X (e :: es) t) (hn : x ≠ "__name__" := by decide) (hdb : (x == ("__debug__" : Str)) = false := by decide)
    (he : starEach (e :: es) X.env = (false, eval e X.env) :: starEach es X.env := by rfl) (hpl : (backTo pos (starEach es X.env)).any (·.1) = false := by rfl) : PE X (.Call (.Name x p) (e :: es) [] pos) (tCB r t) := by
  intro pins s σ H Q I h
  refine wpAny_Call_Name_kw (ld_blt I hg hm hv ?_ hn hdb)
  exact PyProof.Rows.callWith_builtin1 (thn (ha pos pins s σ H _ I h) fun us s1 ⟨vs, H1, I1, r1, q1⟩ => hc pins s1 σ H1 vs us Q I1 r1 q1) he hpl
/-- T(e, ..), T a built-in type -/
theorem pe_callTy (hc : CallR X (.type T) r) (hg : Gl X x) (hm : X.mg x = none) (hv : bootBuiltins x = some (.type T)) (ha : PA X (e :: es) t) (hn : x ≠ "__name__" := by decide) (hdb : (x == ("__debug__" : Str)) = false := by decide)
    (he : starEach (e :: es) X.env = (false, eval e X.env) :: starEach es X.env := by rfl) (hpl : (backTo pos (starEach es X.env)).any (·.1) = false := by rfl) : PE X (.Call (.Name x p) (e :: es) [] pos) (tCB r t) := by
  intro pins s σ H Q I h
  refine wpAny_Call_Name_kw (ld_blt I hg hm hv ?_ hn hdb)
  exact PyProof.Rows.callWith_type1 (thn (ha pos pins s σ H _ I h) fun us s1 ⟨vs, H1, I1, r1, q1⟩ => hc pins s1 σ H1 vs us Q I1 r1 q1) he hpl
end
end L2

namespace HT
open PySem PyProof.Rows

/-- t < u of tuples of ints -/
def lexLt : List Int → List Int → Bool
  | [], [] => false
  | [], _ :: _ => true
  | _ :: _, [] => false
  | x :: xs, y :: ys => if x = y then lexLt xs ys else decide (x < y)
section
open PySem.SeqAt
open PySem.AutoSeq1 (wpAny_loadPart')
open PySem.MeetsSeq PySem.MeetsSeq2 PySem.MeetsSeq3

end

section
variable {prog : Program} {w : World} {A : Around} {E : Value → Shared → Prop} {s : Shared}

/-- t + u, t not empty -/
theorem cat_tup {t b : Addr} {vs ws : List Value} {Q : Value → Shared → Prop} (ht : IsTup s.heap t vs.toArray) (hb : IsTup s.heap b ws.toArray) (hv : vs ≠ [])
    (h1 : ws = [] → Q (.ref t) s) (h2 : ws ≠ [] → Q (.ref s.heap.objs.size) { s with heap := s.heap.push { cls := .type "tuple", data := .seq (vs ++ ws).toArray } })
    (hsz : vs.length + ws.length ≤ sizeLine) : wpAny (model prog w) A (binaryOp .Add (.ref t) (.ref b)) Q E s := by
  obtain ⟨⟨cls, dd, data, sl⟩, ho, hc, n, hd⟩ := id ht
  obtain ⟨⟨cls2, dd2, data2, sl2⟩, ho2, hc2, n2, hd2⟩ := id hb
  simp only at hc hd hc2 hd2
  subst hc hd hc2 hd2
  have e : vs.toArray ++ ws.toArray = (vs ++ ws).toArray := by simp
  by_cases hw : ws = []
  · exact concat_meets ⟨_, ho, rfl⟩ ⟨_, ho2, rfl⟩ noFill_tuple_add seq_tuple_add PySem.F.slot_tuple_add PySem.F.entry_tuple_add (PySem.F.args_tuple_add_2 _ _)
      (tuple_addW1 t b vs.toArray ws.toArray n n2 dd dd2 sl sl2 (by simpa using hv) (by simp [hw])) ⟨ho, ho2, h1 hw⟩
  · refine concat_meets ⟨_, ho, rfl⟩ ⟨_, ho2, rfl⟩ noFill_tuple_add seq_tuple_add PySem.F.slot_tuple_add PySem.F.entry_tuple_add (PySem.F.args_tuple_add_2 _ _)
      (tuple_addW2 t b vs.toArray ws.toArray n n2 dd dd2 sl sl2 (by simpa using hv) (by simpa using hw) (by rw [List.size_toArray, List.size_toArray]; exact hsz)) ⟨ho, ho2, ?_⟩
    rw [e]
    exact h2 hw

/-! ### t[a:b], not the whole -/
/-- a slice's bound as a place among n (d where it is left out) -/
def sIx (n d : Nat) : Option Int → Nat
  | none => d
  | some v => if v < 0 then (v + (n : Int)).toNat else min v.toNat n
theorem sIx_none (n d : Nat) : sIx n d none = d := rfl
theorem sIx_nat (n d k : Nat) : sIx n d (some (k : Int)) = min k n := by
  show (if (k : Int) < 0 then ((k : Int) + (n : Int)).toNat else min (k : Int).toNat n) = min k n
  rw [if_neg (by omega), Int.toNat_natCast]
theorem sIx_le (n d : Nat) (hd : d ≤ n) (o : Option Int) : sIx n d o ≤ n := by
  cases o with
  | none => exact hd
  | some v =>
    show (if v < 0 then (v + (n : Int)).toNat else min v.toNat n) ≤ n
    by_cases hv : v < 0
    · rw [if_pos hv]; omega
    · rw [if_neg hv]; exact Nat.min_le_right _ _
theorem clip_eq (v : Int) (n d : Nat) : (if v < 0 then max (v + (n : Int)) 0 else min v (n : Int)) = ((sIx n d (some v) : Nat) : Int) := by
  show (if v < 0 then max (v + (n : Int)) 0 else min v (n : Int)) = (((if v < 0 then (v + (n : Int)).toNat else min v.toNat n) : Nat) : Int)
  by_cases hv : v < 0
  · simp only [if_pos hv]; omega
  · simp only [if_neg hv]; omega
theorem adjust_gen (lo hi : Option Int) (n : Nat) : Builtin.Slice.sliceAdjust lo hi 1 (n : Int) = (((sIx n 0 lo : Nat) : Int), ((sIx n n hi : Nat) : Int)) := by
  have h1 : ¬ ((1 : Int) < 0) := by omega
  unfold Builtin.Slice.sliceAdjust
  simp only [h1, if_false]
  refine Prod.ext ?_ ?_
  · cases lo with
    | none => rfl
    | some v => exact clip_eq v n 0
  · cases hi with
    | none => rfl
    | some v => exact clip_eq v n n
theorem places_gen (i j : Nat) : Builtin.Slice.slicePlaces (i : Int) (j : Int) 1 = j - i := by
  unfold Builtin.Slice.slicePlaces
  have h1 : (1 : Int) > 0 := by omega
  simp only [h1, if_true, Int.ediv_one]
  split <;> omega
theorem slicePart_ {v : Value} {o : Option Int} {Q : Option Int → Shared → Prop} (p : IsPart v o) (h : Q o s) : wpAny (model prog w) A (Builtin.Slice.slicePartIndex v) Q E s := by
  cases p with
  | none => exact slicePart_none h
  | int i t => exact slicePart_int h
theorem sliceApplied_gen {sl : Addr} {vl vu : Value} {lo hi : Option Int} {n : Nat} {Q : Int × Int × Nat → Shared → Prop} (hs : s.heap.IsSliceOf sl vl vu .none) (pl : IsPart vl lo) (pu : IsPart vu hi)
    (h : Q (((sIx n 0 lo : Nat) : Int), 1, sIx n n hi - sIx n 0 lo) s) : wpAny (model prog w) A (Builtin.Slice.sliceApplied (.ref sl) (pure (n : Int))) Q E s := by
  obtain ⟨os, hos, hcs, hds⟩ := id hs
  unfold Builtin.Slice.sliceApplied Builtin.Slice.sliceFields
  refine wpAny_bind (wpAny_bind (wpAny_field hos hds (x := vl) rfl (wpAny_bind (wpAny_field hos hds (x := vu) rfl (wpAny_bind (wpAny_field hos hds (x := .none) rfl (wpAny_pure ?_)))))))
  refine wpAny_bind (slicePart_none ?_)
  show wpAny _ _ (if ((1 : Int) == 0) = true then _ else _) _ _ s
  rw [if_neg (by decide)]
  refine wpAny_bind (slicePart_ pl (wpAny_bind (slicePart_ pu (wpAny_bind (wpAny_pure ?_)))))
  show wpAny _ _ (match Builtin.Slice.sliceAdjust lo hi 1 (n : Int) with | (lo, hi) => pure (lo, (1 : Int), Builtin.Slice.slicePlaces lo hi 1)) _ _ s
  rw [adjust_gen lo hi n]
  show wpAny _ _ (pure (((sIx n 0 lo : Nat) : Int), (1 : Int), Builtin.Slice.slicePlaces ((sIx n 0 lo : Nat) : Int) ((sIx n n hi : Nat) : Int) 1)) _ _ s
  rw [places_gen]
  exact wpAny_pure h
theorem pick_gen (xs : Array Value) (i k : Nat) : ((List.range k).filterMap fun (m : Nat) => xs[((i : Int) + (m : Int) * 1).toNat]?).toArray = ((xs.toList.drop i).take k).toArray := by
  have e : (fun (m : Nat) => xs[((i : Int) + (m : Int) * 1).toNat]?) = fun m => xs[i + m]? := by
    funext m
    have : ((i : Int) + (m : Int) * 1).toNat = i + m := by omega
    rw [this]
  rw [e]
  have := pick_run xs i k
  rw [List.filterMap_map] at this
  have e2 : ((fun x => xs[x]?) ∘ fun x => i + x) = fun m => xs[i + m]? := rfl
  rw [e2] at this
  rw [this]

theorem getItem_tuple_cut {t sl : Addr} {items : Array Value} {vl vu : Value} {lo hi : Option Int} {Q : Value → Shared → Prop} (ht : IsTup s.heap t items) (hs : s.heap.IsSliceOf sl vl vu .none) (pl : IsPart vl lo) (pu : IsPart vu hi)
    (hw : ¬ (sIx items.size 0 lo = 0 ∧ sIx items.size items.size hi = items.size))
    (h : Q (.ref s.heap.objs.size) { s with heap := s.heap.push { cls := .type "tuple", data := .seq ((items.toList.drop (sIx items.size 0 lo)).take (sIx items.size items.size hi - sIx items.size 0 lo)).toArray } })
    (hsz : items.size ≤ sizeLine) : wpAny (model prog w) A (getItem (.ref t) (.ref sl)) Q E s := by
  have htake : sizeOk (.seq ((items.toList.drop (sIx items.size 0 lo)).take (sIx items.size items.size hi - sIx items.size 0 lo)).toArray) := by
    show ((items.toList.drop (sIx items.size 0 lo)).take (sIx items.size items.size hi - sIx items.size 0 lo)).toArray.size ≤ sizeLine
    rw [List.size_toArray, List.length_take, List.length_drop, Array.length_toList]
    omega
  have hj : sIx items.size items.size hi ≤ items.size := sIx_le _ _ (Nat.le_refl _) hi
  obtain ⟨os, hos, hcs, hds⟩ := id hs
  have hTs : s.TypeIs (.ref sl) "slice" := ⟨os, hos, hcs⟩
  unfold getItem
  try with_reducible refine wpAny_holding ?_
  first | refine wpAny_bind (wpAny_pure ?_) | skip
  refine wpAny_bind (wpAny_sequenceKey ht.typeIs (by decide) ?_)
  refine wpAny_bind (wpAny_callSpecial?_slot (name := Str.ofString "__getitem__") ht.typeIs PyProof.Rows.slot_tuple_getitem
    (wpAny_call_entry PyProof.Rows.slot_tuple_getitem ht.typeIs entry_tuple_getitem ?_ (args_tuple_getitem _ _)))
  show wpAny _ _ (Builtin.Tuple.tupleItemsOf (.ref t) >>= _) _ _ s
  refine wpAny_bind (tupleItemsOf_ ht ?_)
  refine wpAny_bind (wpAny_typeOf hTs ?_)
  rw [if_pos (by decide)]
  refine wpAny_bind (sliceApplied_gen hs pl pu ?_)
  have hno : ¬ ((((sIx items.size 0 lo : Nat) : Int) == 0 && (1 : Int) == 1 && (sIx items.size items.size hi - sIx items.size 0 lo) == items.size) = true) := by
    intro q
    rw [Bool.and_eq_true, Bool.and_eq_true] at q
    have q1 : ((sIx items.size 0 lo : Nat) : Int) = 0 := eq_of_beq q.1.1
    have q2 : sIx items.size items.size hi - sIx items.size 0 lo = items.size := eq_of_beq q.2
    exact hw ⟨by omega, by omega⟩
  show wpAny _ _ (if (((sIx items.size 0 lo : Nat) : Int) == 0 && (1 : Int) == 1 && (sIx items.size items.size hi - sIx items.size 0 lo) == items.size) = true then _ else _) _ _ s
  rw [if_neg hno, pick_gen]
  first
    | exact wpAny_bind (m := Builtin.Tuple.tupleExact _) (wpAny_newObj_type (wpAny_pure ⟨_, rfl, wpAny_pure h⟩) htake)
    | exact wpAny_bind (m := Builtin.Tuple.tupleExact _) (wpAny_newObj_type (wpAny_bind (wpAny_pure (wpAny_pure ⟨_, rfl, wpAny_pure h⟩))) htake)
    | exact wpAny_bind (wpAny_bind (m := Builtin.Tuple.tupleExact _) (wpAny_newObj_type (wpAny_pure (wpAny_pure ⟨_, rfl, wpAny_pure h⟩)) htake))
    | exact wpAny_bind (wpAny_bind (m := Builtin.Tuple.tupleExact _) (wpAny_newObj_type (wpAny_pure ⟨_, rfl, wpAny_pure h⟩) htake))
end
end HT

namespace L2
open PySem PySem.Spec PyProof.Rows

/-! ### the parts of a slice -/
abbrev TO := St → Hp → (Option Int → Hp → Prop) → Prop
/-- a slice's part (left out, or an int) -/
def PO (X : Cx) (e : Option Expr) (t : TO) : Prop :=
  ∀ (pins : List (Addr × Obj)) (s : Shared) (σ : St) (H : Hp) (Q : Option Int → Hp → Prop), Inv X pins σ H s → t σ H Q →
    wpAny (model X.prog X.w) X.A (evalPart e X.env) (fun u s' => ∃ o H', Inv X pins σ H' s' ∧ IsPart u o ∧ Q o H') X.xe s
def tNoPart : TO := fun _ H Q => Q none H
def tPart (t : TE) : TO := fun σ H Q => t σ H fun x H1 => ∃ i, x = .int i ∧ Q (some i) H1

section
variable {X : Cx} {e : Expr} {te : TE} {lo hi : Option Expr} {tl th : TO} {pos p2 : Pos}

theorem po_none : PO X none tNoPart := by
  intro pins s σ H Q I h
  rw [evalPart_none]
  exact wpAny_pure ⟨none, H, I, .none, h⟩
theorem po_some (h : PE X e te) : PO X (some e) (tPart te) := by
  intro pins s σ H Q I hw
  rw [evalPart_some]
  refine thn (h pins s σ H _ I hw) fun u s1 ⟨x, H1, I1, r1, q1⟩ => ?_
  obtain ⟨i, rfl, q⟩ := q1
  obtain ⟨t, rfl⟩ := r1
  exact ⟨some i, H1, I1, .int i t, q⟩

/-- what a slice of a value is, by values: the slice object stands at sl -/
def SlR (X : Cx) (r : V → Option Int → Option Int → Hp → VK → Prop) : Prop :=
  ∀ (pins : List (Addr × Obj)) (s : Shared) (σ : St) (H : Hp) (x : V) (v vl vu : Value) (lo hi : Option Int) (sl : Addr) (Q : VK), Inv X pins σ H s → RelV x v → s.heap.IsSliceOf sl vl vu .none → IsPart vl lo → IsPart vu hi → r x lo hi H Q →
    ∃ T id, typeLookup (.type T) "__getitem__" = pure (some (.builtin id)) ∧ s.TypeIs v T ∧ wpAny (model X.prog X.w) X.A (getItem v (.ref sl)) (EP X pins σ Q) X.xe s
def tSl (r : V → Option Int → Option Int → Hp → VK → Prop) (te : TE) (tl th : TO) : TE := fun σ H Q => te σ H fun x H1 => tl σ H1 fun l H2 => th σ H2 fun u H3 => r x l u H3 Q
/-- a[lo:hi], any a -/
theorem pe_slice {r : V → Option Int → Option Int → Hp → VK → Prop} (hr : SlR X r) (he : PE X e te) (hl : PO X lo tl) (hu : PO X hi th) : PE X (.Subscript e (.Slice lo hi none p2) pos) (tSl r te tl th) := by
  intro pins s σ H Q I h
  refine Subscript_ (thn (he pins s σ H _ I h) fun v s1 ⟨x, H1, I1, r1, q1⟩ => ?_)
  refine wpAny_Slice (thn (hl pins s1 σ H1 _ I1 q1) fun vl s2 ⟨l, H2, I2, pl, q2⟩ => thn (hu pins s2 σ H2 _ I2 q2) fun vu s3 ⟨u, H3, I3, pu, q3⟩ => ?_)
  rw [evalPart_none]
  refine wpAny_pure ?_
  have I4 : Inv X pins σ H3 { s3 with heap := s3.heap.push { cls := .type "slice", data := .fields #[vl, vu, .none] } } := I3.kept (t' := s3.toks) fun b ob q => Heap.get?_push_of_some _ q
  obtain ⟨T, id, hT, ht, hg⟩ := hr pins { s3 with heap := s3.heap.push { cls := .type "slice", data := .fields #[vl, vu, .none] } } σ H3 x v vl vu l u s3.heap.objs.size Q I4 r1 (Heap.IsSliceOf.new ..) pl pu q3
  show wpAny (model X.prog X.w) X.A (subscriptTail e (.Slice lo hi none p2) v (.ref s3.heap.objs.size)) (EP X pins σ Q) X.xe { s3 with heap := s3.heap.push { cls := .type "slice", data := .fields #[vl, vu, .none] } }
  exact tail_any (ops := [.ref s3.heap.objs.size, v]) ht hT hg (by with_unfolding_all rfl)

/-- the items of xs[lo:hi] -/
def cutV (xs : List V) (lo hi : Option Int) : List V := (xs.drop (HT.sIx xs.length 0 lo)).take (HT.sIx xs.length xs.length hi - HT.sIx xs.length 0 lo)
theorem cutV_length (xs : List V) (lo hi : Option Int) : (cutV xs lo hi).length ≤ xs.length := by
  unfold cutV
  rw [List.length_take, List.length_drop]
  omega
/-- t[lo:hi], not the whole of it (the whole would be t itself) -/
def rSlT (K : PySem.W.Frag) : V → Option Int → Option Int → Hp → VK → Prop := fun x lo hi H Q => ∃ a xs, x = .ref a ∧ SqT K H a xs ∧
  ¬ (HT.sIx xs.length 0 lo = 0 ∧ HT.sIx xs.length xs.length hi = xs.length) ∧ ∀ p, H p = none → Q (.ref p) (upd H p (.tup (cutV xs lo hi)))
theorem sl_tup : SlR X (rSlT X.K) := by
  intro pins s σ H x v vl vu lo hi sl Q I rx hs pl pu h
  obtain ⟨a, xs, rfl, hx, hw, q⟩ := h
  cases rx
  obtain ⟨its, r, ht, hz⟩ := I.tuple hx
  have hlen : its.toArray.size = xs.length := by rw [List.size_toArray]; exact r.length.symm
  refine ⟨"tuple", _, PyProof.Rows.slot_tuple_getitem.lookup, ht.typeIs, ?_⟩
  refine HT.getItem_tuple_cut ht hs pl pu (by rw [hlen]; exact hw) ?_ (by rw [hlen]; exact hz)
  rw [hlen]
  refine ⟨.ref s.heap.objs.size, _, I.laid (t' := s.toks) (o := .tup (cutV xs lo hi)) (fun b ob q => Heap.get?_push_of_some _ q) (Nat.le_refl _) ?_, rfl, q _ (I.hok.fresh (Nat.le_refl _))⟩
  exact ⟨Nat.le_trans (cutV_length xs lo hi) hz, _, (r.drop (HT.sIx xs.length 0 lo)).take (HT.sIx xs.length xs.length hi - HT.sIx xs.length 0 lo), IsTup.new _ _⟩

/-! ### t < u, t + u -/
def rLtT (K : PySem.W.Frag) : R2 := fun x y H Q => ∃ a b ns ms, x = .ref a ∧ y = .ref b ∧ SqT K H a (ns.map V.int) ∧ SqT K H b (ms.map V.int) ∧ Q (.bl (HT.lexLt ns ms)) H
/-- t + u, t not empty: u empty gives t itself -/
def rCatT (K : PySem.W.Frag) : R2 := fun x y H Q => ∃ a b xs ys, x = .ref a ∧ y = .ref b ∧ SqT K H a xs ∧ SqT K H b ys ∧ xs ≠ [] ∧ xs.length + ys.length ≤ sizeLine ∧
  (ys = [] → Q (.ref a) H) ∧ (ys ≠ [] → ∀ p, H p = none → Q (.ref p) (upd H p (.tup (xs ++ ys))))
theorem Vals.nil_iff {xs : List V} {us : List Value} (r : Vals xs us) : us = [] ↔ xs = [] := by
  cases r with
  | nil => simp
  | cons _ _ => simp
theorem op_catT : OpR X (binaryOp .Add) (rCatT X.K) := by
  intro pins s σ H x y v u Q I rx ry h
  obtain ⟨a, b, xs, ys, rfl, rfl, ha, hb, hx, hz, q1, q2⟩ := h
  cases rx
  cases ry
  obtain ⟨its, r1, p1, _⟩ := I.tuple ha
  obtain ⟨its2, r2, p2, _⟩ := I.tuple hb
  refine HT.cat_tup p1 p2 (fun z => hx (r1.nil_iff.mp z)) (fun z => ⟨.ref a, H, I, rfl, q1 (r2.nil_iff.mp z)⟩) (fun z => ?_) (by rw [← r1.length, ← r2.length]; exact hz)
  refine ⟨.ref s.heap.objs.size, _, I.laid (t' := s.toks) (o := .tup (xs ++ ys)) (fun b ob q => Heap.get?_push_of_some _ q) (Nat.le_refl _) ?_, rfl, q2 (fun w => z (r2.nil_iff.mpr w)) _ (I.hok.fresh (Nat.le_refl _))⟩
  exact ⟨by rw [List.length_append]; exact hz, _, r1.append r2, IsTup.new _ _⟩
end
end L2

namespace L2
open PySem PySem.Spec PyProof.Rows

/-! ### places -/
/-- the place that an index of any sign means -/
def ixN (n : Nat) (i : Int) : Option Nat := if 0 ≤ i then (if i < n then some i.toNat else none) else if -(n : Int) ≤ i then some (i + n).toNat else none
def atI {α : Type} (xs : List α) (i : Int) : Option α := (ixN xs.length i).bind fun j => xs[j]?
theorem ixN_seq {n : Nat} {i : Int} {j : Nat} (h : ixN n i = some j) : seqIndex? i n = some j ∧ j < n ∧ -(n : Int) ≤ i ∧ i < n := by
  unfold ixN at h
  by_cases h0 : 0 ≤ i
  · rw [if_pos h0] at h
    by_cases h1 : i < n
    · rw [if_pos h1] at h
      have e : i.toNat = j := Option.some.inj h
      exact ⟨by rw [seqIndex_of h0 h1, e], by omega, by omega, h1⟩
    · rw [if_neg h1] at h; cases h
  · rw [if_neg h0] at h
    by_cases h1 : -(n : Int) ≤ i
    · rw [if_pos h1] at h
      have e : (i + n).toNat = j := Option.some.inj h
      exact ⟨by rw [seqIndex_neg (by omega) h1, e], by omega, h1, by omega⟩
    · rw [if_neg h1] at h; cases h
theorem atI_get {α : Type} {xs : List α} {i : Int} {v : α} (h : atI xs i = some v) : ∃ j, seqIndex? i xs.length = some j ∧ xs[j]? = some v ∧ j < xs.length ∧ -(xs.length : Int) ≤ i ∧ i < xs.length := by
  unfold atI at h
  cases e : ixN xs.length i with
  | none => rw [e] at h; cases h
  | some j =>
    rw [e] at h
    obtain ⟨h1, h2, h3, h4⟩ := ixN_seq e
    exact ⟨j, h1, h, h2, h3, h4⟩
theorem atI_nat {α : Type} {xs : List α} {j : Nat} {v : α} (h : xs[j]? = some v) : atI xs (j : Int) = some v := by
  have hj : j < xs.length := (List.getElem?_eq_some_iff.mp h).1
  have e : ixN xs.length (j : Int) = some j := by
    unfold ixN
    rw [if_pos (by omega), if_pos (by omega)]; simp
  unfold atI; rw [e]; exact h
/-! ### what may be subscripted -/
/-- what stands as an index of a plain subscript -/
def PlainIx (b : Expr) : Prop := ∀ o i, subscripted b false o i = operate [o, i] (getItem o i)
/-- a subscript by values -/
def IxR (X : Cx) (r : R2) : Prop :=
  ∀ (value slice : Expr) (pins : List (Addr × Obj)) (s : Shared) (σ : St) (H : Hp) (x y : V) (v u : Value) (Q : VK), Inv X pins σ H s → RelV x v → RelV y u → r x y H Q →
    subscripted slice false v u = operate [v, u] (getItem v u) → wpAny (model X.prog X.w) X.A (subscriptTail value slice v u) (EP X pins σ Q) X.xe s
/-- a call of a builtin's method by values: the receiver, the arguments -/
def MtR (X : Cx) (id : String) (r : V → List V → Hp → VK → Prop) : Prop :=
  ∀ (pins : List (Addr × Obj)) (s : Shared) (σ : St) (H : Hp) (x : V) (xs : List V) (v : Value) (us : List Value) (Q : VK), Inv X pins σ H s → RelV x v → Vals xs us → r x xs H Q →
    wpAny (model X.prog X.w) X.A (call (.builtin id) (v :: us)) (EP X pins σ Q) X.xe s
section
variable {X : Cx} {a b : Expr} {ta tb : TE} {pos : Pos}
/-- a[b] -/
theorem pe_ix {r : R2} (hr : IxR X r) (ha : PE X a ta) (hb : PE X b tb) (hs : PlainIx b) : PE X (.Subscript a b pos) (tOp r ta tb) := by
  intro pins s σ H Q I h
  exact Subscript_ (binT ha hb I h fun v u s2 x y H2 I2 rx ry q => hr a b pins s2 σ H2 x y v u Q I2 rx ry q (hs _ _))

def rIxL (K : PySem.W.Frag) : R2 := fun x y H Q => ∃ p xs i v, x = .ref p ∧ y = .int i ∧ SqL K H p xs ∧ atI xs i = some v ∧ Q v H
def rIxT (K : PySem.W.Frag) : R2 := fun x y H Q => ∃ p xs i v, x = .ref p ∧ y = .int i ∧ SqT K H p xs ∧ atI xs i = some v ∧ Q v H
def rIxS : R2 := fun x y H Q => ∃ z i c, x = .str z ∧ y = .int i ∧ z.length ≤ sizeLine ∧ atI z.cps.toList i = some c ∧ Q (.str ⟨#[c]⟩) H
theorem ix_list : IxR X (rIxL X.K) := by
  intro value slice pins s σ H x y v u Q I rx ry h hs
  obtain ⟨p, xs, i, z, rfl, rfl, hq, he, q⟩ := h
  cases rx
  obtain ⟨t, rfl⟩ := ry
  obtain ⟨its, r, pl, hz⟩ := I.list hq
  obtain ⟨j, h1, h2, h3, h4, h5⟩ := atI_get he
  obtain ⟨w, ew, rw'⟩ := r.get h2
  have hl := r.length
  have hn := line63
  have fin : EP X pins σ Q w s := ⟨z, H, I, rw', q⟩
  by_cases h0 : 0 ≤ i
  · have hj : i.toNat = j := by
      rw [seqIndex_of h0 h5] at h1
      exact Option.some.inj h1
    exact item_listR pl.isList h0 (by omega) (by rw [hj]; simpa using ew) fin hs
  · have hj : (i + (its.toArray.size : Int)).toNat = j := by
      rw [seqIndex_neg (by omega) h4] at h1
      rw [List.size_toArray, ← hl]
      exact Option.some.inj h1
    exact subscriptTail_builtinR (x := w) pl.isList.typeIs slot_list_getitem.lookup
      (wpAny_getItem_list_neg (Q := fun r s' => r = w ∧ EP X pins σ Q r s') pl.isList (by omega) (by rw [List.size_toArray] <;> omega) (by omega) (by rw [hj]; simpa using ew) ⟨rfl, fin⟩) hs
theorem ix_tup : IxR X (rIxT X.K) := by
  intro value slice pins s σ H x y v u Q I rx ry h hs
  obtain ⟨p, xs, i, z, rfl, rfl, hq, he, q⟩ := h
  cases rx
  obtain ⟨t, rfl⟩ := ry
  obtain ⟨its, r, pl, hz⟩ := I.tuple hq
  obtain ⟨j, h1, h2, h3, h4, h5⟩ := atI_get he
  obtain ⟨w, ew, rw'⟩ := r.get h2
  have hl := r.length
  have hn := line63
  have fin : EP X pins σ Q w s := ⟨z, H, I, rw', q⟩
  exact subscriptTail_builtinR (x := w) pl.typeIs slot_tuple_getitem.lookup
    (getItem_tuple (j := j) (Q := fun r s' => r = w ∧ EP X pins σ Q r s') pl (by omega) (by omega) (by rw [List.size_toArray, ← hl]; exact h1) (by simpa using ew) ⟨rfl, fin⟩) hs
/-- list, tuple or str -/
def rIx (K : PySem.W.Frag) : R2 := fun x y H Q => rIxL K x y H Q ∨ rIxT K x y H Q ∨ rIxS x y H Q
/-! ### xs[i] = v, any sign -/
def rSetL : V → V → V → Hp → (Hp → Prop) → Prop := fun o i v H Q => ∃ p xs k j, o = .ref p ∧ i = .int k ∧ H p = some (.lst xs) ∧ ixN xs.length k = some j ∧ Q (upd H p (.lst (xs.set j v)))
/-! ### slices -/
theorem slice_bounds (lo hi : Option Int) (n : Nat) : (sliceBounds lo hi none n).1 = ((HT.sIx n 0 lo : Nat) : Int) ∧ (sliceBounds lo hi none n).2.1 = ((HT.sIx n n hi : Nat) : Int) ∧ (sliceBounds lo hi none n).2.2 = 1 := by
  refine ⟨?_, ?_, rfl⟩
  · cases lo with
    | none => simp [sliceBounds, HT.sIx]
    | some i =>
      simp only [sliceBounds, HT.sIx, Option.getD_none, show (1 : Int) > 0 by decide, if_true]
      by_cases h : i < 0
      · simp only [h, if_true] <;> omega
      · simp only [h, if_false] <;> omega
  · cases hi with
    | none => simp [sliceBounds, HT.sIx]
    | some i =>
      simp only [sliceBounds, HT.sIx, Option.getD_none, show (1 : Int) > 0 by decide, if_true]
      by_cases h : i < 0
      · simp only [h, if_true] <;> omega
      · simp only [h, if_false] <;> omega
theorem slicePick_cut (its : List Value) (lo hi : Option Int) : slicePick its.toArray lo hi none = ((its.drop (HT.sIx its.length 0 lo)).take (HT.sIx its.length its.length hi - HT.sIx its.length 0 lo)).toArray := by
  obtain ⟨h1, h2, h3⟩ := slice_bounds lo hi its.toArray.size
  unfold slicePick
  rw [h1, h2, h3]
  simp only [sliceRange_one, pick_run, List.size_toArray] <;> rfl
/-- xs[lo:hi] of a list: a new list -/
def rSlL (K : PySem.W.Frag) : V → Option Int → Option Int → Hp → VK → Prop := fun x lo hi H Q => ∃ a xs, x = .ref a ∧ SqL K H a xs ∧ ∀ p, H p = none → Q (.ref p) (upd H p (.lst (cutV xs lo hi)))
theorem sl_list : SlR X (rSlL X.K) := by
  intro pins s σ H x v vl vu lo hi sl Q I rx hs pl pu h
  obtain ⟨a, xs, rfl, hx, q⟩ := h
  cases rx
  obtain ⟨its, r, ht, hz⟩ := I.list hx
  have hlen := r.length
  refine ⟨"list", _, slot_list_getitem.lookup, ht.isList.typeIs, ?_⟩
  refine wpAny_getItem_list_slice ht.isList hs pl pu .none (by simp) ?_ (by rw [List.size_toArray] <;> omega)
  rw [slicePick_cut, ← hlen]
  refine ⟨.ref s.heap.objs.size, _, I.laid (t' := s.toks) (o := .lst (cutV xs lo hi)) (fun b ob q => Heap.get?_push_of_some _ q) (Nat.le_refl _) ?_, rfl, q _ (I.hok.fresh (Nat.le_refl _))⟩
  exact ⟨Nat.le_trans (cutV_length xs lo hi) hz, _, 0, (r.drop (HT.sIx xs.length 0 lo)).take (HT.sIx xs.length xs.length hi - HT.sIx xs.length 0 lo), Heap.get?_push_size _ rfl⟩

/-! ### in, not in: flat items -/
def flatV : V → Bool
  | .non => true
  | .bl _ => true
  | .int _ => true
  | .str _ => true
  | _ => false
/-- == of flat values -/
def eqV : V → V → Bool
  | .non, .non => true
  | .bl a, .bl b => a == b
  | .bl a, .int b => (if a then 1 else 0) == b
  | .int a, .bl b => a == (if b then 1 else 0)
  | .int a, .int b => a == b
  | .str a, .str b => a == b
  | _, _ => false
theorem eqAt_V {A : Around} {s : Shared} {y x : V} {u v : Value} (ry : RelV y u) (rx : RelV x v) (fy : flatV y = true) (fx : flatV x = true) : SeqAt.EqAt A s u v (eqV y x) := by
  cases y with
  | non =>
    cases ry
    cases x with
    | non => cases rx; exact SeqAt.EqAt.same _
    | bl b => cases rx; exact SeqAt.EqAt.none_bool b
    | int b => obtain ⟨t, rfl⟩ := rx; exact SeqAt.EqAt.none_int b t
    | str b => obtain ⟨t, rfl⟩ := rx; exact SeqAt.EqAt.none_str b t
    | _ => exact absurd (show false = true from fx) Bool.false_ne_true
  | bl a =>
    cases ry
    cases x with
    | non => cases rx; exact SeqAt.EqAt.bool_none a
    | bl b => cases rx; exact SeqAt.EqAt.bool_bool a b
    | int b => obtain ⟨t, rfl⟩ := rx; exact SeqAt.EqAt.bool_int a b t
    | str b => obtain ⟨t, rfl⟩ := rx; exact SeqAt.EqAt.bool_str a b t
    | _ => exact absurd (show false = true from fx) Bool.false_ne_true
  | int a =>
    obtain ⟨t', rfl⟩ := ry
    cases x with
    | non => cases rx; exact SeqAt.EqAt.int_none a t'
    | bl b => cases rx; exact SeqAt.EqAt.int_bool a t' b
    | int b => obtain ⟨t, rfl⟩ := rx; exact SeqAt.EqAt.int_int a t' b t
    | str b => obtain ⟨t, rfl⟩ := rx; exact SeqAt.EqAt.int_str a t' b t
    | _ => exact absurd (show false = true from fx) Bool.false_ne_true
  | str a =>
    obtain ⟨t', rfl⟩ := ry
    cases x with
    | non => cases rx; exact SeqAt.EqAt.str_none a t'
    | bl b => cases rx; exact SeqAt.EqAt.str_bool a t' b
    | int b => obtain ⟨t, rfl⟩ := rx; exact SeqAt.EqAt.str_int a t' b t
    | str b => obtain ⟨t, rfl⟩ := rx; exact SeqAt.EqAt.str_str a t' b t
    | _ => exact absurd (show false = true from fx) Bool.false_ne_true
  | _ => exact absurd (show false = true from fy) Bool.false_ne_true
/-- the items' answers, read off the values (a value's own answer does not lean on its token) -/
def eqU (x : V) (u : Value) : Bool := match u with
  | .none => eqV .non x
  | .bool b => eqV (.bl b) x
  | .int i _ => eqV (.int i) x
  | .str z _ => eqV (.str z) x
  | _ => false
theorem eqU_of {x y : V} {u : Value} (r : RelV y u) (f : flatV y = true) : eqU x u = eqV y x := by
  cases y with
  | non => cases r; rfl
  | bl b => cases r; rfl
  | int i => obtain ⟨t, rfl⟩ := r; rfl
  | str z => obtain ⟨t, rfl⟩ := r; rfl
  | _ => exact absurd (show false = true from f) Bool.false_ne_true
theorem any_eqU {x : V} : ∀ {xs : List V} {us : List Value}, Vals xs us → xs.all flatV = true → us.any (eqU x) = xs.any fun y => eqV y x
  | _, _, .nil, _ => rfl
  | y :: xs, u :: us, .cons r t, f => by
    rw [List.all_cons, Bool.and_eq_true] at f
    rw [List.any_cons, List.any_cons, eqU_of r f.1, any_eqU t f.2]
theorem mem_eqAt {A : Around} {s : Shared} {x : V} {v : Value} (rx : RelV x v) (fx : flatV x = true) : ∀ {xs : List V} {us : List Value}, Vals xs us → xs.all flatV = true → ∀ u ∈ us, SeqAt.EqAt A s u v (eqU x u)
  | _, _, .nil, _ => fun u hu => by cases hu
  | y :: xs, u :: us, .cons r t, f => fun u' hu => by
    rw [List.all_cons, Bool.and_eq_true] at f
    rcases List.mem_cons.mp hu with rfl | hu
    · rw [eqU_of r f.1]; exact eqAt_V r rx f.1 fx
    · exact mem_eqAt rx fx t f.2 u' hu
def inV (x : V) (xs : List V) : Bool := xs.any fun y => eqV y x
/-- x in a list or tuple of flat items -/
def rIn (K : PySem.W.Frag) (neg : Bool) : R2 := fun x y H Q => ∃ p xs, y = .ref p ∧ (SqL K H p xs ∨ SqT K H p xs) ∧ flatV x = true ∧ xs.all flatV = true ∧ Q (.bl (if neg then !inV x xs else inV x xs)) H
theorem op_in_seq : OpR X (compareOp .In) (rIn X.K false) := by
  intro pins s σ H x y v u Q I rx ry h
  obtain ⟨p, xs, rfl, hq, fx, fs, q⟩ := h
  cases ry
  rcases hq with hq | hq
  · obtain ⟨its, r, pl, hz⟩ := I.list hq
    refine SeqAt.in_listAt (eqU x) pl.isList (fun w hw => mem_eqAt rx fx r fs w (by simpa using hw)) ⟨.bl _, H, I, rfl, ?_⟩
    rw [show its.toArray.any (eqU x) = its.any (eqU x) by simp, any_eqU r fs]
    exact q
  · obtain ⟨its, r, pl, hz⟩ := I.tuple hq
    refine SeqAt.in_tupleAt (eqU x) pl (fun w hw => mem_eqAt rx fx r fs w (by simpa using hw)) ⟨.bl _, H, I, rfl, ?_⟩
    rw [show its.toArray.any (eqU x) = its.any (eqU x) by simp, any_eqU r fs]
    exact q
theorem op_notIn_seq : OpR X (compareOp .NotIn) (rIn X.K true) := by
  intro pins s σ H x y v u Q I rx ry h
  obtain ⟨p, xs, rfl, hq, fx, fs, q⟩ := h
  cases ry
  rcases hq with hq | hq
  · obtain ⟨its, r, pl, hz⟩ := I.list hq
    refine SeqAt.notIn_listAt (eqU x) pl.isList (fun w hw => mem_eqAt rx fx r fs w (by simpa using hw)) ⟨.bl _, H, I, rfl, ?_⟩
    rw [show its.toArray.any (eqU x) = its.any (eqU x) by simp, any_eqU r fs]
    exact q
  · obtain ⟨its, r, pl, hz⟩ := I.tuple hq
    refine SeqAt.notIn_tupleAt (eqU x) pl (fun w hw => mem_eqAt rx fx r fs w (by simpa using hw)) ⟨.bl _, H, I, rfl, ?_⟩
    rw [show its.toArray.any (eqU x) = its.any (eqU x) by simp, any_eqU r fs]
    exact q
/-! ### len, list(x), tuple(x) of any list or tuple that is read -/
theorem call_len_seq : CallR X (.builtin "len") (fun xs H Q => ∃ p ys, xs = [.ref p] ∧ (SqL X.K H p ys ∨ SqT X.K H p ys) ∧ Q (.int ys.length) H) := by
  intro pins s σ H xs us Q I r h
  obtain ⟨p, ys, rfl, hq, q⟩ := h
  obtain ⟨u, rfl, rx⟩ := vals1 r
  cases rx
  have hn := line63
  rcases hq with hq | hq
  · obtain ⟨its, r', pl, hz⟩ := I.list hq
    have hlen := r'.length
    exact Calls.call_len_list pl.isList (by simp only [List.size_toArray] <;> omega) ⟨.int ys.length, H, I.tok _, ⟨s.toks + 1, by rw [List.size_toArray, hlen]⟩, q⟩
  · obtain ⟨its, r', pl, hz⟩ := I.tuple hq
    have hlen := r'.length
    exact len_tuple pl (by simp only [List.size_toArray] <;> omega) ⟨.int ys.length, H, I.tok _, ⟨s.toks + 1, by rw [List.size_toArray, hlen]⟩, q⟩
theorem call_list_of : CallR X (.type "list") (fun xs H Q => ∃ p ys, xs = [.ref p] ∧ (SqL X.K H p ys ∨ SqT X.K H p ys) ∧ ∀ l, H l = none → Q (.ref l) (upd H l (.lst ys))) := by
  intro pins s σ H xs us Q I r h
  obtain ⟨p, ys, rfl, hq, q⟩ := h
  obtain ⟨u, rfl, rx⟩ := vals1 r
  cases rx
  have fin : ∀ (its : List Value), Vals ys its → ys.length ≤ sizeLine → ∀ (h' : Heap) (c' : Nat), (∀ b o', s.heap.get? b = some o' → h'.get? b = some o') →
      h'.get? s.heap.objs.size = some { cls := .type "list", dict := none, data := .seq its.toArray c', slots := #[] } → EP X pins σ Q (.ref s.heap.objs.size) { s with heap := h' } := fun its r' hz h' c' kp e =>
    ⟨.ref s.heap.objs.size, _, I.laid (t' := s.toks) kp (Nat.le_refl _) (show ObjOk X.prog X.w _ h' _ (.lst ys) from ⟨hz, its, c', r', e⟩), rfl, q _ (I.hok.fresh (Nat.le_refl _))⟩
  rcases hq with hq | hq
  · obtain ⟨its, r', pl, hz⟩ := I.list hq
    have hlen := r'.length
    obtain ⟨o, ho, hc, n, hd⟩ := pl.isList
    exact call_list_seq p (.inl rfl) ho hc hd (fun h' c' kp e => fin its r' hz h' c' kp e) (by simp only [List.size_toArray] <;> omega)
  · obtain ⟨its, r', pl, hz⟩ := I.tuple hq
    have hlen := r'.length
    obtain ⟨o, ho, hc, n, hd⟩ := pl
    exact call_list_seq p (.inr rfl) ho hc hd (fun h' c' kp e => fin its r' hz h' c' kp e) (by simp only [List.size_toArray] <;> omega)
theorem call_tuple_of : CallR X (.type "tuple") (fun xs H Q => ∃ p ys, xs = [.ref p] ∧ ((SqL X.K H p ys ∧ ∀ l, H l = none → Q (.ref l) (upd H l (.tup ys))) ∨ (SqT X.K H p ys ∧ Q (.ref p) H))) := by
  intro pins s σ H xs us Q I r h
  obtain ⟨p, ys, rfl, h⟩ := h
  obtain ⟨u, rfl, rx⟩ := vals1 r
  cases rx
  rcases h with ⟨hq, q⟩ | ⟨hq, q⟩
  · obtain ⟨its, r', pl, hz⟩ := I.list hq
    have hlen := r'.length
    refine call_tuple_list pl.isList (fun h' kp => ?_) (by simp only [List.size_toArray] <;> omega)
    have I1 : Inv X pins σ H { s with heap := h' } := I.kept (t' := s.toks) kp
    have I2 : Inv X pins σ (upd H h'.objs.size (.tup ys)) { s with heap := h'.push { cls := .type "tuple", data := .seq its.toArray } } :=
      I1.laid (t' := s.toks) (fun b o e => Heap.get?_push_of_some _ e) (Nat.le_refl _) (show ObjOk X.prog X.w _ _ _ (.tup ys) from ⟨hz, its, r', IsTup.new _ _⟩)
    exact ⟨.ref h'.objs.size, _, I2, rfl, q _ (I1.hok.fresh (Nat.le_refl _))⟩
  · obtain ⟨its, r', pl, hz⟩ := I.tuple hq
    exact call_tuple_same pl ⟨.ref p, H, I, rfl, q⟩

/-! ### the call of a builtin's method: o.m(..) -/
/-- the value is of that builtin type -/
def tyV (K : PySem.W.Frag) (T : String) (x : V) (H : Hp) : Prop := match x with
  | .str _ => T = "str"
  | .int _ => T = "int"
  | .ref p => (T = "list" ∧ ∃ xs, SqL K H p xs) ∨ (T = "tuple" ∧ ∃ o, K.lookup p = some o ∧ o.cls = .type "tuple" ∧ o.dict = none) ∨
      (T = "dict" ∧ ((∃ kvs, H p = some (.dK kvs)) ∨ ∃ kvs, H p = some (.dT kvs))) ∨ (T = "set" ∧ ∃ S n, H p = some (.set S n))
  | _ => False
theorem tyV_is {pins : List (Addr × Obj)} {σ : St} {H : Hp} {s : Shared} {T : String} {x : V} {v : Value} (I : Inv X pins σ H s) (r : RelV x v) (ty : tyV X.K T x H) :
    s.TypeIs v T ∧ ∀ a, v = .ref a → ∃ ob, s.heap.get? a = some ob ∧ ob.dict = none := by
  cases x with
  | str z =>
    obtain ⟨t, rfl⟩ := r
    cases (show T = "str" from ty)
    exact ⟨typeIs_str s z t, fun _ e => nomatch e⟩
  | int i =>
    obtain ⟨t, rfl⟩ := r
    cases (show T = "int" from ty)
    exact ⟨typeIs_int s i t, fun _ e => nomatch e⟩
  | ref p =>
    cases r
    rcases ty with ⟨rfl, xs, hq⟩ | ⟨rfl, o, hk, hc, hd⟩ | ⟨rfl, hk⟩ | ⟨rfl, S, n, hk⟩
    · obtain ⟨its, _, pl, _⟩ := I.list hq
      refine ⟨pl.isList.typeIs, fun a e => ?_⟩
      cases e
      obtain ⟨o, n, e, c, hd, _⟩ := pl
      exact ⟨o, e, hd⟩
    · refine ⟨⟨o, I.kIn p o hk, hc⟩, fun a e => ?_⟩
      cases e
      exact ⟨o, I.kIn _ o hk, hd⟩
    · have z : ∃ o, s.heap.get? p = some o ∧ o.ExactDict := by
        rcases hk with ⟨kvs, hk⟩ | ⟨kvs, hk⟩
        · obtain ⟨_, _, _, _, o, _, _, e, ex, _⟩ := I.hok p _ hk
          exact ⟨o, e, ex⟩
        · obtain ⟨_, _, _, _, o, _, _, e, ex, _⟩ := I.hok p _ hk
          exact ⟨o, e, ex⟩
      obtain ⟨o, e, ex⟩ := z
      refine ⟨⟨o, e, ex.1⟩, fun a e2 => ?_⟩
      cases e2
      exact ⟨o, e, ex.2.1⟩
    · obtain ⟨o, _, _, _, e, ex, _⟩ := I.hok p _ hk
      refine ⟨⟨o, e, ex.1⟩, fun a e2 => ?_⟩
      cases e2
      exact ⟨o, e, ex.2.1⟩
  | _ => exact False.elim ty
def tBM0 (K : PySem.W.Frag) (T : String) (r : V → List V → Hp → VK → Prop) (to : TE) : TE := fun σ H Q => to σ H fun x H1 => tyV K T x H1 ∧ r x [] H1 Q
def tBM (K : PySem.W.Frag) (T : String) (r : V → List V → Hp → VK → Prop) (to : TE) (t : TA) : TE := fun σ H Q => to σ H fun x H1 => tyV K T x H1 ∧ t σ H1 fun xs H2 => r x xs H2 Q
variable {o e : Expr} {es : List Expr} {to : TE} {t : TA} {name : Str} {apos cpos : Pos} {T id : String} {r : V → List V → Hp → VK → Prop}
theorem pe_bm0 (pa : PlainAttrs T) (slot : Slot T name id) (hty : typeOf (.builtin id) = pure (.type "method_descriptor")) (hm : MtR X id r) (ho : PE X o to)
    (hbase : attributeBase o name X.env (eval o X.env) = eval o X.env := by rfl) (hline : (apos.endLine == cpos.line) = true := by rfl) : PE X (.Call (.Attribute o name apos) [] [] cpos) (tBM0 X.K T r to) := by
  intro pins s σ H Q I h
  refine wpAny_Call_method0_late hbase hline (thn (ho pins s σ H _ I h) fun v s1 ⟨x, H1, I1, r1, ty, q1⟩ => ?_)
  obtain ⟨h1, h2⟩ := tyV_is I1 r1 ty
  exact ⟨T, id, pa, slot, hty, h1, h2, Calls.callWith_builtin rfl (PySem.evalArgs_none (hm pins s1 σ H1 x [] v [] Q I1 r1 .nil q1))⟩
theorem pe_bm (pa : PlainAttrs T) (slot : Slot T name id) (hty : typeOf (.builtin id) = pure (.type "method_descriptor")) (hm : MtR X id r) (ho : PE X o to) (ha : PA X (e :: es) t)
    (hbase : attributeBase o name X.env (eval o X.env) = eval o X.env := by rfl)
    (hfew : ((backTo cpos (starEach (e :: es) X.env)).all (fun x => !x.1) && (backToKw cpos (keywordEach [] X.env)).all (fun x => x.1.isSome)
      && decide ((e :: es).length + ([] : List Keyword).length + (if ([] : List Keyword).isEmpty then 0 else 1) < 30)) = true := by rfl)
    (hline : (apos.endLine == cpos.line) = true := by rfl) (hs : starEach (e :: es) X.env = (false, eval e X.env) :: starEach es X.env := by rfl) (hplain : (backTo cpos (starEach es X.env)).any (·.1) = false := by rfl) :
    PE X (.Call (.Attribute o name apos) (e :: es) [] cpos) (tBM X.K T r to t) := by
  intro pins s σ H Q I h
  refine wpAny_Call_method_late hbase hfew hline rfl (thn (ho pins s σ H _ I h) fun v s1 ⟨x, H1, I1, r1, ty, q1⟩ => ?_)
  obtain ⟨h1, h2⟩ := tyV_is I1 r1 ty
  refine ⟨T, id, pa, slot, hty, h1, h2, ?_⟩
  have hA := ha cpos pins s1 σ H1 _ I1 q1
  rw [hs] at hA ⊢
  refine Calls.callWith_builtin (by show (false || (backTo cpos (starEach es X.env)).any (·.1)) = false; rw [hplain] <;> rfl) (Calls.evalArgs_plain ?_)
  exact thn hA fun us s2 ⟨vs, H2, I2, r2, q2⟩ => hm pins s2 σ H2 x vs v us Q I2 r1 r2 q2
/- xs.append(e), list.index on a module's tuple .. are MtR facts of 06m -/
end
end L2

namespace L2
open PySem PySem.Spec PyProof.Rows

def MtM (X : Cx) (id : String) (r : V → List V → Hp → VK → Prop) : Prop :=
  ∀ (pins : List (Addr × Obj)) (s : Shared) (σ : St) (H : Hp) (x : V) (xs : List V) (v : Value) (us : List Value) (Q : VK), Inv X pins σ H s → RelV x v → Vals xs us → r x xs H Q →
    wpAny (model X.prog X.w) X.A (call (.builtin id) (v :: us)) (EP X pins σ Q) X.xe s

/-! ### lists of values -/
theorem Vals.one : ∀ {x : V} {us : List Value}, Vals [x] us → ∃ u, us = [u] ∧ RelV x u
  | _, _, .cons r .nil => ⟨_, rfl, r⟩
theorem Vals.two : ∀ {x y : V} {us : List Value}, Vals [x, y] us → ∃ u v, us = [u, v] ∧ RelV x u ∧ RelV y v
  | _, _, _, .cons r (.cons q .nil) => ⟨_, _, rfl, r, q⟩
theorem Vals.zero : ∀ {us : List Value}, Vals [] us → us = []
  | _, .nil => rfl
theorem Vals.dropLast {xs : List V} {us : List Value} (h : Vals xs us) : Vals xs.dropLast us.dropLast := by
  induction h with
  | nil => exact .nil
  | cons r t ih =>
    cases t with
    | nil => exact .nil
    | cons q t' => exact .cons r ih
theorem erase_last {α : Type} (l : List α) : l.eraseIdx (l.length - 1) = l.dropLast := by
  induction l with
  | nil => rfl
  | cons a r ih =>
    cases r with
    | nil => rfl
    | cons b r =>
      have e : (a :: b :: r).length - 1 = ((b :: r).length - 1) + 1 := by
        have h1 : (a :: b :: r).length = r.length + 2 := rfl
        have h2 : (b :: r).length = r.length + 1 := rfl
        omega
      rw [e, List.eraseIdx_cons_succ, ih]
      all_goals rfl
section
variable {X : Cx} {pins : List (Addr × Obj)} {σ : St} {H : Hp} {s : Shared} {l b : Addr} {xs ys zs : List V}

/-! ### the two steps: a tracked list is rewritten, a new list is laid -/
theorem Inv.lset {its its' : List Value} {n : Nat} {f : Array Value → Array Value} {t' : Nat} (I : Inv X pins σ H s) (hH : H l = some (.lst xs))
    (e : s.heap.get? l = some { cls := .type "list", data := .seq its.toArray n }) (hf : f its.toArray = its'.toArray) (hv : Vals ys its') (hz : ys.length ≤ sizeLine) :
    Inv X pins σ (upd H l (.lst ys)) { s with heap := s.heap.update l (Obj.mapSeq f), toks := t' } := by
  have q := PySem.IsL.update e f
  rw [hf] at q
  refine I.write (x := l) (e := l) (by rw [hH]; exact trivial) (.inl rfl) (fun b' u hb hu => (Heap.get?_update_other s.heap (Obj.mapSeq f) (Ne.symm hb)).trans hu) ⟨_, q⟩ ?_
  exact ⟨hz, its', _, hv, q⟩
theorem Inv.lnew {its : List Value} {t' : Nat} (I : Inv X pins σ H s) (hv : Vals ys its) (hz : ys.length ≤ sizeLine) :
    Inv X pins σ (upd H s.heap.objs.size (.lst ys)) { s with heap := s.heap.push { cls := .type "list", data := .seq its.toArray }, toks := t' } :=
  I.laid (fun _ _ q => Heap.get?_push_of_some _ q) (Nat.le_refl _) ⟨hz, its, 0, hv, Heap.get?_push_size _ rfl⟩
theorem Inv.fresh (I : Inv X pins σ H s) : H s.heap.objs.size = none := I.hok.fresh (Nat.le_refl _)
theorem Inv.lstM (I : Inv X pins σ H s) (hH : H l = some (.lst xs)) : xs.length ≤ sizeLine ∧ ∃ (its : List Value) (n : Nat), Vals xs its ∧ xs.length = its.length ∧ s.heap.get? l = some { cls := .type "list", data := .seq its.toArray n } := by
  obtain ⟨z, its, n, r, e⟩ := I.hok l _ hH
  exact ⟨z, its, n, r, r.length, e⟩

theorem notLongL {n : Nat} (h : n ≤ sizeLine) : Builtin.List.listTooLong n = false := by
  unfold Builtin.List.listTooLong
  exact decide_eq_false (by omega)
end

section
variable {X : Cx}

/-! ### methods -/
def rAppend : V → List V → Hp → VK → Prop := fun x vs H Q => ∃ l xs y, x = .ref l ∧ vs = [y] ∧ H l = some (.lst xs) ∧ xs.length < sizeLine ∧ Q .non (upd H l (.lst (xs ++ [y])))
theorem mt_append : MtM X "list.append" rAppend := by
  intro pins s σ H x vs v us Q I rx rv h
  obtain ⟨l, xs, y, rfl, rfl, hH, hz, q⟩ := h
  cases rx
  obtain ⟨u, rfl, ru⟩ := rv.one
  obtain ⟨z, its, n, r, hl, e⟩ := I.lstM hH
  refine call_meets F.slot_list_append ⟨_, e, rfl⟩ F.entry_list_append (F.args_list_append_2 _ _) (PySem.list_append l its.toArray n u (by rw [List.size_toArray]; omega)) ⟨e, ?_⟩
  refine ⟨.non, _, I.lset (its' := its ++ [u]) hH e (by simp) (r.append (.cons ru .nil)) ?_, rfl, q⟩
  rw [List.length_append, List.length_singleton]
  omega

def rExtend : V → List V → Hp → VK → Prop := fun x vs H Q => ∃ l b xs zs, x = .ref l ∧ vs = [.ref b] ∧ H l = some (.lst xs) ∧ H b = some (.lst zs) ∧ xs.length + zs.length ≤ sizeLine ∧ Q .non (upd H l (.lst (xs ++ zs)))
theorem mt_extend : MtM X "list.extend" rExtend := by
  intro pins s σ H x vs v us Q I rx rv h
  obtain ⟨l, b, xs, zs, rfl, rfl, hH, hB, hz, q⟩ := h
  cases rx
  obtain ⟨u, rfl, ru⟩ := rv.one
  cases ru
  obtain ⟨z, its, n, r, hl, e⟩ := I.lstM hH
  obtain ⟨z2, its2, n2, r2, hl2, e2⟩ := I.lstM hB
  have hsz : its.toArray.size + its2.toArray.size ≤ sizeLine := by rw [List.size_toArray, List.size_toArray]; omega
  have hlong : ¬ (!its.toArray.isEmpty && Builtin.List.listTooLong (its.toArray.size + its2.toArray.size)) = true := by
    rw [notLongL hsz, Bool.and_false]
    exact Bool.false_ne_true
  refine call_meets F.slot_list_extend ⟨_, e, rfl⟩ F.entry_list_extend (F.args_list_extend_2 _ _)
    (AutoSeq1.list_extend_list_list_0 l its.toArray n b its2.toArray n2 hlong (by rw [List.size_toArray]; omega) (by omega)) ⟨e, e2, ?_⟩
  refine ⟨.non, _, I.lset (its' := its ++ its2) hH e (by simp) (r.append r2) ?_, rfl, q⟩
  rw [List.length_append]
  omega

def rPop : V → List V → Hp → VK → Prop := fun x vs H Q => ∃ l xs y, x = .ref l ∧ vs = [] ∧ H l = some (.lst xs) ∧ xs[xs.length - 1]? = some y ∧ Q y (upd H l (.lst xs.dropLast))
theorem mt_pop : MtM X "list.pop" rPop := by
  intro pins s σ H x vs v us Q I rx rv h
  obtain ⟨l, xs, y, rfl, rfl, hH, hy, q⟩ := h
  cases rx
  have hus := rv.zero
  subst hus
  obtain ⟨z, its, n, r, hl, e⟩ := I.lstM hH
  obtain ⟨u, hu, ru⟩ := r.get hy
  have hy' : its.toArray[its.toArray.size - 1]? = some u := by
    show its.toArray[its.length - 1]? = some u
    rw [← Array.getElem?_toList, ← hl]
    exact hu
  refine call_meets F.slot_list_pop ⟨_, e, rfl⟩ F.entry_list_pop (F.args_list_pop_1 _) (MeetsSeq.list_pop_last l its.toArray n u hy' (by rw [List.size_toArray]; omega)) ⟨e, ?_⟩
  refine ⟨y, _, I.lset (its' := its.dropLast) hH e ?_ r.dropLast ?_, ru, q⟩
  · show its.toArray.eraseIdxIfInBounds (its.toArray.size - 1) = its.dropLast.toArray
    rw [List.size_toArray, List.eraseIdxIfInBounds_toArray, erase_last]
  · rw [List.length_dropLast]
    omega

def rPopAt : V → List V → Hp → VK → Prop := fun x vs H Q => ∃ l xs i k y, x = .ref l ∧ vs = [.int i] ∧ H l = some (.lst xs) ∧ -(2 ^ 63) ≤ i ∧ i < 2 ^ 63 ∧ seqIndex? i xs.length = some k ∧ xs[k]? = some y ∧ Q y (upd H l (.lst (xs.eraseIdx k)))
def rReverse : V → List V → Hp → VK → Prop := fun x vs H Q => ∃ l xs, x = .ref l ∧ vs = [] ∧ H l = some (.lst xs) ∧ Q .non (upd H l (.lst xs.reverse))
def rClear : V → List V → Hp → VK → Prop := fun x vs H Q => ∃ l xs, x = .ref l ∧ vs = [] ∧ H l = some (.lst xs) ∧ Q .non (upd H l (.lst []))
/-! ### list + list, list += list, list * int -/
def rCat : R2 := fun x y H Q => ∃ l b xs zs, x = .ref l ∧ y = .ref b ∧ H l = some (.lst xs) ∧ H b = some (.lst zs) ∧ xs.length + zs.length ≤ sizeLine ∧ ∀ p, H p = none → Q (.ref p) (upd H p (.lst (xs ++ zs)))
theorem op_cat : OpR X (binaryOp .Add) rCat := by
  intro pins s σ H x y v u Q I rx ry h
  obtain ⟨l, b, xs, zs, rfl, rfl, hH, hB, hz, q⟩ := h
  cases rx
  cases ry
  obtain ⟨z, its, n, r, hl, e⟩ := I.lstM hH
  obtain ⟨z2, its2, n2, r2, hl2, e2⟩ := I.lstM hB
  refine PySem.P.add_list e e2 ?_ (by rw [List.size_toArray, List.size_toArray]; omega)
  have ea : its.toArray ++ its2.toArray = (its ++ its2).toArray := by simp
  rw [ea]
  exact ⟨.ref _, _, I.lnew (t' := s.toks) (r.append r2) (by rw [List.length_append]; omega), rfl, q _ I.fresh⟩
/-- a list times an int (a negative one is nothing) -/
def rRep : R2 := fun x y H Q => ∃ l k xs, x = .ref l ∧ y = .int k ∧ H l = some (.lst xs) ∧ -(2 ^ 63) ≤ k ∧ k < 2 ^ 63 ∧ xs.length * k.toNat ≤ sizeLine ∧
  ∀ p, H p = none → Q (.ref p) (upd H p (.lst (List.replicate k.toNat xs).flatten))
/-! ### del xs[i] -/
end

/-! ### xs[a:b] = ys -/
section
variable {prog : Program} {w : World} {A : Around} {E : Value → Shared → Prop} {s : Shared}
end

section
variable {X : Cx}
end
end L2

namespace Att
open PySem PySem.W PySem.Calls PyProof.Rows

/-! ### the script -/
theorem ints_of_wellAll {P : Params} {h : Heap} : ∀ (ns : List Int) (vs : List Value), WellAll P h vs (ns.map WData.int) → IntsAre vs ns := by
  intro ns
  induction ns with
  | nil =>
    intro vs w
    rw [List.map_nil] at w
    cases w
    exact .nil
  | cons n ns ih =>
    intro vs w
    rw [List.map_cons] at w
    cases w with
    | cons a b =>
      cases a
      exact .cons _ _ (ih _ b)

theorem script_of {l : OpenLaw} {n : Nat} (hn : l.most = some n) {P : Params} {h : Heap} {args : List WData} {vals : List Value}
    (hpre : l.row.toRowW.claim.pre args = true) (hwl : WellAll P h vals args) :
    ∃ a vs ns, vals = [Value.ref a] ∧ args = [WData.list (ns.map WData.int)] ∧ h.get? a = some { cls := .type "list", data := .seq vs.toArray } ∧ IntsAre vs ns ∧ ns.length ≤ n := by
  have hsh : WShape.hasAll [] args [.list .int] = true := (pre_splitW hpre).1
  have hc : l.pre.holds [] { args := args } = true := (pre_splitW hpre).2
  obtain ⟨d, r, rfl, h1, h2⟩ := hasAllW_cons hsh
  obtain rfl := hasAllW_nil h2
  obtain ⟨xs, rfl, h3⟩ := hasW_list h1
  obtain ⟨ns, rfl⟩ := items_int h3
  have hlen : ns.length ≤ n := by
    unfold OpenLaw.pre at hc
    have h4 : (WTm.not (.lt (.lit (.int (n : Int))) (.len (.arg 0)))).holds [] { args := [.list (ns.map .int)] } = true := by
      have h4 := (holds_andW hc).1
      rw [hn] at h4
      exact h4
    have h5 := condW_of h4 (w_not (w_lt w_lit (w_len_list (w_arg rfl))))
    rw [List.length_map] at h5
    refine Nat.le_of_not_lt fun q => ?_
    have q' : (n : Int) < ((ns.length : Nat) : Int) := by omega
    first
      | (rw [decide_eq_true q'] at h5; exact absurd h5 (by decide))
      | (simp at h5; omega)
  cases hwl with
  | cons w1 w2 =>
    cases w2
    cases w1 with
    | list ho hall => exact ⟨_, _, ns, rfl, rfl, ho, ints_of_wellAll ns _ hall, hlen⟩

theorem post_true (l : OpenLaw) (args : List WData) : l.row.toRowW.claim.post args (.bool true) args = true :=
  postW_of (r := l.row.toRowW) (X := (true == true))
    (show WShape.has [] (.bool true) .bool = true by first | rfl | decide | simp [WShape.has, WShape.arms, WShape.armsAll])
    (show (WTm.eq .res (.lit (.bool true))).value [] { args := args, res := some (.bool true), after := args } = some (.bool (true == true)) from w_eq_bool (w_res rfl) w_lit) rfl

/-! ### the attachment: holds_open's last premise (the goal 'hc' behind k_head) from a wpAny of the law's body -/
/-- the same from a codeAny of the CALL (for a layer whose function contracts speak of calls) -/
theorem attach_call {l : OpenLaw} {n : Nat} {q : Program} {loose : List Str} {XP : (Str → Option Value) → Heap → Prop} {YP : World → Heap → Prop} {d : DefRec}
    (hn : l.most = some n) (hdf : d.params.defaults = [])
    (call : ∀ (w : World) (s₀ s₁ : Shared) (mg mb : Str → Option Value) (fa : Addr) (o : Obj) (pm cd doc : Value) (a : Addr) (vs : List Value) (ns : List Int),
      Ground q loose [] XP w s₀ mg mb s₁.heap → YP w s₁.heap →
      s₁.heap.get? fa = some o → o.data = .func (docDef d.name d.params d.body d.scope pm cd doc) → s₁.heap.CodeRec cd d.name → mg d.name = some (.ref fa) →
      s₁.heap.get? a = some { cls := .type "list", data := .seq vs.toArray } → IntsAre vs ns → ns.length ≤ n → s₁.gens = #[] →
      codeAny (model l.prog w) callerA (.call (.ref fa) ⟨[.ref a], []⟩) (fun r s' => r = .ok (.ret (.bool true)) ∧ OldK s₁.heap s'.heap ∧ s'.os = s₁.os ∧ AllBare s'.gens) s₁) :
    WalkO q loose XP YP l.row.toRowW d [] (fun f vs => PySem.call f vs) := by
  intro w s₀ s₁ mg mb G Y fa o pm cd doc dV kV ho hd hcd hD hmg hg args vals as hpre hlay hrd hwl hlo
  obtain rfl : dV = .none := Dflts.none hD hdf
  obtain rfl : kV = .none := Dflts.noKw hD
  obtain ⟨a, vs, ns, rfl, rfl, hobj, hints, hlen⟩ := script_of hn hpre hwl
  refine enter_call (codeAny_mono (call w s₀ s₁ mg mb fa o pm cd doc a vs ns G Y ho (fd_plain hd) hcd hmg hobj hints hlen hg) fun r s' hq => ?_)
  obtain ⟨rfl, h2, h3, h4⟩ := hq
  exact ⟨.inl ⟨.bool true, .bool true, [], rfl, fun _ => rfl, .bool true, post_true l _, fun _ => ⟨List.Pairwise.nil, fun _ hm => (nomatch hm)⟩⟩, h2, h3, h4⟩

/-! ### rules over ANY heap (no ledger) from facts about the written part K: the library's own take a ledger (News) for what they write -/
section
variable {prog : Program} {w : World} {A : Around} {E : Value → Shared → Prop} {s : Shared} {K : Frag}

/-! the whole heap as the ledger: makes every rule that writes through a ledger a rule over any heap -/
def noObjs (h : Heap) : Heap := { h with objs := #[] }
def ledger (h : Heap) (L d : Addr) : List (Addr × Obj) := (List.range h.objs.size).filterMap fun a => if a = L ∨ a = d then none else (h.get? a).map fun o => (a, o)
end
end Att

namespace L2
open PySem PySem.Spec PyProof.Rows

theorem vals_ints : ∀ {vs : List Value} {ns : List Int}, IntsAre vs ns → Vals (ns.map V.int) vs
  | _, _, .nil => .nil
  | _, _, .cons n t h => .cons ⟨t, rfl⟩ (vals_ints h)

/-- nothing is tracked but the script, known to the object (or it is an object of the module) -/
def Only (H : Hp) : Prop := ∀ b, H b = none ∨ ∃ o xs, H b = some (.frz o (.lst xs))

/-- THE HEAD: the law's promise, at the heap behind the top. F, the promise of the law's def, may use that base is part of the heap (so K.In base, base.Ns mainGlobals mg stand in Mod) -/
theorem law_call {P : Program} {w : World} {K : PySem.W.Frag} {mg mb : Str → Option Value} {CX : CXT} {k : Nat} {fa a : Addr} {fd : FuncData} {x : Str} {sp : Sp} {s₁ : Shared} {vs : List Value} {ns : List Int}
    (KX : K.In s₁.heap) (hns : s₁.heap.Ns mainGlobals mg) (hb : s₁.heap.Ns builtinsNs mb) (hbb : ∀ x : Str, x ≠ "__name__" → mb x = bootBuiltins x) (hlim : s₁.heap.NoLimit) (hg : s₁.gens = #[])
    (ha : s₁.heap.get? a = some { cls := .type "list", data := .seq vs.toArray }) (hi : IntsAre vs ns) (hl : ns.length ≤ sizeLine) (hr : Room k callerA)
    (F : ∀ base : Heap, K.In base → base.Ns mainGlobals mg → FnOk P w K mg base CX k fa fd [x] sp) (hbind : ∀ (s : Shared) (u : Value), BindsTo s fd ⟨[u], []⟩ [(x, u)])
    (hsp : ∀ H : Hp, Only H → SqL K H a (ns.map V.int) → sp [.ref a] H (fun v _ => v = .bl true) fun _ _ _ => False)
    (hCX : ∀ H e s', CX [] H s₁ (fun _ _ _ => False) e s' → False) :
    codeAny (model P w) callerA (.call (.ref fa) ⟨[.ref a], []⟩) (fun r s' => r = .ok (.ret (.bool true)) ∧ OldK s₁.heap s'.heap ∧ s'.os = s₁.os ∧ AllBare s'.gens) s₁ := by
  have rv := vals_ints hi
  have lenV := hi.length
  -- from an abstract heap in which nothing but the script may be tracked
  have core : ∀ H : Hp, Only H → SqL K H a (ns.map V.int) → HOk P w H s₁.heap → (∀ b, H b ≠ none → b = a) → (H a ≠ none → K.lookup a = none) →
      codeAny (model P w) callerA (.call (.ref fa) ⟨[.ref a], []⟩) (fun r s' => r = .ok (.ret (.bool true)) ∧ OldK s₁.heap s'.heap ∧ s'.os = s₁.os ∧ AllBare s'.gens) s₁ := by
    intro H hO hS hok hA hK
    have base_of : ∀ {b : Addr} {o : Obj}, s₁.heap.get? b = some o → H b = none → (hidT s₁.heap H).get? b = some o := fun e n => hidT_get e n
    have noA : ∀ {b : Addr} {o : Obj} {es : Array DictEntry} {ep : Nat}, s₁.heap.get? b = some o → o.data = .dict es ep → H b = none := fun {b o es ep} e d => by
      cases q : H b with
      | none => rfl
      | some u =>
        have e' : b = a := hA b (by rw [q]; simp)
        subst e'
        rw [ha] at e; cases e
        have d' : Data.seq vs.toArray _ = Data.dict es ep := d
        cases d'
    have nsK : ∀ {b : Addr} {m : Str → Option Value}, s₁.heap.Ns b m → (hidT s₁.heap H).Ns b m := fun {b m} ⟨o, es, ep, e, d, r⟩ => ⟨o, es, ep, base_of e (noA e d), d, r⟩
    have hKb : K.In (hidT s₁.heap H) := fun b o e => base_of (KX b o e) (by
      cases q : H b with
      | none => rfl
      | some u =>
        have e' : b = a := hA b (by rw [q]; simp)
        subst e'
        rw [hK (by rw [q]; simp)] at e; cases e)
    have hM : Mod K mg (hidT s₁.heap H) := ⟨hKb, nsK hns, ⟨mb, nsK hb, hbb⟩, let ⟨mc, h1, h2⟩ := hlim; ⟨mc, nsK h1, h2⟩⟩
    have e0 : Env0 P w K mg (hidT s₁.heap H) callerA [] s₁ H := ⟨rfl, hM, fun b o e => of_hidT e, Nat.le_of_eq (hidT_size _ _), trivial, fun b hb => absurd (show b ∈ ([] : List Addr) from hb) (by simp), hok, .of_eq hg⟩
    refine codeAny_mono ((F _ hKb (nsK hns)).run callerA [] s₁ H ⟨[.ref a], []⟩ [.ref a] [.ref a] _ _ hr e0 (hbind s₁ (.ref a)) (.cons rfl .nil) (hsp H hO hS)) fun r s' h => ?_
    cases r with
    | error e => exact (hCX H e s' h).elim
    | ok fl =>
      cases fl with
      | next => exact False.elim h
      | brk => exact False.elim h
      | cont => exact False.elim h
      | ret u =>
        obtain ⟨v, H', os, bare, un, hok', r', q⟩ := h
        have q' : v = .bl true := q
        subst q'
        obtain rfl : u = Value.bool true := r'
        refine ⟨rfl, OldK.of_keep fun b o e => ?_, os, bare⟩
        cases q : H b with
        | none => exact un.keep b o e q (by intro z; exact absurd (show b ∈ ([] : List Addr) from z) (by simp)) (by simp)
        | some u =>
          rcases hO b with z | ⟨ob, xs, z⟩
          · rw [q] at z; cases z
          · have z2 := un.frzs b ob _ z
            obtain ⟨e1, _⟩ := hok b _ z
            obtain ⟨e2, _⟩ := hok' b _ z2
            rw [e] at e1; cases e1
            exact e2
  cases hk : K.lookup a with
  | some o =>
    -- the script is one of the module's own objects
    have e := KX a o hk
    rw [ha] at e
    cases e
    refine core (fun _ => none) (fun _ => .inl rfl) (.inr ⟨_, vs.toArray, _, hk, rfl, rfl, rfl, by rw [List.size_toArray, lenV]; exact hl, by simpa using rv⟩) (fun b u z => by have z' : (none : Option HO) = some u := z; cases z') (fun b z => absurd rfl z) fun z => absurd rfl z
  | none =>
    refine core (fun b => if b = a then some (.frz { cls := .type "list", data := .seq vs.toArray } (.lst (ns.map V.int))) else none) (fun b => ?_) (.inl (.inr ⟨{ cls := .type "list", data := .seq vs.toArray }, if_pos rfl⟩)) (fun b u z => ?_) (fun b z => ?_) fun _ => hk
    · by_cases hb : b = a
      · exact .inr ⟨_, _, if_pos hb⟩
      · exact .inl (if_neg hb)
    · by_cases hb : b = a
      · have z' := (if_pos hb).symm.trans z
        cases z'
        subst hb
        exact ⟨ha, by rw [List.length_map]; exact hl, vs, _, rv, ha⟩
      · have z' := (if_neg hb).symm.trans z
        cases z'
    · by_cases hb : b = a
      · exact hb
      · exact absurd (if_neg hb) z
end L2

namespace L2
open PySem PySem.Spec PyProof.Rows

abbrev KOf {K : PySem.W.Frag} {h : Heap} (_ : K.In h) : PySem.W.Frag := K

/-- the goal that k_head leaves (case hc), from the law's promise. F gives the function object fd (K's own) once, then the promise over every base -/
theorem walk_of {l : PySem.W.OpenLaw} {n k : Nat} {q : Program} {loose : List Str} {XP : (Str → Option Value) → Heap → Prop} {YP : World → Heap → Prop} {d : DefRec} {K : Params → PySem.W.Frag} {CX : World → CXT} {sp : World → Sp} {x : Str}
    (hn : l.most = some n) (hn2 : n ≤ sizeLine) (hdf : d.params.defaults = []) (hr : Room k callerA)
    (hY : ∀ (w : World) (h : Heap), YP w h → (K w.params).In h)
    (F : ∀ (w : World) (mg : Str → Option Value) (fa : Addr) (h : Heap), (K w.params).In h → h.Ns mainGlobals mg → mg d.name = some (.ref fa) →
      ∃ fd : FuncData, (∀ (s : Shared) (u : Value), BindsTo s fd ⟨[u], []⟩ [(x, u)]) ∧
        ∀ base : Heap, (K w.params).In base → base.Ns mainGlobals mg → FnOk l.prog w (K w.params) mg base (CX w) k fa fd [x] (sp w))
    (hsp : ∀ (w : World) (H : Hp) (a : Addr) (ns : List Int), ns.length ≤ n → Only H → SqL (K w.params) H a (ns.map V.int) → sp w [.ref a] H (fun v _ => v = .bl true) fun _ _ _ => False)
    (hCX : ∀ (w : World) (H : Hp) (s : Shared) (e : Value) (s' : Shared), CX w [] H s (fun _ _ _ => False) e s' → False) :
    PySem.W.WalkO q loose XP YP l.row.toRowW d [] (fun f vs => PySem.call f vs) := by
  refine Att.attach_call hn hdf fun w s₀ s₁ mg mb fa o pm cd doc a vs ns G Y ho hd hcd hmg hobj hints hlen hg => ?_
  have KX := hY w _ Y
  obtain ⟨fd, hb, hF⟩ := F w mg fa _ KX G.T.g hmg
  exact law_call KX G.T.g G.T.b G.T.builtins G.T.nolimit hg hobj hints (Nat.le_trans hlen hn2) hr hF hb (fun H hO hS => hsp w H a ns hlen hO hS) fun H e s' => hCX w H s₁ e s'
end L2

/- THE LAST THEOREM (shape; LID, My.* are yours):
   My.Adr: a structure of the addresses that your layer names (classes, functions); My.Txt K t: a structure (Prop) of the equations over K;
   My.txt_mk : {K} {implicit addresses ..} (e1 : nsIn K mainGlobals "law" = some (some (.ref f))) (e2 : K.lookup f = some ⟨oc, od, .func (fnOf "law" "law" params body scope dV kV doc pm an cdv ct), sl⟩) (e3 : codeIn K cdv "law" = true) .. : ∃ t, My.Txt K t

set_option maxRecDepth 100000 in
set_option maxHeartbeats 0 in
theorem PySem.Challenge.cw_LID_holds : PySem.Challenge.rw_LID.Holds := by
  w_on; o_law; k_head; (case hw => w_witness2)
  k_fill
  refine L2.walk_of (l := PySem.Challenge.rw_LID) (n := 63) (k := 40) (x := "script") (CX := fun w => ..) (sp := fun _ => My.sp_law) rfl (by decide) rfl ⟨rfl, by decide, by decide⟩ (fun w h Y => PySem.W.kIn_of Y) ?F ?S ?C
  case F =>
    intro w mg fa h KX G hmg
    have T : ∃ t, My.Txt (L2.KOf KX) t := by
      dsimp only [L2.KOf]                          -- K must stand as «<heap const> w.params» for k_is
      refine' My.txt_mk ?e1 ?e2 ?e3 ..
      (case e1 => PySem.W.k_is)                    -- in the order: a name -> its address -> its object -> its parts
      (case e2 => PySem.W.k_is)
      ..
    obtain ⟨t, T⟩ := T
    have e0 := hmg.symm.trans (PySem.W.mg_of KX G T.law)
    cases e0                                       -- fa is the law's own address
    exact ⟨_, fun s u => .of_eq rfl, fun base kb nb => My.law_fn T kb nb⟩     -- if «.of_eq rfl» comes too early: refine' ⟨_, ?b, fun base kb nb => My.law_fn T kb nb⟩; exact fun s u => .of_eq rfl
  case S => exact fun w H a ns hl hO hS => ..
  case C => exact ..
(the tactic k_is has no namespace: write k_is) -/

/-! SHORT WORDS over the layer: a def of the text, its body, what a loop and a test want. -/
namespace L2
open PySem PySem.Spec PyProof.Rows

/-! ### the text by places -/
/-- the j-th statement of a class's body -/
def inClass (s : Stmt) (j : Nat) : Stmt := match s with
  | .ClassDef _ _ _ body _ _ _ _ _ _ _ => body.getD j (.Pass ⟨0, 0, 0, 0⟩)
  | _ => .Pass ⟨0, 0, 0, 0⟩
def defArgs (s : Stmt) : Arguments := match s with
  | .FunctionDef _ a _ _ _ _ _ _ _ _ => a
  | _ => { posonlyargs := [], args := [], vararg := none, kwonlyargs := [], kw_defaults := [], kwarg := none, defaults := [] }
def defBody (s : Stmt) : List Stmt := match s with
  | .FunctionDef _ _ b _ _ _ _ _ _ _ => b
  | _ => []
def defScope (s : Stmt) : Scope := match s with
  | .FunctionDef _ _ _ _ _ _ sc _ _ _ => sc
  | _ => { kind := .function, names := [], isGenerator := false, isCoroutine := false }

/-! ### no exception leaves a def -/
abbrev CX0 : CXT := fun _ _ _ _ _ _ => False
abbrev E0 : XK := fun _ _ _ => False
theorem pass0 {X : Cx} : Passes CX0 X E0 := fun _ _ _ _ _ _ _ h => h.elim

/-! ### a def (or method) of the text as it stands behind the top -/
structure Fun (K : PySem.W.Frag) (x qual : Str) (st : Stmt) (f : Addr) (fd : FuncData) : Prop where
  ex : ∃ (oc : Value) (od : Option Addr) (kV doc pm : Value) (an : Option Addr) (cdv ct : Value) (osl : Array (Option Value)),
    fd = PySem.W.fnOf x qual (defArgs st) (defBody st) (defScope st) .none kV doc pm an cdv ct ∧ K.lookup f = some ⟨oc, od, .func fd, osl⟩ ∧ PySem.W.codeIn K cdv qual = true
  kp : PySem.W.keepIn K (.ref f) = true
section
variable {P : Program} {w : World} {K : PySem.W.Frag} {mg : Str → Option Value} {base : Heap}
/-- THE RULE for a def: its body as a term of rules, and the reading of that term -/
theorem Fun.ok {x qual : Str} {st : Stmt} {f : Addr} {fd : FuncData} {N ps : List Str} {k : Nat} {sp : Sp} (F : Fun K x qual st f fd) (S : FnScope N ps (defScope st)) (len : ∀ vs H Q E, sp vs H Q E → vs.length = ps.length)
    (hbody : ∀ (cdv : Value) (A : Around) (outer : List Env) (s : Shared) (H : Hp) (vs : List V) (Q : VK) (E : XK), Room k (A.deeper (envOfC qual (defScope st) s.heap.objs.size f cdv)) → sp vs H Q E →
      ∃ t, PSs (cxOf CX0 P w K mg base N qual (defScope st) f cdv A outer s H E).nox (defBody st) t ∧ t { nx := fun _ H' => Q .non H', rt := Q } (start N vs) H) : FnOk P w K mg base CX0 (k + 1) f fd ps sp := by
  obtain ⟨oc, od, kV, doc, pm, an, cdv, ct, osl, rfl, lk, hcd⟩ := F.ex
  refine fn_of lk hcd S len fun A outer s H vs Q E hr hsp => ?_
  obtain ⟨t, h, q⟩ := hbody cdv A outer s H vs Q E hr hsp
  exact ⟨t, h.nox, q⟩
/-- how its arguments bind (no defaults): h is «fun _ _ _ _ _ _ us hl => match us, hl with | [_, _], _ => rfl», one _ a parameter -/
theorem Fun.binds {x qual : Str} {st : Stmt} {f : Addr} {fd : FuncData} {ps : List Str} (F : Fun K x qual st f fd)
    (h : ∀ (kV doc pm : Value) (an : Option Addr) (cdv ct : Value) (us : List Value), us.length = ps.length → bindArgs (PySem.W.fnOf x qual (defArgs st) (defBody st) (defScope st) .none kV doc pm an cdv ct) ⟨us, []⟩ = pure (ps.zip us)) : Binds K fd ps [] := by
  obtain ⟨oc, od, kV, doc, pm, an, cdv, ct, osl, rfl, lk, hcd⟩ := F.ex
  exact .all (h kV doc pm an cdv ct)
theorem fun_mk {x qual : Str} {st : Stmt} {f : Addr} {oc : Value} {od an : Option Addr} {osl : Array (Option Value)} {kV doc pm cdv ct : Value} (l : K.lookup f = some ⟨oc, od, .func (PySem.W.fnOf x qual (defArgs st) (defBody st) (defScope st) .none kV doc pm an cdv ct), osl⟩)
    (c : PySem.W.codeIn K cdv qual = true) (k : PySem.W.keepIn K (.ref f) = true) : Fun K x qual st f (PySem.W.fnOf x qual (defArgs st) (defBody st) (defScope st) .none kV doc pm an cdv ct) := ⟨⟨oc, od, kV, doc, pm, an, cdv, ct, osl, rfl, l, c⟩, k⟩
end
/-! ### expressions in short: the name that stands in the i-th slot -/
section
variable {X : Cx}
theorem pv (i : Nat) {x : Str} {pos : Pos} (hN : X.N[i]? = some x := by rfl) (hv : Vis X.env.scope x := by first | exact Or.inl rfl | exact Or.inr (Or.inl rfl) | exact Or.inr (Or.inr rfl)) (hd : (x == ("__debug__" : Str)) = false := by decide)
    (hcd : (x == ("__classdict__" : Str)) = false := by decide) : PE X (.Name x pos) (tVar i) := pe_var hN hv hd hcd
end

/-! ### tests -/
theorem iteF {A B : Prop} (h : B) : if false = true then A else B := by
  rw [if_neg Bool.false_ne_true]
  exact h
theorem iteT {A B : Prop} (h : A) : if true = true then A else B := by
  rw [if_pos rfl]
  exact h
theorem ite2 {c A B : Prop} [Decidable c] (h1 : c → A) (h2 : ¬ c → B) : if c then A else B := by
  by_cases h : c
  · rw [if_pos h]
    exact h1 h
  · rw [if_neg h]
    exact h2 h
/-! ### heaps -/
/-- all that was tracked is as it was -/
def Same (H H' : Hp) : Prop := ∀ b o, H b = some o → H' b = some o
theorem Same.refl (H : Hp) : Same H H := fun _ _ h => h
theorem Same.trans {H H1 H2 : Hp} (a : Same H H1) (b : Same H1 H2) : Same H H2 := fun c o h => b c o (a c o h)
theorem Same.free {H H' : Hp} (e : Same H H') {l : Addr} (h : H' l = Option.none) : H l = Option.none := by
  cases q : H l with
  | none => rfl
  | some o =>
    rw [e l o q] at h
    cases h
theorem Same.seq {K : PySem.W.Frag} {H H' : Hp} {a : Addr} {xs : List V} (e : Same H H') (h : SqL K H a xs) : SqL K H' a xs := by
  rcases h with (h | ⟨o, h⟩) | h
  · exact .inl (.inl (e _ _ h))
  · exact .inl (.inr ⟨o, e _ _ h⟩)
  · exact .inr h

end L2
namespace L2
open PySem PySem.Spec PyProof.Rows

/-! ### a list comprehension with one clause, as a block of its own -/
section
variable {prog : Program} {w : World} {A : Around} {R : Result → Shared → Prop} {s : Shared}
theorem compLoop_own {elt target iter : Expr} {ifs : List Expr} {scope : Scope} {pos : Pos} {it acc : Value} {env : Env} (I : Nat → Shared → Prop)
    (turn : ∀ n s, I n s → wpAny (model prog w) A (pyNext it) (fun r s1 => match r with
      | none => R (.ok .next) s1
      | some v => wpAny (model prog w) A (letOwnedTupleGo target it v) (fun _ s1' => wpAny (model prog w) A (assign target env v) (fun _ s2 =>
          wpAny (model prog w) A (forIn ifs true fun c r => if r = true then do let ok ← isTrue c env (eval c env); pure (ForInStep.yield ok) else pure (ForInStep.yield r)) (fun ok s3 =>
            if ok = true then wpAny (model prog w) A (eval elt env) (fun x s4 =>
              wpAny (model prog w) A (call (.builtin "list.append") [acc, x]) (fun _ s5 => ∃ m, m < n ∧ I m s5) (fun _ _ => False) s4) (fun _ _ => False) s3
            else ∃ m, m < n ∧ I m s3) (fun _ _ => False) s2) (fun _ _ => False) s1') (fun _ _ => False) s1) (fun _ _ => False) s)
    (n : Nat) (h : I n s) :
    codeAny (model prog w) A (.compLoop (.ListComp elt [⟨target, iter, ifs, 0⟩] scope pos) 0 it acc env) R s := by
  have ff : ∀ {E : Value → Shared → Prop}, ∀ (x : Value) (s : Shared), (fun (_ : Value) (_ : Shared) => False) x s → E x s := fun _ _ z => False.elim z
  refine codeAny_loop rfl I (fun n s hI => ?_) n h
  show wpAny _ A ((compTurn (.ListComp elt [⟨target, iter, ifs, 0⟩] scope pos) 0 it acc env).onRaise (fun x => do noteFrame x env; theTreesLotGoes x)) _ _ s
  refine wpAny_noted ?_
  rw [compTurn_list]
  refine wpAny_bind (wpAny_standAt (wpAny_bind (wpAny_mono (turn n s hI) (fun r s1 h1 => ?_) ff)))
  cases r with
  | none => exact wpAny_pure h1
  | some v =>
    refine wpAny_bind (wpAny_mono h1 (fun _ s1' h1' => ?_) ff)
    refine wpAny_bind (wpAny_mono h1' (fun _ s2 h2 => wpAny_bind (wpAny_mono h2 (fun ok s3 h3 => ?_) ff)) ff)
    cases ok with
    | false => exact wpAny_pure ⟨rfl, h3⟩
    | true =>
      exact wpAny_bind (wpAny_bind (wpAny_mono h3 (fun x s4 h4 => wpAny_bind (wpAny_mono h4 (fun _ s5 h5 => wpAny_pure (wpAny_pure ⟨rfl, h5⟩)) ff)) ff))
end

/-- the block's context: own names first, then the free ones; fp: the iterator's records -/
def Cx.comp (X : Cx) (scope : Scope) (cl : List (Str × Addr)) (N : List Str) (C : Addr) (s : Shared) (H : Hp) (fp : List Addr) : Cx :=
  { X with N := N, s₀ := s, H₀ := H, env := compEnvC scope cl C X.env, outer := X.stack, ex := fp, fn := fun _ => false, pn := [], xe := fun _ _ => False }

/-- the tests of a clause -/
def PIfs (X : Cx) (ifs : List Expr) (t : TT) : Prop :=
  ∀ (pins : List (Addr × Obj)) (s : Shared) (σ : St) (H : Hp) (Q : Bool → Hp → Prop), Inv X pins σ H s → t σ H Q →
    wpAny (model X.prog X.w) X.A (forIn ifs true fun c r => if r = true then do let ok ← isTrue c X.env (eval c X.env); pure (ForInStep.yield ok) else pure (ForInStep.yield r)) (TP X pins σ Q) X.xe s
def tYes : TT := fun _ H Q => Q true H
theorem pifs_nil {X : Cx} : PIfs X [] tYes := fun _ _ _ H _ I h => wpAny_tests_nil ⟨H, I, h⟩
/-- the free names: y stands at place j of the outer names -/
structure CompScope (X : Cx) (scope : Scope) (cl : List (Str × Addr)) (own : List Str) (fr : List (Str × Nat)) : Prop where
  clos : closureFor scope X.env = pure cl
  nocell : ∀ y ∈ scope.names, y.2 ≠ .cell
  kind : scope.kind = .function
  names : ∀ y ∈ scope.names, y.2 = .local → scope.names.lookup y.1 = some .local
  cls : ∀ y c, cl.lookup y = some c → X.env.cells.lookup y = some c
  has : ∀ y, ((relabel scope X.env).names.lookup y = some .cell ∨ (relabel scope X.env).names.lookup y = some .free) → ∃ c, cl.lookup y = some c
  free : ∀ p ∈ fr, X.N[p.2]? = some p.1 ∧ (X.env.kindOf p.1 = some .cell ∨ X.env.kindOf p.1 = some .free) ∧ ((relabel scope X.env).names.lookup p.1 = some .cell ∨ (relabel scope X.env).names.lookup p.1 = some .free)

/-- the block's names ahead of a turn -/
def compSt (own : List Str) (fr : List (Str × Nat)) (σ : St) : St := own.map (fun _ => none) ++ fr.map fun p => (σ[p.2]?).join

/-- what stood stands (the slots of the free names) -/
def keepSt : St → St → Prop
  | [], [] => True
  | none :: r, _ :: r' => keepSt r r'
  | some v :: r, some v' :: r' => v = v' ∧ keepSt r r'
  | _, _ => False
theorem keepSt_get : ∀ {a b : St}, keepSt a b → ∀ (i : Nat) (v : V), a[i]? = some (some v) → b[i]? = some (some v)
  | [], [], _, i, v, h => by simp at h
  | [], _ :: _, z, _, _, _ => z.elim
  | none :: r, [], z, _, _, _ => z.elim
  | some _ :: r, [], z, _, _, _ => z.elim
  | some _ :: r, none :: _, z, _, _, _ => z.elim
  | none :: r, _ :: r', z, 0, v, h => by simp at h
  | none :: r, _ :: r', z, i + 1, v, h => by
    have := keepSt_get (a := r) (b := r') z i v (by simpa using h)
    simpa using this
  | some x :: r, some x' :: r', z, 0, v, h => by
    obtain ⟨e, _⟩ := z
    subst e
    simpa using h
  | some x :: r, some x' :: r', z, i + 1, v, h => by
    have := keepSt_get (a := r) (b := r') z.2 i v (by simpa using h)
    simpa using this
/-- the reading: W by the turn, a measure, the items so far, the heap -/
def CompTurns (J : It) (D : Addr) (g : TG) (tc : TT) (te : TE) (σ0 : St) (W : Nat → Nat → List V → Hp → Prop) (R : Hp → Prop) : Prop :=
  ∀ i m ys H2, W i m ys H2 → (J.stop i H2 ∧ R H2) ∨ (J.go i H2 ∧ ∃ N : List V → Hp → Prop, (∀ ys' H', N ys' H' → ∃ m', m' < m ∧ W (i + 1) m' ys' H') ∧ ∀ x H3, J.yld i H2 x H3 → g x σ0 H3 fun σ4 H4 => keepSt σ0 σ4 ∧ tc σ4 H4 fun b H5 =>
    if b = true then te σ4 H5 fun y H6 => H6 D = some (.lst ys) ∧ ys.length < sizeLine ∧ N (ys ++ [y]) (upd H6 D (.lst (ys ++ [y])))
    else N ys H5)
def tComp (wi : TI) (g : TG) (tc : TT) (te : TE) (own : List Str) (fr : List (Str × Nat)) : TE := fun σ H Q => wi σ H fun J H1 => ∀ D, H1 D = none →
  ∃ W : Nat → Nat → List V → Hp → Prop, (∃ m, W 0 m [] (upd H1 D (.lst []))) ∧ CompTurns J D g tc te (compSt own fr σ) W fun H2 => Q (.ref D) H2

section
variable {X : Cx} {target iter elt : Expr} {ifs : List Expr} {scope : Scope} {cl : List (Str × Addr)} {own : List Str} {fr : List (Str × Nat)} {pos : Pos} {wi : TI} {g : TG} {tc : TT} {te : TE}

theorem Inv.sub_pins {pins pins' : List (Addr × Obj)} {σ : St} {H : Hp} {s : Shared} (I : Inv X pins σ H s) (h : ∀ p ∈ pins', p ∈ pins) : Inv X pins' σ H s := I.pins_of fun p hp => I.pin p (List.mem_append_right _ (h p hp))

theorem comp_ok {pins : List (Addr × Obj)} {σ : St} {H : Hp} {s : Shared} {C : Addr} {fp : List Addr} (S : CompScope X scope cl own fr) (I : Inv X pins σ H s) (hf : ∀ b ∈ fp, FpOk X pins H b) (hC : s.heap.objs.size ≤ C) (hfl : ∀ b ∈ fp, b < s.heap.objs.size) :
    (X.comp scope cl (own ++ fr.map (·.1)) C s H fp).Ok := by
  refine ⟨I.ok.mod, ?_, I.ok.glob, I.ok.blt, hC, fun x y c h1 h2 => I.ok.inj x y c (S.cls x c h1) (S.cls y c h2), S.has, fun x c z => absurd z (by simp [Cx.comp]), I.ok.hd, I.ok.frames, .inl rfl,
    fun b hb => ⟨Nat.ne_of_lt (Nat.lt_of_lt_of_le (hfl b hb) hC), fun x c h => (hf b hb).2.2.2.2.1 x c (S.cls x c h)⟩, I.bs, Nat.le_trans I.ok.bsz I.sz, fun b o e hb => ?_, fun b hb z => ?_, I.stack, I.stkFree⟩
  · show (relabel scope X.env).kind = .function
    exact S.kind
  · rcases (hf b hb).2.2.2.1 with z | z
    · exact I.ok.noex b o e z
    · exact absurd (Nat.lt_of_lt_of_le (Heap.lt_size e) (Nat.le_trans I.ok.bsz z)) (Nat.lt_irrefl _)
  · rcases List.mem_cons.mp (I.stkSub b z) with q | q
    · exact (hf b hb).2.1 q
    · exact (hf b hb).2.2.1 q

theorem compSt_len (own : List Str) (fr : List (Str × Nat)) (σ : St) : (compSt own fr σ).length = (own ++ fr.map (·.1)).length := by
  unfold compSt
  simp

/-- the block, from the iterator on -/
theorem comp_block {pins : List (Addr × Obj)} {σ : St} {H : Hp} {s : Shared} {it : Addr} {fp : List Addr} {tn : Nat → Heap → Prop} {J : It} {E : Value → Shared → Prop} {RR : Value → Addr → Result → Shared → Prop} {Rf : Addr → Hp → Prop}
    (hc : X.calm = true) (S : CompScope X scope cl own fr) (I : Inv X pins σ H s) (T : Turn X.prog X.w X.K target J fp it tn) (st : tn 0 s.heap) (hf : ∀ b ∈ fp, FpOk X pins H b)
    (hg : ∀ C s H fp, PG (X.comp scope cl (own ++ fr.map (·.1)) C s H fp) target g) (ht : ∀ C s H fp, PIfs (X.comp scope cl (own ++ fr.map (·.1)) C s H fp) ifs tc) (he : ∀ C s H fp, PE (X.comp scope cl (own ++ fr.map (·.1)) C s H fp) elt te)
    (hw : ∀ D, H D = none → ∃ W : Nat → Nat → List V → Hp → Prop, (∃ m, W 0 m [] (upd H D (.lst []))) ∧ CompTurns J D g tc te (compSt own fr σ) W (Rf D))
    (hRR : ∀ D C s' H', s.heap.objs.size ≤ C → C ≠ D → (∃ m, s'.heap.Ns C m) → H' C = none → Un (frs X.stack) fp H H' s.heap s'.heap → HOk X.prog X.w H' s'.heap → AllBare s'.gens → s'.os = s.os → Rf D H' → RR (.ref D) C (.ok .next) s') :
    wpAny (model X.prog X.w) X.A (newList []) (fun acc s3 => wpAny (model X.prog X.w) X.A (newFunctionEnv scope X.env.globals cl [] X.env.qual none .none (some X.env)) (fun cenv s4 =>
      codeAny (model X.prog X.w) X.A (.compStart (.ListComp elt [⟨target, iter, ifs, 0⟩] scope pos) 0 (.ref it) acc { cenv with scope := relabel scope X.env }) (RR acc cenv.locals) s4) E s3) E s := by
  have hfl : ∀ b ∈ fp, b < s.heap.objs.size := fun b hb => by
    obtain ⟨o, e, _⟩ := T.obj 0 s.heap st b hb
    exact Heap.lt_size e
  have hD : H s.heap.objs.size = none := I.fresh
  obtain ⟨W, ⟨m0, w0⟩, turns⟩ := hw s.heap.objs.size hD
  have I1 : Inv X pins σ (upd H s.heap.objs.size (.lst [])) { s with heap := s.heap.push { cls := .type "list", data := .seq ([] : List Value).toArray }, toks := s.toks } := I.lnew .nil (Nat.zero_le _)
  refine wpAny_newObj_type (wpAny_newFunctionEnv S.nocell (by intro y hy; simp at hy) (fun h1 hns1 hsb1 => ?_) S.kind)
  dsimp only at hns1 hsb1 ⊢
  generalize hH2 : s.heap.push { cls := .type "list", dict := none, data := .seq ([] : List Value).toArray } = H2 at hns1 hsb1 ⊢ I1
  have hCs : H2.objs.size = s.heap.objs.size + 1 := by rw [← hH2, Heap.size_push]
  have hCle : s.heap.objs.size ≤ H2.objs.size := by omega
  have hDC : s.heap.objs.size ≠ H2.objs.size := by omega
  have up1 : ∀ b o, H2.get? b = some o → h1.get? b = some o := fun b o e => hsb1.extBut b o (Nat.ne_of_lt (Heap.lt_size e)) (Heap.get?_push_of_some _ e)
  have up : ∀ b o, s.heap.get? b = some o → h1.get? b = some o := fun b o e => up1 b o (hH2 ▸ Heap.get?_push_of_some _ e)
  have okY := comp_ok (C := H2.objs.size) S I hf hCle hfl
  -- the block's invariant at the start
  have I0 : ∀ tk, Inv (X.comp scope cl (own ++ fr.map (·.1)) H2.objs.size s H fp) [] (compSt own fr σ) (upd H s.heap.objs.size (.lst [])) { s with heap := h1, toks := tk } := by
    intro tk
    have hok1 : HOk X.prog X.w (upd H s.heap.objs.size (.lst [])) h1 := I1.hok.kept up1
    refine ⟨okY, rfl, I.bare, ⟨fun b o e n _ _ => up b o e, fun b o e n _ _ => ⟨o.slots, up b o e⟩, fun b o e n _ => ?_, fun b o e _ => ⟨o, up b o e⟩, fun b xs q => ?_, fun b o u q => ?_, fun b ps q => ⟨#[], ?_⟩⟩,
      ⟨_, hns1, fun i x v e1 e2 e3 => ?_⟩, fun x c e => ?_, ?_, fun x c e => ?_, fun p hp => ?_, hok1, compSt_len own fr σ⟩
    · have e' : s.heap.get? b = some o := e
      show upd H s.heap.objs.size (.lst []) b = none
      rw [upd_ne (Nat.ne_of_lt (Heap.lt_size e'))]; exact n
    · rw [upd_ne (ne_of_none q hD)]; exact q
    · rw [upd_ne (ne_of_none q hD)]; exact q
    · have q' : H b = some (.tbl ps) := q
      rw [upd_ne (ne_of_none q' hD), q']; simp
    · -- the free names
      have e2' : (compSt own fr σ)[i]? = some (some v) := e2
      have e1' : (own ++ fr.map (·.1))[i]? = some x := e1
      unfold compSt at e2'
      by_cases hi : i < own.length
      · rw [List.getElem?_append_left (by simpa using hi), List.getElem?_map] at e2'
        cases q : own[i]? with
        | none => rw [q] at e2'; cases e2'
        | some y => rw [q] at e2'; cases e2'
      · rw [List.getElem?_append_right (by simpa using hi), List.length_map, List.getElem?_map] at e2'
        rw [List.getElem?_append_right (by omega), List.getElem?_map] at e1'
        cases q : fr[i - own.length]? with
        | none => rw [q] at e2'; cases e2'
        | some p =>
          rw [q] at e1' e2'
          have ex : p.1 = x := Option.some.inj e1'
          have ev : (σ[p.2]?).join = some v := Option.some.inj e2'
          have ev' : σ[p.2]? = some (some v) := by
            cases z : σ[p.2]? with
            | none => rw [z] at ev; cases ev
            | some o => rw [z] at ev; cases o with
              | none => cases ev
              | some v' => have : v' = v := Option.some.inj ev; rw [this]
          obtain ⟨f1, f2, f3⟩ := S.free p (List.mem_of_getElem? q)
          subst ex
          obtain ⟨m, hn, hl⟩ := I.loc
          have vis : Vis X.env.scope p.1 := by
            rcases f2 with f2 | f2
            · exact .inr (.inl f2)
            · exact .inr (.inr f2)
          obtain ⟨u, ru, lk⟩ := hl p.2 p.1 v f1 ev' vis
          refine ⟨u, ru, ?_⟩
          rcases lk with ⟨k, _⟩ | ⟨k, c, e, z⟩
          · rcases f2 with f2 | f2 <;> (rw [f2] at k; cases k)
          · obtain ⟨c', hc'⟩ := S.has p.1 f3
            have e' := S.cls _ _ hc'
            rw [e] at e'; cases e'
            obtain ⟨oc, ho, hd⟩ := z
            exact .inr ⟨f3, c, hc', ⟨oc, up _ _ ho, hd⟩⟩
    · obtain ⟨v, oc, ho, hd⟩ := I.cell x c (S.cls x c e)
      exact ⟨v, oc, up _ _ ho, hd⟩
    · show upd H s.heap.objs.size (.lst []) H2.objs.size = none
      rw [upd_ne (Ne.symm hDC)]
      exact I.hok.fresh hCle
    · obtain ⟨v, z⟩ := I.cell x c (S.cls x c e)
      show upd H s.heap.objs.size (.lst []) c = none
      rw [upd_ne (Nat.ne_of_lt z.lt)]
      exact I.freeC x c (S.cls x c e)
    · exact absurd (show p ∈ ([] : List (Addr × Obj)) from hp) (by simp)
  have fpf : ∀ b ∈ fp, upd H s.heap.objs.size (.lst []) b = none := fun b hb => by rw [upd_ne (Nat.ne_of_lt (hfl b hb))]; exact (hf b hb).1
  have st1 : tn 0 h1 := T.keep 0 _ _ st fun b hb o e => up b o e
  have stat : ∀ {H' : Hp}, (∀ b ∈ fp, H' b = none) → ∀ b ∈ fp, FpOk (X.comp scope cl (own ++ fr.map (·.1)) H2.objs.size s H fp) [] H' b := fun hn b hb =>
    ⟨hn b hb, (okY.exf b hb).1, okY.exfs b hb, .inl hb, (okY.exf b hb).2, fun p hp => absurd (show p ∈ ([] : List (Addr × Obj)) from hp) (by simp)⟩
  have loop : ∀ s3 : Shared, (∃ tk, s3 = { s with heap := h1, toks := tk }) →
      codeAny (model X.prog X.w) X.A (.compLoop (.ListComp elt [⟨target, iter, ifs, 0⟩] scope pos) 0 (.ref it) (.ref s.heap.objs.size) (compEnvC scope cl H2.objs.size X.env)) (RR (.ref s.heap.objs.size) H2.objs.size) s3 := by
    rintro s3 ⟨tk, rfl⟩
    refine compLoop_own (fun n s' => ∃ i ys H', Inv (X.comp scope cl (own ++ fr.map (·.1)) H2.objs.size s H fp) [] (compSt own fr σ) H' s' ∧ tn i s'.heap ∧ (∀ b ∈ fp, H' b = none) ∧ W i n ys H') ?_ m0 ⟨0, [], _, I0 tk, st1, fpf, w0⟩
    rintro n s4 ⟨i, ys, H4, I4, st4, fr4, w4⟩
    rcases turns i n ys H4 w4 with ⟨stop, q⟩ | ⟨go, N, hN, step⟩
    · refine thn (T.done (X.comp scope cl (own ++ fr.map (·.1)) H2.objs.size s H fp) rfl rfl rfl hc i [] s4 _ H4 _ I4 (stat fr4) st4 stop) fun r s5 ⟨hr, I5⟩ => ?_
      subst hr
      exact hRR _ _ s5 H4 hCle (Ne.symm hDC) ⟨_, I5.loc.choose_spec.1⟩ I5.free I5.base I5.hok I5.bare I5.os q
    · refine thn (T.item (X.comp scope cl (own ++ fr.map (·.1)) H2.objs.size s H fp) rfl rfl rfl hc i [] s4 _ H4 _ I4 (stat fr4) st4 go) fun r s5 ⟨u, hr, h5⟩ => ?_
      subst hr
      refine thn h5 fun _ s6 ⟨x, H6, I6, r6, y6, st6, fr6⟩ => ?_
      have I6' := I6.pinned (stat fr6) (T.obj _ _ st6)
      refine thn (hg H2.objs.size s H fp _ s6 _ H6 x u _ I6' r6 (step x H6 y6)) fun _ s7 ⟨σ7, H7, I7, k7, q7⟩ => ?_
      refine thn (ht H2.objs.size s H fp _ s7 σ7 H7 _ I7 q7) fun ok s8 ⟨H8, I8, q8⟩ => ?_
      have again : ∀ {s9 : Shared} {σ9 : St} {H9 : Hp} {zs : List V}, Inv (X.comp scope cl (own ++ fr.map (·.1)) H2.objs.size s H fp) ([] ++ pinsAt fp s6.heap) σ9 H9 s9 → (∀ (i : Nat) v, (compSt own fr σ)[i]? = some (some v) → σ9[i]? = some (some v)) → (∃ m', m' < n ∧ W (i + 1) m' zs H9) →
          ∃ m, m < n ∧ ∃ i ys H', Inv (X.comp scope cl (own ++ fr.map (·.1)) H2.objs.size s H fp) [] (compSt own fr σ) H' s9 ∧ tn i s9.heap ∧ (∀ b ∈ fp, H' b = none) ∧ W i m ys H' := by
        intro s9 σ9 H9 zs I9 hσ ⟨m', hm, w9⟩
        refine ⟨m', hm, i + 1, zs, H9, (I9.sub_pins (fun p hp => absurd (show p ∈ ([] : List (Addr × Obj)) from hp) (by simp))).weak ?_ hσ, T.keep _ _ _ st6 fun b hb o e => (I9.pin (b, o) (List.mem_append_right _ (List.mem_append_right _ (mem_pinsAt hb e)))).1, fun b hb => ?_, w9⟩
        · rw [I9.len]; exact compSt_len own fr σ
        · obtain ⟨o, e, d⟩ := T.obj _ _ st6 b hb
          exact (I9.pin (b, o) (List.mem_append_right _ (List.mem_append_right _ (mem_pinsAt hb e)))).2.1
      cases ok with
      | false => exact (if_neg Bool.false_ne_true).mpr (again I8 (keepSt_get k7) (hN _ _ ((if_neg Bool.false_ne_true).mp q8)))
      | true =>
        refine (if_pos rfl).mpr ?_
        have q8' := (if_pos rfl).mp q8
        refine thn (he H2.objs.size s H fp _ s8 σ7 H8 _ I8 q8') fun y s9 ⟨yv, H9, I9, r9, hD9, hz, q9⟩ => ?_
        refine thn (mt_append _ s9 σ7 H9 (.ref s.heap.objs.size) [yv] (.ref s.heap.objs.size) [y] (fun _ H' => H' = upd H9 s.heap.objs.size (.lst (ys ++ [yv]))) I9 rfl (.cons r9 .nil) ⟨_, ys, yv, rfl, rfl, hD9, hz, rfl⟩) fun _ s10 ⟨_, H10, I10, _, e10⟩ => ?_
        subst e10
        exact again I10 (keepSt_get k7) (hN _ _ q9)
  exact codeAny_compStart_list (loop _ ⟨_, rfl⟩) (T.self _ 0 _ _ _ st1 (loop _ ⟨_, rfl⟩))

theorem comp_after {pins : List (Addr × Obj)} {σ : St} {H H' : Hp} {s s' : Shared} {fp : List Addr} (I : Inv X pins σ H s) (hf : ∀ b ∈ fp, FpOk X pins H b) (un : Un (frs X.stack) fp H H' s.heap s'.heap)
    (hok : HOk X.prog X.w H' s'.heap) (bare : AllBare s'.gens) (os : s'.os = s.os) : Inv X pins σ H' s' :=
  I.call' os un hok bare fun b hb => ⟨(hf b hb).2.2.2.1, (hf b hb).2.1, (hf b hb).2.2.2.2.1, (hf b hb).2.2.2.2.2⟩
theorem comp_let {pins : List (Addr × Obj)} {σ σ' : St} {H H' : Hp} {s s' : Shared} {C : Addr} {h' : Heap} (I : Inv X pins σ H s) (hC : s.heap.objs.size ≤ C) (hn : H' C = none) (I' : Inv X pins σ' H' s') (sb : Heap.SameBut C s'.heap h') :
    Inv X pins σ' H' { s' with heap := h' } := by
  obtain ⟨f0, f1, f2, f3, f4, f5⟩ := I.fpOk hC hn
  exact I'.turned (t' := s'.toks) (fun b o hb e => (sb.2 b hb).trans e) f0 f1 f3 f4 f5

/-- [elt for target in iter if ..] as a value -/
theorem pe_comp (hc : X.calm = true) (S : CompScope X scope cl own fr) (hi : PI X target iter wi)
    (hg : ∀ C s H fp, PG (X.comp scope cl (own ++ fr.map (·.1)) C s H fp) target g) (ht : ∀ C s H fp, PIfs (X.comp scope cl (own ++ fr.map (·.1)) C s H fp) ifs tc) (he : ∀ C s H fp, PE (X.comp scope cl (own ++ fr.map (·.1)) C s H fp) elt te)
    (hs : ∀ x, foldedSetIterable iter X.env x = pure x := by intro _; rfl) : PE X (.ListComp elt [⟨target, iter, ifs, 0⟩] scope pos) (tComp wi g tc te own fr) := by
  intro pins s σ H Q I h
  rw [eval_ListComp]
  refine wpAny_comprehension_free (use := none) rfl hs S.clos S.kind S.names (thn (hi pins s σ H _ I h) fun v s1 h1 => thn h1 fun itv s2 h2 => ?_)
  obtain ⟨it, fp, tn, J, H2, e, I2, T, st2, f2, hw⟩ := h2
  subst e
  refine comp_block (RR := fun acc C => compPost (model X.prog X.w) X.A X.xe none (EP X pins σ Q) acc C) hc S I2 T st2 f2 hg ht he hw ?_
  rintro D C s' H' hC hDC ⟨m, hn⟩ hCf un hok bare os q
  refine ⟨m, hn, fun h' hs' => ⟨.ref D, H', ?_, rfl, q⟩⟩
  exact comp_let (C := C) (σ := σ) I2 hC hCf (comp_after I2 f2 un hok bare os) hs'

/-- y = [elt for target in iter if ..] -/
theorem ps_comp {i : Nat} {y : Str} {py spos : Pos} (hN : X.N.Nodup) (hi' : X.N[i]? = some y) (hx : Loc X.env.scope y) (hc : X.calm = true) (S : CompScope X scope cl own fr) (hi : PI X target iter wi)
    (hg : ∀ C s H fp, PG (X.comp scope cl (own ++ fr.map (·.1)) C s H fp) target g) (ht : ∀ C s H fp, PIfs (X.comp scope cl (own ++ fr.map (·.1)) C s H fp) ifs tc) (he : ∀ C s H fp, PE (X.comp scope cl (own ++ fr.map (·.1)) C s H fp) elt te)
    (hf : X.fn y = true ∨ X.env.scope.names.lookup y = some .local := by first | exact .inl rfl | exact .inr rfl | assumption)
    (hsw : swapsWith (.ListComp elt [⟨target, iter, ifs, 0⟩] scope pos) (some (.Name y py)) spos.line X.env = pure true := by rfl)
    (hs : ∀ x, foldedSetIterable iter X.env x = pure x := by intro _; rfl) : PS X (.Assign [.Name y py] (.ListComp elt [⟨target, iter, ifs, 0⟩] scope pos) spos) (tAsg (tComp wi g tc te own fr) (gName i)) := by
  intro pins s σ H Dn I h
  rw [exec_Assign_Name_used _ _ _ _ hsw]
  refine wpAny_bind (wpAny_standAt (wpAny_bind ?_))
  show wpAny _ X.A (do let _ ← comprehension (.ListComp elt [⟨target, iter, ifs, 0⟩] scope pos) scope X.env _ (newList []) false (eval iter X.env) (some (assign (.Name y py) X.env))) _ _ s
  refine wpAny_bind (wpAny_mono (wpAny_comprehension_free (use := some (assign (.Name y py) X.env)) (Q := fun _ s' => SP X pins Dn .next s') rfl hs S.clos S.kind S.names (thn (hi pins s σ H _ I h) fun v s1 h1 => thn h1 fun itv s2 h2 => ?_))
    (fun _ s' hq => wpAny_pure (wpAny_pure hq)) fun _ _ e => e)
  obtain ⟨it, fp, tn, J, H2, e, I2, T, st2, f2, hw⟩ := h2
  subst e
  refine comp_block (RR := fun acc C => compPost (model X.prog X.w) X.A X.xe (some (assign (.Name y py) X.env)) (fun _ s' => SP X pins Dn .next s') acc C) hc S I2 T st2 f2 hg ht he hw ?_
  rintro D C s' H' hC hDC ⟨m, hn⟩ hCf un hok bare os q
  have I3 : Inv X pins σ H' s' := comp_after I2 f2 un hok bare os
  show wpAny _ X.A (assign (.Name y py) X.env (.ref D)) _ _ s'
  refine wpAny_assign_Name (store_ok2 I3 hN hi' hx (v := .ref D) rfl (fun s4 I4 ⟨a, hsa, ha⟩ => ?_) hf)
  have hCa : C ≠ a := by
    rcases ha with z | z
    · rw [z]; exact Nat.ne_of_gt (Nat.lt_of_lt_of_le I2.lt hC)
    · obtain ⟨v, q⟩ := I2.cell y a z
      exact Nat.ne_of_gt (Nat.lt_of_lt_of_le q.lt hC)
  refine ⟨m, hn.sameBut hsa hCa, fun h' hs' => ⟨_, H', comp_let (C := C) (σ := σ) I2 hC hCf I4 hs', q⟩⟩
end

/-! ### the forms one uses -/
theorem comp_range {lo : Int} {n : Nat} {D : Addr} {g : TG} {tc : TT} {te : TE} {σ0 : St} {R : Hp → Prop} {H1 : Hp} (Pv : Nat → List V → Hp → Prop) (h0 : Pv 0 [] (upd H1 D (.lst [])))
    (hs : ∀ i ys H, i < n → Pv i ys H → g (.int (lo + i)) σ0 H fun σ4 H4 => keepSt σ0 σ4 ∧ tc σ4 H4 fun b H5 => if b = true then te σ4 H5 fun y H6 => H6 D = some (.lst ys) ∧ ys.length < sizeLine ∧ Pv (i + 1) (ys ++ [y]) (upd H6 D (.lst (ys ++ [y]))) else Pv (i + 1) ys H5)
    (hd : ∀ ys H, Pv n ys H → R H) : ∃ W : Nat → Nat → List V → Hp → Prop, (∃ m, W 0 m [] (upd H1 D (.lst []))) ∧ CompTurns (Itr lo n) D g tc te σ0 W R := by
  refine ⟨fun i m ys H => m = n - i ∧ i ≤ n ∧ Pv i ys H, ⟨_, rfl, Nat.zero_le _, h0⟩, ?_⟩
  rintro i m ys H ⟨rfl, hi, p⟩
  by_cases hlt : i < n
  · refine .inr ⟨hlt, Pv (i + 1), fun ys' H' p' => ⟨n - (i + 1), by omega, rfl, hlt, p'⟩, fun x H' y => ?_⟩
    obtain ⟨e, y⟩ := y
    subst e y
    exact hs i ys _ hlt p
  · have e : i = n := by omega
    subst e
    exact .inl ⟨Nat.le_refl _, hd ys H p⟩
/-- a block without free names -/
theorem compScope_plain {X : Cx} {scope : Scope} {own : List Str} (hf : ∀ y ∈ scope.names, y.2 ≠ .free) (hc : ∀ y ∈ scope.names, y.2 ≠ .cell) (hk : scope.kind = .function) (hn : ∀ y ∈ scope.names, y.2 = .local → scope.names.lookup y.1 = some .local) : CompScope X scope [] own [] := by
  have rel : (relabel scope X.env).names = scope.names := by
    unfold relabel
    dsimp only
    refine (List.map_congr_left fun p hp => ?_).trans (List.map_id _)
    obtain ⟨n, k⟩ := p
    have : (k == NameKind.free) = false := by
      have := hf _ hp
      cases k <;> first | rfl | exact absurd rfl this
    simp [this]
  refine ⟨closureFor_none hf, hc, hk, hn, fun y c h => by simp at h, fun y h => ?_, fun p hp => by simp at hp⟩
  rw [rel] at h
  rcases h with h | h
  · exact absurd rfl (hc _ (PySem.mem_of_lookup h))
  · exact absurd rfl (hf _ (PySem.mem_of_lookup h))
end L2
namespace L2
open PySem PySem.Spec PyProof.Rows

/-! ### own exception classes -/
/-- an exception object of the class at C stands at a -/
def IsExc (a C : Addr) (h : Heap) : Prop := ∃ ob vs, h.get? a = some ob ∧ ob.cls = .ref C ∧ ob.data = .fields vs
def excO (a C : Addr) : HO := .ext (IsExc a C)
/-- an exception that flies towards the frames of `outer` -/
def Flies (P : Program) (w : World) (outer : List Env) (H H' : Hp) (s : Shared) (a C : Addr) (s' : Shared) : Prop :=
  ∃ (t : Addr) (B : Heap), s'.os = s.os ∧ AllBare s'.gens ∧ Un (frs outer) [] H H' s.heap s'.heap ∧ HOk P w H' s'.heap ∧ Heap.FlyingW B outer a (.ref C) (.ref t) s'.heap ∧
    (∀ b o, s'.heap.get? b = some o → H' b ≠ none → B.get? b = some o) ∧ (∀ b o0 o, s.heap.get? b = some o0 → s'.heap.get? b = some o → b ∉ frs outer → B.get? b = some o)
def CXr (P : Program) (w : World) : CXT := fun outer H s E e s' => ∃ (a C : Addr) (H' : Hp), e = .ref a ∧ Flies P w outer H H' s a C s' ∧ E (.ref C) none H'

section
variable {X : Cx} {pins : List (Addr × Obj)} {σ : St} {H : Hp} {s : Shared}
/-- what a raise in this body comes to -/
def RaisesTo (X : Cx) (E : XK) : Prop := ∀ (pins : List (Addr × Obj)) (σ : St) (H : Hp) (s : Shared) (h' : Heap) (a C : Addr) (vs : List Value), Inv X pins σ H s → Heap.MadeExcOf s.heap h' a (.ref C) vs → E (.ref C) none H → X.xe (.ref a) { s with heap := h' }

end
end L2
namespace L2
open PySem PySem.Spec PyProof.Rows

abbrev bmVE : List Value := [.type "ValueError", .type "Exception", .type "BaseException", .type "object"]
/-- a class of the text that stands under ValueError, straight or over others of the text -/
abbrev ExcC (K : PySem.W.Frag) (C : Addr) : Prop := PySem.W.excIn K C bmVE "ValueError.__new__" = true
theorem exc_get {K : PySem.W.Frag} {h : Heap} {C : Addr} (KX : K.In h) (ex : ExcC K C) : ∃ mro' ns' mN', (∃ nm' qn' bs' hd' sn' sub' ab' col' dd' j0 j1 j2 j3 j5,
    h.get? C = some (excClassObj nm' qn' C ns' bs' mro' hd' sn' sub' ab' col' dd' j0 j1 j2 j3 j5 "ValueError.__new__")) ∧ h.Ns ns' mN' ∧ mN' "__init__" = none ∧ OwnTail h bmVE mro' := by
  have ex' := ex
  unfold ExcC PySem.W.excIn at ex'
  split at ex'
  · rename_i dd' cd' sl' lk
    have lk' := KX _ _ lk
    split at ex'
    · rename_i C' rest' j0 j1 j2 j3 n' j5 hm hs
      rw [Bool.and_eq_true, Bool.and_eq_true, Bool.and_eq_true, Bool.and_eq_true, Bool.and_eq_true, beq_iff_eq, beq_iff_eq, beq_iff_eq] at ex'
      obtain ⟨⟨⟨⟨⟨z1, z2⟩, z3⟩, z4⟩, z5⟩, z6⟩ := ex'
      have z3' : cd'.hasDel = false := by simpa using z3
      subst z1 z2
      cases cd' with
      | mk a1 a2 a3 a4 a5 a6 a7 a8 a9 a10 a11 =>
        have hm' : a3 = .ref C' :: rest' := hm
        have h11 : a11 = false := z3'
        subst hm' h11
        have es : sl' = #[j0, j1, j2, j3, some (.builtin "ValueError.__new__"), j5] := by
          cases sl' with
          | mk l => exact congrArg Array.mk hs
        subst es
        exact ⟨rest', a4, _, ⟨_, _, _, _, _, _, _, _, _, _, _, _, _, _, lk'⟩, .of_isNs (PySem.W.isNs_of_in KX z5), PySem.W.nsMap_none_of_in KX z5 z6, PySem.W.tail_of_in KX z4⟩
    · cases ex'
  · cases ex'

section
variable {X : Cx}
/-- raise C(e, ..) in a def's own body -/
def tRaise (C : Addr) (E : XK) (t : TA) : TS := fun _ σ H => t σ H fun vs H1 => vs.length ≤ sizeLine ∧ E (.ref C) none H1
/-! ### try: one call; except W as n: a suite -/
/-- within an except suite -/
def Cx.inExc (X : Cx) (a : Addr) : Cx := { X with A := X.A.mark (some (.ref a)), calm := false, xe := fun _ _ => False }
variable {pins : List (Addr × Obj)} {σ : St} {H : Hp} {s : Shared}
end
end L2
namespace L2
open PySem PySem.Spec PyProof.Rows

theorem exc_type {M : Model} {h : Heap} {a C : Addr} (hx : IsExc a C h) : PySem.W.Looks M h (typeOf (.ref a)) (.ref C) := by
  obtain ⟨ob, vs, e, c, d⟩ := hx
  exact c ▸ (PySem.W.Looks.ld e).andThen .now
section
variable {X : Cx} {k : Nat} {f : Addr} {fd : FuncData} {ps : List Str} {sp : Sp} {dvs : List V} {ds : List Value} {fx : Str} {fp cpos bpos np hpos pos : Pos} {e : Expr} {es : List Expr} {t : TA}

/-- what the handler's suite is asked -/
def Caught (K : PySem.W.Frag) (W : Addr) (i : Nat) (ts : TS) (D : Ends) (σ : St) : XK := fun cls _ H2 => ∃ C, cls = .ref C ∧ PySem.W.kitCls K (.ref C) (.ref W) = some true ∧
  ∀ a, H2 a = none → ts { nx := fun σ' H' => D.nx (σ'.set i none) H', rt := D.rt, bk := fun σ' H' => D.bk (σ'.set i none) H', ct := fun σ' H' => D.ct (σ'.set i none) H' } (σ.set i (some (.ref a))) (upd H2 a (excO a C))

def tTry (K : PySem.W.Frag) (W : Addr) (i : Nat) (sp : Sp) (dvs : List V) (t : TA) (ts : TS) : TS := fun D σ H => t σ H fun vs H1 => sp (vs ++ dvs) H1 (fun _ H2 => D.nx σ H2) (Caught K W i ts D σ)
end
end L2
namespace L2
open PySem PySem.Spec PyProof.Rows
theorem exc_class {K : PySem.W.Frag} {prog : Program} {w : World} {A : Around} {E : Value → Shared → Prop} {Q : Option Value → Shared → Prop} {s : Shared} {a C : Addr} (KX : K.In s.heap) (hx : IsExc a C s.heap)
    (hga : PySem.W.findIn K (.ref C) "__getattribute__" = some (some (.builtin "BaseException.__getattribute__"))) (hnga : PySem.W.findIn K (.ref C) "__getattr__" = some none)
    (hcl : PySem.W.findIn K (.ref C) "__class__" = some (some (.builtin "object.__class__"))) (hm : PySem.W.mroIn K C (.type "object") = some true) (hB : PySem.W.subIn K (.ref C) (.type "BaseException") = some true)
    (h : Q (some (.ref C)) { s with toks := s.toks + 1 }) : wpAny (model prog w) A (getAttr? (.ref a) "__class__") Q E s := by
  have L0 := exc_type (M := model prog w) hx
  have L1 := PySem.W.looks_findIn (M := model prog w) KX hga
  have L2 := PySem.W.looks_findIn (M := model prog w) KX hnga
  have L3 := PySem.W.looks_findIn (M := model prog w) KX hcl
  have L4 := PySem.W.looks_subIn (M := model prog w) KX hB
  obtain ⟨h0, g, d, t, os⟩ := s
  have f3 := PySem.F.attr_ValueError.ga.bind (.ref a)
  unfold getAttr? getAttrBy? getAttrBy
  refine wpAny_bind (wpAny_mkText (wpAny_bind (wpAny_attempt (wpAny_holding (wpAny_bind (L0.at (wpAny_bind (L1.at ?_))))))))
  dsimp only
  have hx2 : (onTheHeap (Value.ref C) && Value.builtin "BaseException.__getattribute__" == Value.builtin "object.__getattribute__") = false := by
    have z : (Value.builtin "BaseException.__getattribute__" == Value.builtin "object.__getattribute__") = false := by decide +kernel
    rw [z, Bool.and_false]
  rw [hx2]
  simp only [Bool.false_eq_true, if_false]
  unfold getAttrByItsOwn
  repeat (any_goals (first | assumption | with_reducible refine L0.at ?_ | with_reducible refine L2.at ?_ | wp_step))
  have hsp : splitId "BaseException.__getattribute__" = some ("BaseException", "__getattribute__") := by decide +kernel
  have hkd : builtinKind "BaseException.__getattribute__" = some .slot := by decide +kernel
  have har := PySem.F.args_bexc_ga (.ref a) (.str (Str.ofString "__class__") t)
  refine codeAny_call_builtin PySem.F.attr_ValueError.ga.plain PySem.F.entry_bexc_ga ?_
  show wpAny _ _ (checkBuiltinCall "BaseException.__getattribute__" ⟨[.ref a, .str (Str.ofString "__class__") t], []⟩) _ _ _
  simp only [checkBuiltinCall, hkd, hsp]
  refine wpAny_bind ?_
  unfold isInstance
  have f5 := PySem.F.typeOf_object_class
  have f6 := PySem.F.slot_gs_get.lookup
  have f7 := PySem.F.slot_gs_set.lookup
  have hT5 : (⟨h0, g, d, t + 1, os⟩ : Shared).TypeIs (.builtin "object.__class__") "getset_descriptor" := PySem.F.typeOf_object_class
  refine wpAny_bind (L0.at (L4.at ?_))
  repeat (any_goals (first | assumption | with_reducible refine L0.at ?_ | with_reducible refine L3.at ?_ | wp_step))
  have Lo : PySem.W.Looks (model prog w) h0 (isSubtype (.ref C) (.type (".".intercalate ("object.__class__".cutAt '.').dropLast))) true := by
    rw [PySem.F.owner_object_class]
    exact PySem.W.looks_mroIn KX hm
  have hT6 : (⟨h0, g, d, t + 1, os⟩ : Shared).TypeIs (.builtin "object.__class__") "getset_descriptor" := PySem.F.typeOf_object_class
  refine codeAny_call_builtin PySem.F.slot_gs_get.plain PySem.F.entry_gs_get (PySem.F.slot_gs_get.check _ _ _ _ _ _ _ _ hT6 (PySem.F.args_gs_get _ _ _) ?_)
  repeat (any_goals (first | assumption | with_reducible refine L0.at ?_ | with_reducible refine Lo.at ?_ | wp_step))
  refine ⟨Code.quiet_builtin _ (by decide +kernel), codeAny_builtin PySem.F.entry_object_class ?_⟩
  repeat (any_goals (first | assumption | with_reducible refine L0.at ?_ | wp_step))
end L2
namespace L2
open PySem PySem.Spec PyProof.Rows

/-- what isinstance asks of an exception class of the text -/
structure ExcK (K : PySem.W.Frag) (C : Addr) : Prop where
  ex : ExcC K C
  ga : PySem.W.findIn K (.ref C) "__getattribute__" = some (some (.builtin "BaseException.__getattribute__"))
  nga : PySem.W.findIn K (.ref C) "__getattr__" = some none
  cl : PySem.W.findIn K (.ref C) "__class__" = some (some (.builtin "object.__class__"))
  ob : PySem.W.mroIn K C (.type "object") = some true
  be : PySem.W.subIn K (.ref C) (.type "BaseException") = some true
theorem kitx_exc {K : PySem.W.Frag} {a C : Addr} (k : ExcK K C) : PySem.W.KitX K (.ref a) (.ref C) (IsExc a C) where
  ty := fun _ _ _ p => exc_type p
  it := fun M h KX _ => by
    obtain ⟨_, _, _, ⟨_, _, _, _, _, _, _, _, _, _, _, _, _, _, hC⟩, _⟩ := exc_get KX k.ex
    intro A Q E s kk q
    unfold isType loadHead
    exact wpAny_bind (wpAny_loadPart (kk _ _ hC) (wpAny_pure q))
  ne := fun h tp dd its n sl KX htp => by
    obtain ⟨_, _, _, ⟨_, _, _, _, _, _, _, _, _, _, _, _, _, _, hC⟩, _⟩ := exc_get KX k.ex
    refine Bool.eq_false_iff.mpr fun q => ?_
    have e : C = tp := Value.ref.inj (beq_iff_eq.mp q)
    rw [← e, hC] at htp
    have z := congrArg Obj.data (Option.some.inj htp)
    unfold excClassObj at z
    cases z
  ca := fun KX p q => exc_class KX p k.ga k.nga k.cl k.ob k.be q

def clsVal : V → Value
  | .ty n => .type n
  | .ref a => .ref a
  | _ => .none
def isCls : V → Bool
  | .ty _ => true
  | .ref _ => true
  | _ => false
theorem RelV.cls {c : V} {u : Value} (r : RelV c u) (h : isCls c = true) : u = clsVal c := by
  cases c with
  | ty n => exact r
  | ref a => exact r
  | _ => cases h
theorem Vals.cls : ∀ {cs : List V} {us : List Value}, Vals cs us → cs.all isCls = true → us = cs.map clsVal
  | _, _, .nil, _ => rfl
  | _, _, .cons r t, h => by
    rw [List.all_cons, Bool.and_eq_true] at h
    rw [List.map_cons, r.cls h.1, Vals.cls t h.2]
/-- isinstance(x, c), x a plain value; isinstance(e, c), e an exception of the text; isinstance(e, (c, ..)) -/
def rIsi (K : PySem.W.Frag) : List V → Hp → VK → Prop := fun xs H Q => ∃ x c b, xs = [x, c] ∧ Q (.bl b) H ∧
  ((∃ t, TyOf K H x t ∧ isCls c = true ∧ PySem.W.kitOne K t (clsVal c) = some b) ∨
   (∃ a C, x = .ref a ∧ H a = some (excO a C) ∧ ExcK K C ∧ isCls c = true ∧ PySem.W.kitOne K (.ref C) (clsVal c) = some b) ∨
   (∃ a C tp cs, x = .ref a ∧ H a = some (excO a C) ∧ ExcK K C ∧ c = .ref tp ∧ H tp = some (.tup cs) ∧ cs.all isCls = true ∧ PySem.W.kitAny K (.ref C) (cs.map clsVal) = some b))
theorem call_isi {X : Cx} : CallR X (.builtin "isinstance") (rIsi X.K) := by
  intro pins s σ H xs us Q I rv h
  obtain ⟨x, c, b, rfl, q, h⟩ := h
  obtain ⟨u, cv, rfl, ru, rc⟩ := rv.two
  have fin : ∀ tk, EP X pins σ Q (.bool b) { s with toks := tk } := fun tk => ⟨.bl b, H, I.tok tk, rfl, q⟩
  rcases h with ⟨t, ty, hc, e⟩ | ⟨a, C, rfl, ha, k, hc, e⟩ | ⟨a, C, tp, cs, rfl, ha, k, rfl, ht, hc, e⟩
  · rw [rc.cls hc]
    exact isinst_ok I ru ty e fin
  · rw [rc.cls hc]
    cases (show u = Value.ref a from ru)
    obtain ⟨p, _⟩ := I.hok a _ ha
    exact PySem.W.kia_one (kitx_exc k) I.kIn p e (fun z => nomatch z) fin
  · cases (show u = Value.ref a from ru)
    cases (show cv = Value.ref tp from rc)
    obtain ⟨p, _⟩ := I.hok a _ ha
    obtain ⟨_, its, r, o, eo, co, n, dn⟩ := I.hok tp _ ht
    obtain ⟨ocl, odi, oda, osl⟩ := o
    cases (show ocl = .type "tuple" from co)
    cases (show oda = .seq its.toArray n from dn)
    exact PySem.W.kia_tup (its := its) (kitx_exc k) I.kIn p eo (by rw [r.cls hc]; exact e) (fun z => nomatch z) fin

/-! ### == and != of data: ints, bools, None, texts, lists and tuples of such -/
mutual
inductive DatV (K : PySem.W.Frag) (H : Hp) : V → PyData → Prop
  | non : DatV K H .non .none
  | bl (b : Bool) : DatV K H (.bl b) (.bool b)
  | int (i : Int) : DatV K H (.int i) (.int i)
  | str (x : Str) : DatV K H (.str x) (.str x)
  | lst {a : Addr} {xs : List V} {ds : List PyData} : SqL K H a xs → DatVs K H xs ds → DatV K H (.ref a) (.list ds)
  | tup {a : Addr} {xs : List V} {ds : List PyData} : SqT K H a xs → DatVs K H xs ds → DatV K H (.ref a) (.tuple ds)
inductive DatVs (K : PySem.W.Frag) (H : Hp) : List V → List PyData → Prop
  | nil : DatVs K H [] []
  | cons {x : V} {d : PyData} {xs : List V} {ds : List PyData} : DatV K H x d → DatVs K H xs ds → DatVs K H (x :: xs) (d :: ds)
end
section
variable {X : Cx} {pins : List (Addr × Obj)} {σ : St} {H : Hp} {s : Shared}
mutual
theorem DatV.reads (I : Inv X pins σ H s) : ∀ {x : V} {d : PyData} {u : Value}, DatV X.K H x d → RelV x u → ∃ as, Reads s.heap u d as
  | _, _, _, .non, r => by cases r; exact ⟨_, .none⟩
  | _, _, _, .bl b, r => by cases r; exact ⟨_, .bool b⟩
  | _, _, _, .int i, r => by obtain ⟨t, rfl⟩ := r; exact ⟨_, .int i t⟩
  | _, _, _, .str x, r => by obtain ⟨t, rfl⟩ := r; exact ⟨_, .str x t⟩
  | _, _, _, .lst hq hs, r => by
    cases r
    obtain ⟨its, rv, ⟨o, n, e, c, dd, dt⟩, _⟩ := I.list hq
    obtain ⟨as, ra⟩ := DatVs.reads I hs rv
    exact ⟨_, .list e c dt (by simpa using ra)⟩
  | _, _, _, .tup hq hs, r => by
    cases r
    obtain ⟨its, rv, ⟨o, e, c, n, dt⟩, _⟩ := I.tuple hq
    obtain ⟨as, ra⟩ := DatVs.reads I hs rv
    exact ⟨_, .tuple e c dt (by simpa using ra)⟩
theorem DatVs.reads (I : Inv X pins σ H s) : ∀ {xs : List V} {ds : List PyData} {us : List Value}, DatVs X.K H xs ds → Vals xs us → ∃ as, ReadsAll s.heap us ds as
  | _, _, _, .nil, .nil => ⟨_, .nil⟩
  | _, _, _, .cons h hs, .cons r rs => by
    obtain ⟨as, ra⟩ := DatV.reads I h r
    obtain ⟨bs, rb⟩ := DatVs.reads I hs rs
    exact ⟨_, .cons ra rb⟩
end
end
def rEqD (K : PySem.W.Frag) (neg : Bool) : R2 := fun x y H Q => ∃ d1 d2, DatV K H x d1 ∧ DatV K H y d2 ∧ SeqAt.shaped d1 = true ∧ SeqAt.shaped d2 = true ∧ Q (.bl (neg != PyData.eqv d1 d2)) H
/-! ### numbers of the laws' own draws -/
def Lt2 (p : Nat) (a : Int) : Prop := a.natAbs < 2 ^ p
/-- a product of two numbers below 2^p, 2^q -/
def CMulB (i j : Int) : Prop := ∃ p q, Lt2 p i ∧ Lt2 q j ∧ p ≤ 100000 ∧ q ≤ 100000
def CDivB (i j : Int) : Prop := 0 < j ∧ Lt2 9000 j
theorem op_fdivB {X : Cx} : OpR X (binaryOp .FloorDiv) (rI CDivB fun i j => .int (i / j)) := opI fun i j _ _ _ _ _ hc q => by
  have h1 : (0 : Int) < j := hc.1
  have h2 : j.natAbs < 2 ^ 9000 := hc.2
  refine floordiv_int (by omega) (by rw [Int.fdiv_eq_ediv_of_nonneg i (by omega)]; exact q) (.inl (PyProof.noPylong_of_log2 ?_))
  exact (Nat.log2_lt (by omega)).mpr h2

/-! ### heaps that grow -/
theorem Same.new {H : Hp} {p : Addr} {o : HO} (h : H p = none) : Same H (upd H p o) := fun b u e => by rw [upd_ne (ne_of_none e h)]; exact e
theorem Same.put {H H1 : Hp} {p : Addr} {o : HO} (s : Same H H1) (h : H p = none) : Same H (upd H1 p o) := fun b u e => by rw [upd_ne (ne_of_none e h)]; exact s b u e
theorem upd_eq {H : Hp} {p b : Addr} {o u : HO} (h : H b = some u) (n : b ≠ p) : upd H p o b = some u := by rw [upd_ne n]; exact h
/-- a list of pairs of ints -/
inductive Prs (H : Hp) : List V → List (Int × Int) → Prop
  | nil : Prs H [] []
  | cons {p : Addr} {a b : Int} {xs : List V} {rs : List (Int × Int)} : H p = some (.tup [.int a, .int b]) → Prs H xs rs → Prs H (.ref p :: xs) ((a, b) :: rs)
/-- a list is written: the tuples stay -/
theorem tups_lst {H : Hp} {l : Addr} {zs : List V} {o : HO} (h : H l = some (.lst zs)) : ∀ p ys, H p = some (.tup ys) → upd H l o p = some (.tup ys) := fun p ys e => upd_eq e (ne_of e h (fun z => by cases z))
def prD (r : Int × Int) : PyData := .tuple [.int r.1, .int r.2]
end L2
namespace L2
open PySem PySem.Spec PyProof.Rows
section
variable {P : Program} {w : World} {K : PySem.W.Frag} {mg : Str → Option Value} {base : Heap}
end
section
variable {X : Cx}
/-- a class of the text, by its name -/
theorem pe_cls {x : Str} {a : Addr} {pos : Pos} (hm : X.mg x = some (.ref a)) (hg : Gl X x := by rfl) (hd : (x == ("__debug__" : Str)) = false := by decide) : PE X (.Name x pos) (tC (.ref a)) := pe_glob hg hm rfl hd
/-- a type of Python's own, by its name -/
theorem pe_typ {x : Str} {T : String} {pos : Pos} (hm : X.mg x = none) (hv : bootBuiltins x = some (.type T)) (hg : Gl X x := by rfl) (hn : x ≠ "__name__" := by decide) (hd : (x == ("__debug__" : Str)) = false := by decide) : PE X (.Name x pos) (tC (.ty T)) := pe_bltn hg hm hv rfl hn hd
end
theorem boot_isi : bootBuiltins "isinstance" = some (.builtin "isinstance") := by first | rfl | decide +kernel
theorem boot_tuple : bootBuiltins "tuple" = some (.type "tuple") := by first | rfl | decide +kernel
theorem boot_list : bootBuiltins "list" = some (.type "list") := by first | rfl | decide +kernel
theorem boot_bool : bootBuiltins "bool" = some (.type "bool") := by first | rfl | decide +kernel
theorem boot_int : bootBuiltins "int" = some (.type "int") := by first | rfl | decide +kernel
theorem kit_self {K : PySem.W.Frag} {t : Value} : PySem.W.kitOne K t t = some true := by
  unfold PySem.W.kitOne
  rw [if_pos (beq_self_eq_true t)]

/-! ### the rules with the written part told by name (a comprehension's block has the same) -/
section
variable {X : Cx} (K : PySem.W.Frag)
theorem kIsi (h : X.K = K := by rfl) : CallR X (.builtin "isinstance") (rIsi K) := h ▸ call_isi
theorem kIxL (h : X.K = K := by rfl) : IxR X (rIxL K) := h ▸ ix_list
theorem kIxT (h : X.K = K := by rfl) : IxR X (rIxT K) := h ▸ ix_tup
theorem kIn (h : X.K = K := by rfl) : OpR X (compareOp .In) (rIn K false) := h ▸ op_in_seq
theorem kNotIn (h : X.K = K := by rfl) : OpR X (compareOp .NotIn) (rIn K true) := h ▸ op_notIn_seq
theorem kLen (h : X.K = K := by rfl) : CallR X (.builtin "len") (fun xs H Q => ∃ p ys, xs = [.ref p] ∧ (SqL K H p ys ∨ SqT K H p ys) ∧ Q (.int ys.length) H) := h ▸ call_len_seq
theorem kListOf (h : X.K = K := by rfl) : CallR X (.type "list") (fun xs H Q => ∃ p ys, xs = [.ref p] ∧ (SqL K H p ys ∨ SqT K H p ys) ∧ ∀ l, H l = none → Q (.ref l) (upd H l (.lst ys))) := h ▸ call_list_of
theorem kSl (h : X.K = K := by rfl) : SlR X (rSlL K) := h ▸ sl_list
theorem kTup {es : List Expr} {k : Nat} {t : TGs} {n : Nat} {pos : Pos} (hc : X.calm = true) (h : PGs X es t) (hK : X.K = K := by rfl)
    (hn : (assignEach es X.env).length = n := by rfl) (hst : (assignEach es X.env).findIdx? (·.1) = none := by rfl) : PG X (.Tuple es k pos) (gTup K n t) := hK ▸ pg_tup hc h hn hst
end
end L2
namespace L2
open PySem
/-! ### grids -/
def gStep (r c : Nat) (p : Nat) : List (Int × Int) :=
  (if ((p : Int) + 1) % (c : Int) = 0 then [] else [((p : Int), (p : Int) + 1)]) ++ (if (p : Int) + (c : Int) < (r : Int) * (c : Int) then [((p : Int), (p : Int) + (c : Int))] else [])
def gRoads (r c i : Nat) : List (Int × Int) := (List.range i).flatMap (gStep r c)
def dStep (r c i j : Nat) : List (Int × Int) :=
  (if (j : Int) < (c : Int) - 1 then [((i : Int) * (c : Int) + (j : Int), (i : Int) * (c : Int) + (j : Int) + 1)] else []) ++
  (if (i : Int) < (r : Int) - 1 then [((i : Int) * (c : Int) + (j : Int), ((i : Int) + 1) * (c : Int) + (j : Int))] else [])
def dRow (r c i j : Nat) : List (Int × Int) := (List.range j).flatMap (dStep r c i)
def dRoads (r c i : Nat) : List (Int × Int) := (List.range i).flatMap fun k => dRow r c k c
end L2
namespace L2
open PySem PySem.Spec PyProof.Rows
/-- all of a written list -/
def AllP {α : Type} (P : α → Prop) : List α → Prop
  | [] => True
  | x :: r => P x ∧ AllP P r
theorem AllP.mem {α : Type} {P : α → Prop} : ∀ {l : List α}, AllP P l → ∀ x ∈ l, P x
  | _ :: _, h, _, .head _ => h.1
  | _ :: _, h, x, .tail _ m => AllP.mem h.2 x m
/-- a block with free names -/
theorem compScope_free {X : Cx} {scope : Scope} {cl : List (Str × Addr)} {own : List Str} {fr : List (Str × Nat)} (L : List (Str × NameKind)) (hcl : closureFor scope X.env = pure cl) (hL : (relabel scope X.env).names = L)
    (hc : ∀ y ∈ scope.names, y.2 ≠ .cell) (hk : scope.kind = .function) (hn : ∀ y ∈ scope.names, y.2 = .local → scope.names.lookup y.1 = some .local)
    (hcs : AllP (fun p => X.env.cells.lookup p.1 = some p.2) cl) (hall : AllP (fun p => (p.2 = .cell ∨ p.2 = .free) → ∃ c, cl.lookup p.1 = some c) L)
    (hfr : AllP (fun p => X.N[p.2]? = some p.1 ∧ (X.env.kindOf p.1 = some .cell ∨ X.env.kindOf p.1 = some .free) ∧ (L.lookup p.1 = some .cell ∨ L.lookup p.1 = some .free)) fr) : CompScope X scope cl own fr :=
  ⟨hcl, hc, hk, hn, fun y c h => hcs.mem (y, c) (PySem.mem_of_lookup h), fun y h => by
    rw [hL] at h
    rcases h with h | h
    · exact hall.mem _ (PySem.mem_of_lookup h) (.inl rfl)
    · exact hall.mem _ (PySem.mem_of_lookup h) (.inr rfl), fun p hp => by
    rw [hL]
    exact hfr.mem p hp⟩
theorem no_cf {k : NameKind} {P : Prop} (h : k = .cell ∨ k = .free) (h1 : (k == .cell) = false := by rfl) (h2 : (k == .free) = false := by rfl) : P := by
  rcases h with z | z
  · subst z; exact absurd h1 (by decide)
  · subst z; exact absurd h2 (by decide)
/-! ### webs -/
def GoodWeb (n : Int) (rs : List (Int × Int)) : Prop := 1 ≤ n ∧ n ≤ 16 ∧ rs.length ≤ 30 ∧ (∀ p ∈ rs, 0 ≤ p.1 ∧ p.1 < p.2 ∧ p.2 < n) ∧ rs.Nodup
instance (n : Int) (rs : List (Int × Int)) : Decidable (GoodWeb n rs) := by unfold GoodWeb; infer_instance
/-- from H0 to H all stands but the deck at d, which is one still -/
structure Dk (H0 H : Hp) (d : Addr) : Prop where
  keep : ∀ b o, b ≠ d → H0 b = some o → H b = some o
  at_ : ∃ n : Int, H d = some (.lst [.int n])
section
variable {H0 H H' : Hp} {d p : Addr} {o : HO}
end
theorem seq_mid {t u : TS} {D : Ends} {σ : St} {H : Hp} (Pm : St → Hp → Prop) (h2 : ∀ σ' H', Pm σ' H' → u D σ' H') (h1 : (∀ σ' H', Pm σ' H' → u D σ' H') → t { D with nx := u D } σ H) : tSeq t u D σ H := h1 h2
end L2
namespace L2
open PySem PySem.Spec PyProof.Rows
section
variable {X : Cx} (K : PySem.W.Frag)
/-- sorted(xs), xs a list of less than 64 ints -/
def rSorted : List V → Hp → VK → Prop := fun xs H Q => ∃ (p : Addr) (ns : List Int), xs = [.ref p] ∧ SqL K H p (ns.map V.int) ∧ ns.length < 64 ∧ ∀ (l : Addr) (ns' : List Int), H l = none → ns'.Perm ns → ns'.Pairwise (· ≤ ·) → Q (.ref l) (upd H l (.lst (ns'.map V.int)))
end
section
variable {X : Cx}
end
section
variable {X : Cx}
theorem op_negI : UnR X (unaryOp .USub) (rU fun i => .int (-i)) := by
  intro pins s σ H x v Q I rx h
  obtain ⟨i, rfl, q⟩ := h
  obtain ⟨t, rfl⟩ := rx
  exact neg_int ⟨.int (-i), H, I.tok _, ⟨_, rfl⟩, q⟩
end
theorem cut_to {xs : List V} {k : Nat} : cutV xs none (some (k : Int)) = xs.take k := by
  unfold cutV
  rw [HT.sIx_none, HT.sIx_nat, List.drop_zero, Nat.sub_zero]
  by_cases h : k ≤ xs.length
  · rw [Nat.min_eq_left h]
  · rw [Nat.min_eq_right (by omega), List.take_length, List.take_of_length_le (by omega)]
theorem cut_from {xs : List V} {k : Nat} : cutV xs (some (k : Int)) none = xs.drop k := by
  unfold cutV
  rw [HT.sIx_none, HT.sIx_nat]
  by_cases h : k ≤ xs.length
  · rw [Nat.min_eq_left h, List.take_of_length_le (by rw [List.length_drop]; exact Nat.le_refl _)]
  · rw [Nat.min_eq_right (by omega), List.drop_length, List.drop_of_length_le (by omega), List.take_nil]
end L2
namespace L2
open PySem PySem.Spec PyProof.Rows
/-! ### an exception passes on through a frame -/
/-! ### x in a list or tuple of data -/
section
variable {X : Cx}
def rInD (K : PySem.W.Frag) (neg : Bool) : R2 := fun x y H Q => ∃ p xs d ds, y = .ref p ∧ (SqL K H p xs ∨ SqT K H p xs) ∧ DatV K H x d ∧ DatVs K H xs ds ∧ SeqAt.shaped d = true ∧ (∀ e ∈ ds, SeqAt.shaped e = true) ∧ Q (.bl (neg != ds.any fun e => PyData.eqv e d)) H
open Classical in
/-- the data read at a value -/
noncomputable def datAt (h : Heap) (u : Value) : PyData := if q : ∃ d as, Reads h u d as ∧ SeqAt.shaped d = true then choose q else .none
/-! ### list.insert(0, x) -/
def rInsert0 : V → List V → Hp → VK → Prop := fun x vs H Q => ∃ l xs y, x = .ref l ∧ vs = [.int 0, y] ∧ H l = some (.lst xs) ∧ xs.length < sizeLine ∧ Q .non (upd H l (.lst (y :: xs)))
end
end L2
namespace L2
open PySem PySem.Spec PyProof.Rows
section
variable {X : Cx}
/-! ### list.insert(k, x) -/
def rInsert : V → List V → Hp → VK → Prop := fun x vs H Q => ∃ l xs i y, x = .ref l ∧ vs = [.int i, y] ∧ H l = some (.lst xs) ∧ 0 ≤ i ∧ i ≤ xs.length ∧ xs.length < sizeLine ∧ Q .non (upd H l (.lst (xs.take i.toNat ++ y :: xs.drop i.toNat)))
/-! ### enumerate(list) -/
def Ite (K : PySem.W.Frag) (a : Addr) : It :=
  ⟨fun i H => ∃ xs x, SqL K H a xs ∧ xs[i]? = some x, fun i H x H' => ∃ T y, x = .ref T ∧ H T = none ∧ H' = upd H T (.tup [.int (i : Nat), y]) ∧ ∀ xs, SqL K H a xs → xs[i]? = some y, fun i H => ∃ xs, SqL K H a xs ∧ xs.length ≤ i⟩
def iEnum (K : PySem.W.Frag) (ta : TA) : TI := fun σ H R => ta σ H fun vs H1 => ∃ a xs, vs = [.ref a] ∧ SqL K H1 a xs ∧ R (Ite K a) H1
end
/-! ### try: a body of calls -/
abbrev TB := Ends → (St → XK) → St → Hp → Prop
/-- a try's body: what it comes to, and where an exception of a callee flies -/
def PB (X : Cx) (body : List Stmt) (tb : TB) : Prop := ∀ (pins : List (Addr × Obj)) (s : Shared) (σ : St) (H : Hp) (D : Ends) (Eσ : St → XK) (QQ : Flow → Shared → Prop) (EE : Value → Shared → Prop), Inv X pins σ H s → tb D Eσ σ H →
  (∀ fl s', SP X pins D fl s' → QQ fl s') → (∀ σ1 ev H1 s1 s', Inv X pins σ1 H1 s1 → CXr X.prog X.w X.stack H1 s1 (Eσ σ1) ev s' → EE ev s') → wpAny (model X.prog X.w) X.A (execs body X.env) QQ EE s
section
variable {X : Cx} {k : Nat} {f : Addr} {fd : FuncData} {ps : List Str} {sp : Sp} {dvs : List V} {ds : List Value} {fx : Str} {fp cpos bpos np hpos pos : Pos} {e : Expr} {es : List Expr} {t : TA}
end
end L2
namespace L2
open PySem PySem.Spec PyProof.Rows
section
variable {X : Cx} {a b c d : Expr} {ta tb tc td : TE} {pos : Pos}
/-! ### a op b op c op d -/
def tChain3 (r1 r2 r3 : R2) (ta tb tc td : TE) : TE := fun σ H Q => ta σ H fun x H1 => tb σ H1 fun y H2 => r1 x y H2 fun z H3 => ∃ k, z = .bl k ∧
  (if k = true then tc σ H3 fun w' H4 => r2 y w' H4 fun z' H5 => ∃ k', z' = .bl k' ∧ (if k' = true then td σ H5 fun u' H6 => r3 w' u' H6 Q else Q (.bl false) H5) else Q (.bl false) H3)
/-! ### all(list of truths) -/
theorem boot_all : bootBuiltins "all" = some (.builtin "all") := by first | rfl | decide +kernel
theorem vals_bool : ∀ {bs : List Bool} {us : List Value}, Vals (bs.map V.bl) us → us = bs.map Value.bool
  | [], _, .nil => rfl
  | b :: bs, _, .cons r t => by rw [List.map_cons, ← vals_bool t]; cases r; rfl
theorem all_range (bs : List Bool) : (List.range bs.length).all (fun i => bs.getD i false) = bs.all id := by
  induction bs with
  | nil => rfl
  | cons b bs ih =>
    rw [List.length_cons, List.range_succ_eq_map, List.all_cons, List.all_map, List.all_cons]
    show (b && _) = (b && _)
    congr 1
theorem kAll (K : PySem.W.Frag) (hc : X.calm = true) (h : X.K = K := by rfl) : CallR X (.builtin "all") (fun xs H Q => ∃ (p : Addr) (bs : List Bool), xs = [.ref p] ∧ SqL K H p (bs.map V.bl) ∧ Q (.bl (bs.all id)) H) := by
  subst h
  intro pins s σ H xs us Q I rv h
  obtain ⟨p, bs, rfl, hq, q⟩ := h
  obtain ⟨u, rfl, ru⟩ := rv.one
  cases ru
  obtain ⟨its, r, pl, hz⟩ := I.list hq
  have e := vals_bool r
  have hh : X.A.in1.handled = none := I.ok.hd hc
  obtain ⟨o, eo, _⟩ := id pl.isList
  have hlt : p < s.heap.objs.size := Heap.lt_size eo
  refine call_all_walk (wpAny_pyIter_list pl.isList ?_)
  refine ⟨s.heap.objs.size, _, _, _, _, _, fun i => bs.getD i false, rfl, Walks.list hh s.heap.objs.size p (Nat.ne_of_lt hlt) its.toArray, ⟨⟨_, Heap.get?_push_size _ rfl, rfl, rfl⟩, pl.isList.at fun o e => Heap.get?_push_of_some _ e⟩, ?_, fun h' tk hk => ?_⟩
  · intro i v s' Q' E' hv hq'
    have hv' : its[i]? = some v := by simpa using hv
    rw [e, List.getElem?_map] at hv'
    cases z : bs[i]? with
    | none => rw [z] at hv'; cases hv'
    | some b =>
      rw [z] at hv'
      cases hv'
      have eb : bs.getD i false = b := by rw [List.getD_eq_getElem?_getD, z]; rfl
      exact wpAny_truthy_bool (by rw [← eb]; exact hq')
  · have hl : its.toArray.size = bs.length := by rw [List.size_toArray, e, List.length_map]
    have I1 : Inv X pins σ H { s with heap := s.heap.push { cls := .type "list_iterator", data := .fields #[.ref p, .int 0 0] } } := I.kept (t' := s.toks) fun b o e => Heap.get?_push_of_some _ e
    refine ⟨.bl _, H, I.kept fun b o e' => hk b o ?_ (Heap.get?_push_of_some _ e'), ?_, q⟩
    · intro z
      have : b = s.heap.objs.size := by simpa using z
      exact absurd (Heap.lt_size e') (by rw [this]; exact Nat.lt_irrefl _)
    · show Value.bool _ = Value.bool _
      rw [hl, all_range]

/-! ### set(list of ints), len of it -/
end
end L2
namespace L2
open PySem PySem.Spec PyProof.Rows
/-! ### lists of pairs as tables -/
section
variable {κ : Type} [DecidableEq κ]
def valV (kvs : List (κ × V)) (k : κ) : Option V := (kvs.find? fun kv => decide (kv.1 = k)).map (·.2)
/-- in its place, or at the end -/
def putK (kvs : List (κ × V)) (k : κ) (v : V) : List (κ × V) :=
  if (kvs.any fun kv => decide (kv.1 = k)) = true then kvs.map (fun kv => if kv.1 = k then (kv.1, v) else kv) else kvs ++ [(k, v)]
def dropK (kvs : List (κ × V)) (k : κ) : List (κ × V) := kvs.filter fun kv => decide (kv.1 ≠ k)

end


/-! ### a tracked dict, its keys ints and texts or tuples of these -/
/-- raw entries of a dict with tuple keys -/
abbrev KT (H : Hp) : List (List Key × V) → List (List Key × Addr × Value) → Prop := Paired fun p q => p.1 = q.1 ∧ H q.2.1 = some (.tup (p.1.map kV)) ∧ RelV p.2 q.2.2
section
variable {P : Program} {w : World} {H : Hp} {h : Heap} {a : Addr}
end

/-- what the dict at a holds at the key y -/
def DGet (H : Hp) (a : Addr) (y : V) (r : Option V) : Prop :=
  (∃ kvs k, Rd H a (.dK kvs) ∧ y = kV k ∧ r = valV kvs k) ∨ ∃ kvs k b, Rd H a (.dT kvs) ∧ y = .ref b ∧ H b = some (.tup (k.map kV)) ∧ r = valV kvs k
/-- the heap behind a[y] = v -/
def DPut (H : Hp) (a : Addr) (y v : V) (H' : Hp) : Prop :=
  (∃ kvs k, H a = some (.dK kvs) ∧ y = kV k ∧ kvs.length < sizeLine ∧ H' = upd H a (.dK (putK kvs k v))) ∨
  ∃ kvs k b, H a = some (.dT kvs) ∧ y = .ref b ∧ H b = some (.tup (k.map kV)) ∧ kvs.length < sizeLine ∧ H' = upd H a (.dT (putK kvs k v))
section
variable {X : Cx} {pins : List (Addr × Obj)} {σ : St} {H : Hp} {s : Shared} {a : Addr} {y v : V} {u r : Value} {o : Option V} {A : Around} {E : Value → Shared → Prop}

end

section
variable {X : Cx} {pins : List (Addr × Obj)} {σ : St} {H : Hp} {s : Shared} {a : Addr} {kvs : List (Key × V)} {k : Key} {u : Value} {A : Around} {E : Value → Shared → Prop}
end


/-! ### readings and rules -/
/-- the element of a subscription, not a slice -/
def NoSl (i : Expr) : Prop := ∀ ov iv, subscripted i false ov iv = operate [ov, iv] (getItem ov iv)
/-- d[y] -/
def tDGet (td ty : TE) : TE := fun σ H Q => td σ H fun x H1 => ty σ H1 fun y H2 => ∃ a v, x = .ref a ∧ DGet H2 a y (some v) ∧ Q v H2
/-- y in d, y not in d -/
def tDIn (ty td : TE) : TE := fun σ H Q => ty σ H fun y H1 => td σ H1 fun x H2 => ∃ a o, x = .ref a ∧ DGet H2 a y o ∧ Q (.bl o.isSome) H2
def tDNotIn (ty td : TE) : TE := fun σ H Q => ty σ H fun y H1 => td σ H1 fun x H2 => ∃ a o, x = .ref a ∧ DGet H2 a y o ∧ Q (.bl (!o.isSome)) H2
/-- d[y] = v -/
def sDPut (td ty tv : TE) : TS := fun D σ H => tv σ H fun v H1 => td σ H1 fun x H2 => ty σ H2 fun y H3 => ∃ a H4, x = .ref a ∧ DPut H3 a y v H4 ∧ D.nx σ H4
/-- d[y] op= v -/
def sDAug (td ty tv : TE) (rd : V → V → Hp → VK → Prop) : TS := fun D σ H => td σ H fun x H1 => ty σ H1 fun y H2 => ∃ a v, x = .ref a ∧ DGet H2 a y (some v) ∧
  tv σ H2 fun y2 H3 => rd v y2 H3 fun z H4 => ∃ H5, DPut H4 a y z H5 ∧ D.nx σ H5
/-- del d[y] -/
def sDDel (td ty : TE) : TS := fun D σ H => td σ H fun x H1 => ty σ H1 fun y H2 => ∃ a kvs k, x = .ref a ∧ H2 a = some (.dK kvs) ∧ y = kV k ∧ (valV kvs k).isSome = true ∧ D.nx σ (upd H2 a (.dK (dropK kvs k)))

section
variable {X : Cx} {o i e value : Expr} {pos pos' tpos : Pos} {td ty tv : TE}
end


/-! ### displays -/
/-- {}, to be a dict of the kind that is wanted -/
def tDNewK : TE := fun _ H Q => ∀ p, H p = none → Q (.ref p) (upd H p (.dK []))
def tDNewT : TE := fun _ H Q => ∀ p, H p = none → Q (.ref p) (upd H p (.dT []))
section
variable {X : Cx} {pos : Pos}
end

/-- the pairs of a display, from the left -/
def tPairs : List (TE × TE) → St → Hp → (List (V × V) → Hp → Prop) → Prop
  | [], _, H, Q => Q [] H
  | (tk, tv) :: r, σ, H, Q => tk σ H fun x H1 => tv σ H1 fun y H2 => tPairs r σ H2 fun ps H3 => Q ((x, y) :: ps) H3
abbrev VV : List (V × V) → List (Value × Value) → Prop := Paired fun p q => RelV p.1 q.1 ∧ RelV p.2 q.2
def PPs (X : Cx) (pos : Pos) (keys : List (Option Expr)) (values : List Expr) (trs : List (TE × TE)) : Prop :=
  ∀ (pins : List (Addr × Obj)) (s : Shared) (σ : St) (H : Hp) (Q : List (V × V) → Hp → Prop), Inv X pins σ H s → tPairs trs σ H Q →
    wpAny (model X.prog X.w) X.A (evalPairs (pairTrees keys values X.env pos)) (fun vs s' => ∃ ps H', Inv X pins σ H' s' ∧ VV ps vs ∧ Q ps H') X.xe s
def mergeK (kvs more : List (Key × V)) : List (Key × V) := more.foldl (fun acc kv => putK acc kv.1 kv.2) kvs
/-- {k: v, ..} with keys ints and texts; the new dict stands empty while the pairs are made -/
def tDisp (trs : List (TE × TE)) : TE := fun σ H Q => ∀ p, H p = none → tPairs trs σ (upd H p (.dK [])) fun ps H2 => H2 p = some (.dK []) ∧ ∃ kvs : List (Key × V), ps = kvs.map (fun kv => (kV kv.1, kv.2)) ∧ kvs.length ≤ 15 ∧ Q (.ref p) (upd H2 p (.dK (mergeK [] kvs)))
/-! ### methods -/
/-- a method call o.m(e) of a built-in, with one argument: what must be seen of the text -/
structure M1 (X : Cx) (o : Expr) (m : Str) (apos : Pos) (e : Expr) (cpos : Pos) : Prop where
  base : attributeBase o m X.env (eval o X.env) = eval o X.env
  few : ((backTo cpos (starEach [e] X.env)).all (fun x => !x.1) && (backToKw cpos (keywordEach [] X.env)).all (fun x => x.1.isSome)
    && decide (([e] : List Expr).length + ([] : List Keyword).length + (if ([] : List Keyword).isEmpty then 0 else 1) < 30)) = true
  line : (apos.endLine == cpos.line) = true
  trees : backTo cpos (starEach [e] X.env) = [(false, eval e X.env)]
structure M2 (X : Cx) (o : Expr) (m : Str) (apos : Pos) (e f : Expr) (cpos : Pos) : Prop where
  base : attributeBase o m X.env (eval o X.env) = eval o X.env
  few : ((backTo cpos (starEach [e, f] X.env)).all (fun x => !x.1) && (backToKw cpos (keywordEach [] X.env)).all (fun x => x.1.isSome)
    && decide (([e, f] : List Expr).length + ([] : List Keyword).length + (if ([] : List Keyword).isEmpty then 0 else 1) < 30)) = true
  line : (apos.endLine == cpos.line) = true
  trees : backTo cpos (starEach [e, f] X.env) = [(false, eval e X.env), (false, eval f X.env)]

/-- a is a dict, whatever its keys -/
def IsD (H : Hp) (a : Addr) : Prop := (∃ kvs, Rd H a (.dK kvs)) ∨ ∃ kvs, Rd H a (.dT kvs)
section
variable {X : Cx} {pins : List (Addr × Obj)} {σ : St} {H : Hp} {s : Shared} {a : Addr} {y d : V} {u r : Value} {o : Option V} {A : Around} {E : Value → Shared → Prop}
end

def tDGet1 (td ty : TE) : TE := fun σ H Q => td σ H fun x H1 => ∃ a, x = .ref a ∧ IsD H1 a ∧ ty σ H1 fun y H2 => ∃ o, DGet H2 a y o ∧ Q (o.getD .non) H2
def tDGet2 (td ty tx : TE) : TE := fun σ H Q => td σ H fun x H1 => ∃ a, x = .ref a ∧ IsD H1 a ∧ ty σ H1 fun y H2 => tx σ H2 fun z H3 => ∃ o, DGet H3 a y o ∧ Q (o.getD z) H3
/-- d.pop(k): there; d.pop(k, x): there or not -/
def tDPop1 (td ty : TE) : TE := fun σ H Q => td σ H fun x H1 => ∃ a, x = .ref a ∧ IsD H1 a ∧ ty σ H1 fun y H2 => ∃ kvs k v, H2 a = some (.dK kvs) ∧ y = kV k ∧ valV kvs k = some v ∧ Q v (upd H2 a (.dK (dropK kvs k)))
def tDPop2 (td ty tx : TE) : TE := fun σ H Q => td σ H fun x H1 => ∃ a, x = .ref a ∧ IsD H1 a ∧ ty σ H1 fun y H2 => tx σ H2 fun z H3 => ∃ kvs k, H3 a = some (.dK kvs) ∧ y = kV k ∧
  (∀ v, valV kvs k = some v → Q v (upd H3 a (.dK (dropK kvs k)))) ∧ (valV kvs k = none → Q z H3)
section
variable {X : Cx} {o e f : Expr} {apos cpos : Pos} {td ty tx : TE}
end

/-! ### dict(d): a copy -/
section
variable {X : Cx} {pins : List (Addr × Obj)} {σ : St} {H : Hp} {s : Shared} {a : Addr} {kvs : List (Key × V)} {A : Around} {E : Value → Shared → Prop}
end


section
variable {X : Cx} {pins : List (Addr × Obj)} {σ : St} {H : Hp} {s : Shared} {a : Addr} {y : V} {u : Value} {A : Around} {E : Value → Shared → Prop}
end
end L2
namespace L2
open PySem PySem.Spec PyProof.Rows
section
variable {X : Cx}
/-! ### list.index(n) of a list of ints -/
def rIndex : V → List V → Hp → VK → Prop := fun x vs H Q => ∃ (l : Addr) (ns : List Int) (i : Int), x = .ref l ∧ vs = [.int i] ∧ H l = some (.lst (ns.map V.int)) ∧ i ∈ ns ∧ Q (.int ((ns.idxOf i : Nat) : Int)) H
end
end L2
namespace L2
open PySem PySem.Spec PyProof.Rows
/-! ### zip whose tuple is handed out and kept -/
abbrev IsZipH (h : Heap) (z TI TO : Addr) (f0 : Value) (f1 : Bool) : Prop :=
  h.get? z = some { cls := .type "zip", dict := none, data := .fields #[f0, .bool f1, .bool false, .ref TI, .ref TO], slots := #[] }
section
variable {prog : Program} {w : World} {A : Around} {E : Value → Shared → Prop} {s : Shared}
/-- a zip behind i items -/
def ZipSt (z TI TO i1 i2 l1 l2 : Addr) (xs ys : Array Value) (i : Nat) (h : Heap) : Prop :=
  ((IsZip h z TI TO .none ∧ ∃ a b, IsPair h TO a b) ∨ ∃ (T : Addr) (f1 : Bool) (o : Obj), IsZipH h z TI TO (rawInt T) f1 ∧ h.get? T = some o ∧ T ≠ z ∧ T ≠ i1 ∧ T ≠ i2) ∧ IsPair h TI (.ref i1) (.ref i2) ∧ h.IsListIter i1 l1 i ∧ h.IsListIter i2 l2 i ∧ h.IsList l1 xs ∧ h.IsList l2 ys
end
end L2
namespace L2
open PySem PySem.Spec PyProof.Rows
/-- what list(zip(..)) has laid behind i items -/
def ZL (P : Program) (w : World) (H0 : Hp) (h0 : Heap) (z TO i1 i2 S : Addr) (ns ms : List Int) (i : Nat) (h : Heap) (acc : Array Value) : Prop :=
  ∃ (Hj : Hp) (vs : List V), Same H0 Hj ∧ (∀ b o, Hj b = some o → H0 b = none → h0.objs.size ≤ b) ∧ (Hj z = none ∧ Hj TO = none ∧ Hj i1 = none ∧ Hj i2 = none ∧ Hj S = none) ∧ HOk P w Hj h ∧ Vals vs acc.toList ∧ Prs Hj vs ((ns.zip ms).take i) ∧
    (∀ b o, h0.get? b = some o → h.get? b = some o) ∧ h0.objs.size ≤ h.objs.size
section
variable {P : Program} {w : World} {H0 : Hp} {h0 : Heap} {z TO i1 i2 S : Addr} {ns ms : List Int} {i : Nat} {h h' : Heap} {acc : Array Value}
end
namespace ZF
end ZF
section
variable {prog : Program} {w : World} {A : Around} {s : Shared} {R : Result → Shared → Prop}
end
section
variable {prog : Program} {w : World} {A : Around} {E : Value → Shared → Prop} {s : Shared}
end
/-! ### list(zip(a, b)), a and b lists of ints -/
section
variable {X : Cx}
def tListZip (K : PySem.W.Frag) (ta : TA) : TE := fun σ H Q => ta σ H fun vs H1 => ∃ (l1 l2 : Addr) (ns ms : List Int), vs = [.ref l1, .ref l2] ∧ SqL K H1 l1 (ns.map V.int) ∧ SqL K H1 l2 (ms.map V.int) ∧ ns.length ≤ 1000 ∧
  ∀ (S : Addr) (ws : List V) (H' : Hp), Same H1 H' → H1 S = none → H' S = some (.lst ws) → Prs H' ws (ns.zip ms) → Q (.ref S) H'
end
end L2
namespace L2
open PySem PySem.Spec PyProof.Rows
/-! ### min(list of ints) -/
section
variable {X : Cx}
end
/-! ### for over enumerate -/
/-! ### range(a, b, -1) -/
def ItrD (lo : Int) (n : Nat) : It := ⟨fun i _ => i < n, fun i H x H' => H' = H ∧ x = .int (lo - i), fun i _ => n ≤ i⟩
section
variable {X : Cx} {tg : Expr}
def iRngD (ta : TA) : TI := fun σ H R => ta σ H fun vs H1 => ∃ i j : Int, vs = [.int i, .int j, .int (-1)] ∧ (-1000 ≤ i ∧ i < 1000 ∧ -1000 ≤ j ∧ j < 1000) ∧ R (ItrD i (i - j).toNat) H1
end
/-! ### xs[::-1], xs[:0:-1] -/
section
variable {X : Cx}
def revV (hi : Option Int) (xs : List V) : List V := match hi with
  | none => xs.reverse
  | some _ => (xs.drop 1).reverse
def tSlR (K : PySem.W.Frag) (te : TE) (th : TO) : TE := fun σ H Q => te σ H fun x H1 => th σ H1 fun u H2 => ∃ a xs, x = .ref a ∧ SqL K H2 a xs ∧ (u = none ∨ u = some 0) ∧ ∀ p, H2 p = none → Q (.ref p) (upd H2 p (.lst (revV u xs)))
end
end L2
namespace L2
open PySem PySem.Spec PyProof.Rows
/-! ### abs -/
/-! ### a def with defaults: dV is its tuple of them -/
structure FunD (K : PySem.W.Frag) (x qual : Str) (st : Stmt) (dV : Value) (f : Addr) (fd : FuncData) : Prop where
  ex : ∃ (oc : Value) (od : Option Addr) (kV doc pm : Value) (an : Option Addr) (cdv ct : Value) (osl : Array (Option Value)),
    fd = PySem.W.fnOf x qual (defArgs st) (defBody st) (defScope st) dV kV doc pm an cdv ct ∧ K.lookup f = some ⟨oc, od, .func fd, osl⟩ ∧ PySem.W.codeIn K cdv qual = true
  kp : PySem.W.keepIn K (.ref f) = true
section
variable {P : Program} {w : World} {K : PySem.W.Frag} {mg : Str → Option Value} {base : Heap}
end
end L2
namespace L2
open PySem PySem.Spec PyProof.Rows
/-! ### sorted(dict whose keys are ints) -/
end L2
namespace L2
open PySem
/-! ### the places that a search in a set's table goes over -/
def itf (M : Nat) : Nat → Nat → Nat
  | 0, x => x
  | k + 1, x => itf M k ((x * 5 + 1) % M)
def orb (M : Nat) : Nat → Nat → List Nat
  | 0, _ => []
  | n + 1, x => x :: orb M n ((x * 5 + 1) % M)
def covB (M : Nat) : Bool := (List.range M).all (fun j => (orb M M 0).contains j) && itf M M 0 == 0
def adv (mask : Nat) (p : SetTable.Probe) : SetTable.Probe :=
  if p.more > 0 then { p with j := p.j + 1, more := p.more - 1 }
  else { p with j := (SetTable.leap mask p.i p.perturb).1, more := SetTable.runEnd mask (SetTable.leap mask p.i p.perturb).1 - (SetTable.leap mask p.i p.perturb).1, i := (SetTable.leap mask p.i p.perturb).1, perturb := (SetTable.leap mask p.i p.perturb).2 }
def advs (mask : Nat) : Nat → SetTable.Probe → SetTable.Probe
  | 0, p => p
  | n + 1, p => advs mask n (adv mask p)
def rs (mask i pt : Nat) : SetTable.Probe := { j := i, more := SetTable.runEnd mask i - i, i := i, perturb := pt, dummy := none }
def st0 (mask : Nat) (h : Int) : SetTable.Probe := rs mask (SetTable.bits h % (mask + 1)) (SetTable.bits h)
def lps (mask : Nat) : Nat → Nat × Nat → Nat × Nat
  | 0, x => x
  | m + 1, x => lps mask m (SetTable.leap mask x.1 x.2)
/-! ### where a number stands in a rising row -/
def Rise (xs : Array Nat) : Prop := xs.toList.Pairwise (· < ·)
/-! ### a search -/
section
variable {t : SetTable} {ha : Nat → Int} {h : Int}
end
end L2
namespace L2
open PySem
/-! ### a table laid anew -/
def lcStep (mask : Nat) (acc : Option (Array (Option Nat) × Nat)) (h : Int) : Option (Array (Option Nat) × Nat) :=
  acc.bind fun x => (SetTable.layClean.free mask x.1 (SetTable.turns mask) (SetTable.bits h % (mask + 1)) (SetTable.bits h)).bind fun j => some (x.1.setIfInBounds j (some x.2), x.2 + 1)
structure Lc (mask : Nat) (ow : Array (Option Nat)) (js : List Nat) (hs : List Int) : Prop where
  sz : ow.size = mask + 1
  len : js.length = hs.length
  at_ : ∀ (q j : Nat), js[q]? = some j ↔ ow[j]? = some (some q)
  rch : ∀ (q : Nat) (h : Int) (j : Nat), hs[q]? = some h → js[q]? = some j → ∃ n, (advs mask n (st0 mask h)).j = j ∧ ∀ r, r < n → ow[(advs mask r (st0 mask h)).j]? ≠ some none
/-- what a laying gives -/
structure Laid (t : SetTable) (od : Array Nat) (mask finger moves : Nat) (led plain : Bool) (hashes : Array Int) : Prop where
  tm : t.mask = mask
  tl : t.led = led
  tp : t.plain = plain
  td : t.dummies = #[]
  rise : Rise t.place
  le : ∀ j ∈ t.place.toList, j ≤ mask
  perm : od.toList.Perm (List.range hashes.size)
  sz : t.place.size = hashes.size
  rch : ∀ (r q j : Nat) (h : Int), od[r]? = some q → t.place[r]? = some j → hashes[q]? = some h → ∃ n, (advs mask n (st0 mask h)).j = j ∧ ∀ r', r' < n → (advs mask r' (st0 mask h)).j ∈ t.place.toList
end L2
namespace L2
open PySem
def ins {α : Type} (l : List α) (p : Nat) (x : α) : List α := l.take p ++ x :: l.drop p
structure TOk (t : SetTable) (hs : List Int) : Prop where
  mask : t.mask = 7 ∨ t.mask = 31 ∨ t.mask = 127
  dum : t.dummies = #[]
  len : t.place.size = hs.length
  rise : Rise t.place
  le : ∀ j ∈ t.place.toList, j ≤ t.mask
  rch : ∀ (i : Nat) (h : Int) (j : Nat), hs[i]? = some h → t.place[i]? = some j → ∃ n, (advs t.mask n (st0 t.mask h)).j = j ∧ ∀ q, q < n → (advs t.mask q (st0 t.mask h)).j ∈ t.place.toList
/-! ### entries and table -/
abbrev hsOf (es : Array (Int × Value)) : List Int := es.toList.map (·.1)
structure SOk (t : SetTable) (es : Array (Int × Value)) : Prop where
  T : TOk t (hsOf es)
  room : es.size * 5 < t.mask * 3
end L2
namespace L2
open PySem PySem.Spec PyProof.Rows
/-! ### facts of Python's table -/
end L2
namespace L2
open PySem PySem.Spec PyProof.Rows
def byText (w : World) : Bool := w.params.followText "set-order"
section
variable {P : Program} {w : World} {A : Around} {E : Value → Shared → Prop} {s : Shared}
def EntI (P : Program) (w : World) (e : Int × Value) (n : Int) : Prop := e.1 = (intKind P w).hash n ∧ ∃ tk, e.2 = Value.int n tk
def SetI (P : Program) (w : World) (o : Obj) (σ : List Int) : Prop := ∃ es ep t, o.ExactSet ∧ o.data = .set es ep t ∧ Paired (EntI P w) es.toList σ ∧ σ.Nodup ∧ SOk t es ∧ t.plain = true ∧ t.led = !byText w
end
end L2
namespace L2
open PySem PySem.Spec PyProof.Rows
def setObj0 (w : World) : Obj := { cls := .type "set", dict := none, data := .set #[] 0 (.fresh 0 0 (!byText w)) }
section
variable {P : Program} {w : World} {A : Around} {E : Value → Shared → Prop} {s : Shared}
end
end L2
namespace L2
open PySem PySem.Spec PyProof.Rows
/-! ### a set's walk -/
def slotAt (t : SetTable) : Nat → Nat
  | 0 => 0
  | i + 1 => t.place.getD i 0 + 1
section
variable {P : Program} {w : World} {A : Around} {E : Value → Shared → Prop} {s : Shared}
/-- the set at a, by its entries -/
def SAt (w : World) (h : Heap) (a : Addr) (es : Array (Int × Value)) (ep : Nat) (t : SetTable) : Prop :=
  (∃ o, h.get? a = some o ∧ o.ExactSet ∧ o.data = .set es ep t) ∧ SOk t es ∧ t.plain = true ∧ t.led = !byText w
def walked (w : World) (a : Addr) (es : Array (Int × Value)) (ep : Nat) : List (Int × Value) := if byText w then (pickOrder (w.params.setOrder a ep) es).toList else es.toList
def slotW (w : World) (t : SetTable) (i : Nat) : Nat := if byText w then 0 else slotAt t i
def IsSetIter (w : World) (h : Heap) (it a : Addr) (t : SetTable) (i n ep : Nat) : Prop :=
  ∃ o, h.get? it = some o ∧ o.cls = .type "set_iterator" ∧ o.data = .fields #[.int (slotW w t i) 0, .int i 0, .ref a, .int n 0, .int ep 0]
end
end L2
namespace L2
open PySem PySem.Spec PyProof.Rows
section
variable {P : Program} {w : World} {A : Around} {E : Value → Shared → Prop} {s : Shared}
end
/-! ### the rules -/
def SetO (P : Program) (w : World) (a : Addr) (ms : List Int) : HO := .ext fun h => ∃ o σ, h.get? a = some o ∧ SetI P w o σ ∧ σ.Perm ms
section
variable {X : Cx} (K : PySem.W.Frag)
end
end L2
namespace L2
open PySem PySem.Spec PyProof.Rows
section
variable {P : Program} {w : World} {A : Around} {E : Value → Shared → Prop} {s : Shared}
end
section
variable {X : Cx}
end
end L2
namespace L2
open PySem PySem.Spec PyProof.Rows
section
variable {X : Cx} (P : Program) (w : World) (K : PySem.W.Frag)
end
end L2
namespace L2
open PySem PySem.Spec PyProof.Rows
section
variable {X : Cx}
/-! ### list.count(n) of a list of ints -/
def rCount : V → List V → Hp → VK → Prop := fun x vs H Q => ∃ (l : Addr) (ns : List Int) (i : Int), x = .ref l ∧ vs = [.int i] ∧ H l = some (.lst (ns.map V.int)) ∧ Q (.int ((ns.count i : Nat) : Int)) H
end
end L2
namespace L2
open PySem PySem.Spec PyProof.Rows
/-! ### sets of pairs -/
section
variable {P : Program} {w : World} {A : Around} {E : Value → Shared → Prop} {s : Shared}
abbrev hashP (P : Program) (w : World) (r : Int × Int) : Int := tupleKeyHash (intKind P w) [r.1, r.2]
def IsPr (P : Program) (w : World) (h : Heap) (r : Int × Int) (a : Addr) : Prop := IsTupleKey (intKind P w) h [r.1, r.2] a
def PEnt (P : Program) (w : World) (h : Heap) (e : Int × Value) (r : Int × Int) : Prop := e.1 = hashP P w r ∧ ∃ a, e.2 = .ref a ∧ IsPr P w h r a
def hAt (es : Array (Int × Value)) (i : Nat) : Int := (es[i]?.map (·.1)).getD 0
section
variable {a b : Addr} {o : Obj} {es : Array (Int × Value)} {ep : Nat} {t : SetTable} {ps : List (Int × Int)} {r : Int × Int} {Q : SetFound → Shared → Prop}
end
end
end L2
namespace L2
open PySem PySem.Spec PyProof.Rows
section
variable {P : Program} {w : World} {A : Around} {E : Value → Shared → Prop} {s : Shared}
/-- the set's object, its pairs in the heap h0 -/
def SetPr (P : Program) (w : World) (h0 : Heap) (o : Obj) (ps : List (Int × Int)) : Prop := ∃ es ep t, o.ExactSet ∧ o.data = .set es ep t ∧ Paired (PEnt P w h0) es.toList ps ∧ ps.Nodup ∧ SOk t es
end
/-- a set of which the number of members alone is told -/
def SetN (a : Addr) (m : Nat) : HO := .ext fun h => ∃ o es ep t, h.get? a = some o ∧ o.ExactSet ∧ o.data = .set es ep t ∧ t.fits es.size = true ∧ es.size = m ∧ m ≤ 76
section
variable {X : Cx} (K : PySem.W.Frag)
end
end L2
namespace L2
open PySem PySem.Spec PyProof.Rows
/-! ### lists of triples of whole numbers -/
abbrev Tri := Int × Int × Int
inductive Trs (H : Hp) : List V → List Tri → Prop
  | nil : Trs H [] []
  | cons {p : Addr} {a b c : Int} {xs : List V} {rs : List Tri} : H p = some (.tup [.int a, .int b, .int c]) → Trs H xs rs → Trs H (.ref p :: xs) ((a, b, c) :: rs)
def trD (r : Tri) : PyData := .tuple [.int r.1, .int r.2.1, .int r.2.2]
section
variable {X : Cx} (K : PySem.W.Frag)
theorem kSlT (h : X.K = K := by rfl) : SlR X (rSlT K) := h ▸ sl_tup
theorem kTupI {tg : Expr} {l : Expr} {tl : TE} (hl : PE X l tl) (h : X.K = K := by rfl) : PI X tg l (iTup K tl) := h ▸ pi_tup hl
end
end L2
namespace L2
open PySem PySem.Spec PyProof.Rows
/-! ### tables: the mathematics -/
def Nd (ts : List Tri) (c : Int) (r : Tri) : Prop := 2 ≤ c ∧ ts[(c - 2).toNat]? = some r
/-- a number that a node of road lo may name -/
def At (ts : List Tri) (c lo : Int) : Prop := c = 0 ∨ c = 1 ∨ ∃ r, Nd ts c r ∧ lo < r.1
def TabOk (ts : List Tri) : Prop := ∀ (i : Nat) (r : Tri), ts[i]? = some r → (0 ≤ r.1 ∧ r.1 < 30) ∧ At ts r.2.1 r.1 ∧ At ts r.2.2 r.1
/-! the sets of a table -/
inductive Has (ts : List Tri) : Int → List Int → Prop
  | one : Has ts 1 []
  | low {c : Int} {r : Tri} {rs : List Int} : Nd ts c r → Has ts r.2.1 rs → Has ts c rs
  | high {c : Int} {r : Tri} {rs : List Int} : Nd ts c r → Has ts r.2.2 rs → Has ts c (r.1 :: rs)
/-! numbers given in the order of finding -/
def numI (fs : List Int) (n : Int) : Option Int := if n = 0 then some 0 else if n = 1 then some 1 else (fs.idxOf? n).map fun (i : Nat) => (i : Int) + 2
end L2
namespace L2
open PySem PySem.Spec PyProof.Rows
/-! ### tables put into order: the mathematics -/
/-- what is found stands in its dict -/
structure Fnd (ks : List Tri) (root : Int) (fs : List Int) (kvs : List (Key × V)) (k : Nat) : Prop where
  num : ∀ n : Int, valV kvs (.inl n) = (numI fs n).map V.int
  nd : fs.Nodup
  nod : ∀ x ∈ fs, ∃ r, Nd ks x r
  kle : k ≤ fs.length
  cl : ∀ (i : Nat), i < k → ∀ (x : Int) (r : Tri), fs[i]? = some x → Nd ks x r → (numI fs r.2.1).isSome ∧ (numI fs r.2.2).isSome
  kl : kvs.length ≤ fs.length + 2
/-- the table that is told -/
def Said (ks : List Tri) (fs : List Int) (us : List Tri) (i : Nat) : Prop := ∀ (j : Nat) (x : Int), j < i → fs[j]? = some x → ∃ (r : Tri) (a b : Int), Nd ks x r ∧ numI fs r.2.1 = some a ∧ numI fs r.2.2 = some b ∧ us[j]? = some (r.1, a, b)
/-! nodes made one where they are alike -/
def Bk (ts : List Tri) : Prop := ∀ (i : Nat) (r : Tri), ts[i]? = some r → r.2.1 < (i : Int) + 2 ∧ r.2.2 < (i : Int) + 2
structure MapOk (ts ks : List Tri) (sm : List Int) (i : Nat) : Prop where
  len : sm.length = i + 2
  at_ : ∀ c lo : Int, c < (i : Int) + 2 → At ts c lo → At ks (sm.getD c.toNat 0) lo
def keyT (r : Tri) : List Key := [.inl r.1, .inl r.2.1, .inl r.2.2]
def SeenOk (kvs : List (List Key × V)) (ks : List Tri) : Prop := ∀ r : Tri, ∀ v : V, valV kvs (keyT r) = some v → ∃ c : Int, v = .int c ∧ Nd ks c r
end L2
namespace L2
open PySem PySem.Spec PyProof.Rows
/-! ### sets of pairs -/
section
variable {P : Program} {w : World} {A : Around} {E : Value → Shared → Prop} {s : Shared}
abbrev hashL (P : Program) (w : World) (r : List Int) : Int := tupleKeyHash (intKind P w) r
def IsTu (P : Program) (w : World) (h : Heap) (r : List Int) (a : Addr) : Prop := IsTupleKey (intKind P w) h r a
def TEnt (P : Program) (w : World) (h : Heap) (e : Int × Value) (r : List Int) : Prop := e.1 = hashL P w r ∧ ∃ a, e.2 = .ref a ∧ IsTu P w h r a
section
variable {a b : Addr} {o : Obj} {es : Array (Int × Value)} {ep : Nat} {t : SetTable} {ps : List (List Int)} {r : List Int} {Q : SetFound → Shared → Prop}
end
end
end L2
namespace L2
open PySem PySem.Spec PyProof.Rows
section
variable {P : Program} {w : World} {A : Around} {E : Value → Shared → Prop} {s : Shared}
/-- the set's object, its pairs in the heap h0 -/
def SetTu (P : Program) (w : World) (h0 : Heap) (o : Obj) (ps : List (List Int)) : Prop := ∃ es ep t, o.ExactSet ∧ o.data = .set es ep t ∧ Paired (TEnt P w h0) es.toList ps ∧ ps.Nodup ∧ SOk t es
end
section
variable {X : Cx} (K : PySem.W.Frag)
/-- a list of tuples of whole numbers -/
inductive Tus (H : Hp) : List V → List (List Int) → Prop
  | nil : Tus H [] []
  | cons {p : Addr} {r : List Int} {xs : List V} {rs : List (List Int)} : H p = some (.tup (r.map V.int)) → Tus H xs rs → Tus H (.ref p :: xs) (r :: rs)
end
end L2
namespace L2
open PySem PySem.Spec PyProof.Rows
/-! ### set(list of triples) -/
def tl3 (r : Tri) : List Int := [r.1, r.2.1, r.2.2]
section
variable {X : Cx} (K : PySem.W.Frag)
end
end L2
namespace L2
open PySem PySem.Spec PyProof.Rows
/-! ### the order in which nodes are found: the mathematics -/
def chT (ks : List Tri) (x : Int) : List Int := match ks[(x - 2).toNat]? with | some r => [r.2.1, r.2.2] | none => []
def strm (ks : List Tri) (root : Int) (f : List Int) : List Int := root :: f.flatMap (chT ks)
def New (f : List Int) (x : Int) : Prop := x ≠ 0 ∧ x ≠ 1 ∧ x ∉ f
def Ext (ks : List Tri) (root : Int) (f : List Int) (x : Int) : Prop := ∃ p q, strm ks root f = p ++ x :: q ∧ New f x ∧ ∀ y ∈ p, ¬ New f y
inductive Rch (ks : List Tri) (root : Int) : List Int → Prop
  | nil : Rch ks root []
  | snoc {f : List Int} {x : Int} : Rch ks root f → Ext ks root f x → Rch ks root (f ++ [x])
def Fin (ks : List Tri) (root : Int) (f : List Int) : Prop := ∀ y ∈ strm ks root f, ¬ New f y
/-! what the loop of the finding knows -/
/-! the order is that of the table -/
def seq2 (n : Nat) : List Int := (List.range n).map fun (i : Nat) => (i : Int) + 2
end L2
namespace L2
open PySem PySem.Spec PyProof.Rows
/-! ### a comprehension over a tuple; list.extend(tuple) -/
theorem comp_tup {K : PySem.W.Frag} {a D : Addr} {xs : List V} {g : TG} {tc : TT} {te : TE} {σ0 : St} {R : Hp → Prop} {H1 : Hp} (Pv : Nat → List V → Hp → Prop) (h0 : Pv 0 [] (upd H1 D (.lst []))) (hl : ∀ i ys H, i ≤ xs.length → Pv i ys H → SqT K H a xs)
    (hs : ∀ i x ys H, xs[i]? = some x → Pv i ys H → g x σ0 H fun σ4 H4 => keepSt σ0 σ4 ∧ tc σ4 H4 fun b H5 => if b = true then te σ4 H5 fun y H6 => H6 D = some (.lst ys) ∧ ys.length < sizeLine ∧ Pv (i + 1) (ys ++ [y]) (upd H6 D (.lst (ys ++ [y]))) else Pv (i + 1) ys H5)
    (hd : ∀ ys H, Pv xs.length ys H → R H) : ∃ W : Nat → Nat → List V → Hp → Prop, (∃ m, W 0 m [] (upd H1 D (.lst []))) ∧ CompTurns (Itt K a) D g tc te σ0 W R := by
  refine ⟨fun i m ys H => m = xs.length - i ∧ i ≤ xs.length ∧ Pv i ys H, ⟨_, rfl, Nat.zero_le _, h0⟩, ?_⟩
  rintro i m ys H ⟨rfl, hi, p⟩
  have q := hl i ys H hi p
  by_cases hlt : i < xs.length
  · refine .inr ⟨⟨xs, xs[i], q, by simp [hlt]⟩, Pv (i + 1), fun ys' H' p' => ⟨xs.length - (i + 1), by omega, rfl, hlt, p'⟩, fun x H' y => ?_⟩
    obtain ⟨e, y⟩ := y
    subst e
    exact hs i x ys _ (y xs q) p
  · have e : i = xs.length := by omega
    subst e
    exact .inl ⟨⟨xs, q, Nat.le_refl _⟩, hd ys H p⟩
section
variable {X : Cx}
def rExtendT : V → List V → Hp → VK → Prop := fun x vs H Q => ∃ l b xs zs, x = .ref l ∧ vs = [.ref b] ∧ H l = some (.lst xs) ∧ H b = some (.tup zs) ∧ xs.length + zs.length ≤ sizeLine ∧ Q .non (upd H l (.lst (xs ++ zs)))
end
end L2
namespace L2
open PySem PySem.Spec PyProof.Rows
/-! ### max(list of ints); list(range(a, b)) -/
section
variable {X : Cx}
end
/-! ### what found_from knows -/
structure Wk (ks : List Tri) (root : Int) (fs : List Int) (kvs : List (Key × V)) (pr ah : List Int) : Prop where
  e : strm ks root fs = pr ++ ah
  old : ∀ y ∈ pr, ¬ New fs y
  seen : ∀ n : Int, valV kvs (.inl n) = none ↔ New fs n
  nd : fs.Nodup
  nod : ∀ x ∈ fs, ∃ r, Nd ks x r
  rch : Rch ks root fs
  kl : kvs.length ≤ fs.length + 2
  ok : ∀ y ∈ ah, At ks y (-1)
/-! a table's nodes, looked at -/
structure NodeOk (ts : List Tri) (many : Int) (r : Tri) : Prop where
  road : 0 ≤ r.1 ∧ r.1 < many
  low : 0 ≤ r.2.1 ∧ r.2.1 < (ts.length : Int) + 2
  high : 0 < r.2.2 ∧ r.2.2 < (ts.length : Int) + 2
  lo : ∀ q, Nd ts r.2.1 q → r.1 < q.1
  hi : ∀ q, Nd ts r.2.2 q → r.1 < q.1
end L2
namespace L2
open PySem PySem.Spec PyProof.Rows
/-! ### lists of triples, cut and changed -/
/-! ### tables, a node changed -/
end L2
namespace L2
open PySem PySem.Spec PyProof.Rows
/-! ### things: whole numbers, truths, None, texts, lists and tuples of such, that stand in the heap -/
mutual
inductive Th (H : Hp) : V → PyData → Prop
  | non : Th H .non .none
  | bl (b : Bool) : Th H (.bl b) (.bool b)
  | int (i : Int) : Th H (.int i) (.int i)
  | str (x : Str) : Th H (.str x) (.str x)
  | lst {a : Addr} {xs : List V} {ds : List PyData} : H a = some (.lst xs) → xs.length ≤ 1000 → Ths H xs ds → Th H (.ref a) (.list ds)
  | tup {a : Addr} {xs : List V} {ds : List PyData} : H a = some (.tup xs) → xs.length ≤ 1000 → Ths H xs ds → Th H (.ref a) (.tuple ds)
inductive Ths (H : Hp) : List V → List PyData → Prop
  | nil : Ths H [] []
  | cons {x : V} {d : PyData} {xs : List V} {ds : List PyData} : Th H x d → Ths H xs ds → Ths H (x :: xs) (d :: ds)
end
mutual
theorem Th.same {H H' : Hp} (s : Same H H') : ∀ {v : V} {d : PyData}, Th H v d → Th H' v d
  | _, _, .non => .non
  | _, _, .bl b => .bl b
  | _, _, .int i => .int i
  | _, _, .str x => .str x
  | _, _, .lst e z h => .lst (s _ _ e) z (Ths.same s h)
  | _, _, .tup e z h => .tup (s _ _ e) z (Ths.same s h)
theorem Ths.same {H H' : Hp} (s : Same H H') : ∀ {vs : List V} {ds : List PyData}, Ths H vs ds → Ths H' vs ds
  | _, _, .nil => .nil
  | _, _, .cons h t => .cons (Th.same s h) (Ths.same s t)
end
theorem Ths.len {H : Hp} : ∀ {vs : List V} {ds : List PyData}, Ths H vs ds → vs.length = ds.length
  | _, _, .nil => rfl
  | _, _, .cons _ t => by rw [List.length_cons, List.length_cons, Ths.len t]
theorem Ths.get {H : Hp} : ∀ {vs : List V} {ds : List PyData}, Ths H vs ds → ∀ {i : Nat} {x : V}, vs[i]? = some x → ∃ d, ds[i]? = some d ∧ Th H x d
  | _, _, .nil, _, _, h => by simp at h
  | _, _, .cons h _, 0, _, e => by
    simp at e
    subst e
    exact ⟨_, rfl, h⟩
  | _, _, .cons _ t, i + 1, _, e => by
    rw [List.getElem?_cons_succ] at e ⊢
    exact Ths.get t e
theorem Ths.at {H : Hp} {vs : List V} {ds : List PyData} (h : Ths H vs ds) {i : Nat} {d : PyData} (e : ds[i]? = some d) : ∃ x, vs[i]? = some x ∧ Th H x d := by
  have hi : i < vs.length := by rw [h.len]; exact (List.getElem?_eq_some_iff.mp e).1
  obtain ⟨d', e', t⟩ := h.get (List.getElem?_eq_getElem hi)
  rw [e] at e'
  cases e'
  exact ⟨_, List.getElem?_eq_getElem hi, t⟩
theorem Ths.app {H : Hp} : ∀ {vs us : List V} {ds es : List PyData}, Ths H vs ds → Ths H us es → Ths H (vs ++ us) (ds ++ es)
  | _, _, _, _, .nil, k => k
  | _, _, _, _, .cons h t, k => .cons h (Ths.app t k)
theorem Ths.take {H : Hp} : ∀ {vs : List V} {ds : List PyData}, Ths H vs ds → ∀ n, Ths H (vs.take n) (ds.take n)
  | _, _, .nil, n => by rw [List.take_nil, List.take_nil]; exact .nil
  | _, _, .cons h t, 0 => .nil
  | _, _, .cons h t, n + 1 => .cons h (Ths.take t n)
theorem Ths.drop {H : Hp} : ∀ {vs : List V} {ds : List PyData}, Ths H vs ds → ∀ n, Ths H (vs.drop n) (ds.drop n)
  | _, _, .nil, n => by rw [List.drop_nil, List.drop_nil]; exact .nil
  | _, _, .cons h t, 0 => .cons h t
  | _, _, .cons h t, n + 1 => Ths.drop t n
/-! ### things written out -/
def tDat (d : PyData) : TE := fun _ H Q => ∀ v H', Same H H' → Th H' v d → Q v H'
def tDats (ds : List PyData) : TA := fun _ H Q => ∀ vs H', Same H H' → Ths H' vs ds → Q vs H'
section
variable {X : Cx} {e : Expr} {es : List Expr} {d : PyData} {ds : List PyData} {pos : Pos}
theorem pd_of {t : TE} (h : PE X e t) (m : ∀ σ H Q, tDat d σ H Q → t σ H Q) : PE X e (tDat d) := fun pins s σ H Q I q => h pins s σ H Q I (m σ H Q q)
theorem pd_int {i j pos} : PE X (.Constant (.int i) j pos) (tDat (.int i)) := pd_of pe_int fun _ _ _ q => q _ _ (Same.refl _) (.int _)
theorem pd_bl {b j pos} : PE X (.Constant (.bool b) j pos) (tDat (.bool b)) := pd_of pe_bl fun _ _ _ q => q _ _ (Same.refl _) (.bl _)
theorem pd_non {j pos} : PE X (.Constant .none j pos) (tDat .none) := pd_of pe_non fun _ _ _ q => q _ _ (Same.refl _) .non
theorem pd_str {x j pos} : PE X (.Constant (.str x) j pos) (tDat (.str x)) := pd_of pe_str fun _ _ _ q => q _ _ (Same.refl _) (.str _)
theorem pd_neg {i j pos p2} : PE X (.UnaryOp .USub (.Constant (.int i) j pos) p2) (tDat (.int (-i))) := pd_of (pe_un op_negI pe_int) fun _ _ _ q => ⟨_, rfl, q _ _ (Same.refl _) (.int _)⟩
theorem pds_nil : PA X [] (tDats []) := fun pos pins s σ H Q I q => pa_nil pos pins s σ H Q I (q _ _ (Same.refl _) .nil)
theorem pds_cons (ha : PE X e (tDat d)) (hr : PA X es (tDats ds)) (hs : starEach (e :: es) X.env = (false, eval e X.env) :: starEach es X.env := by rfl) : PA X (e :: es) (tDats (d :: ds)) :=
  fun pos pins s σ H Q I q => pa_cons ha hr hs pos pins s σ H Q I fun v H1 s1 t1 => fun vs H2 s2 t2 => q _ _ (s1.trans s2) (.cons (t1.same s2) t2)
theorem pd_tup {x1} (h : PA X es (tDats ds)) (hz : ds.length ≤ 1000 := by decide) : PE X (.Tuple es x1 pos) (tDat (.tuple ds)) :=
  pd_of (pe_tup h) fun σ H Q q => fun vs H1 s1 t1 => ⟨by have := t1.len; have h16 : (16777216 : Nat) = sizeLine := sizeLine_eq.symm; omega, fun p hp => q _ _ (s1.put (s1.free hp)) (.tup upd_same (by rw [t1.len]; exact hz) (t1.same (Same.new hp)))⟩
theorem pd_lst (h : PA X es (tDats ds)) (hz : ds.length ≤ 1000 := by decide) : PE X (.List es pos) (tDat (.list ds)) :=
  pd_of (pe_lst h) fun σ H Q q => fun vs H1 s1 t1 => ⟨by have := t1.len; have h16 : (16777216 : Nat) = sizeLine := sizeLine_eq.symm; omega, fun p hp => q _ _ (s1.put (s1.free hp)) (.lst upd_same (by rw [t1.len]; exact hz) (t1.same (Same.new hp)))⟩
end
section
variable {X : Cx} {a : Expr} {ta : TE} {pos : Pos}
/-- not x, x of any kind -/
theorem pe_notT (ha : PE X a ta) (K : PySem.W.Frag) (hK : X.K = K := by rfl) : PE X (.UnaryOp .Not a pos) (fun σ H Q => ta σ H fun x H1 => ∃ k, TruV K x H1 k ∧ Q (.bl (!k)) H1) := by
  subst hK
  intro pins s σ H Q I h
  refine UnaryOp_ (thn (ha pins s σ H _ I h) fun v s1 ⟨x, H1, I1, r1, k, tk, q1⟩ => ?_)
  exact not_of (thn (tru_ok pins s1 σ H1 x v (fun k H2 => Q (.bl (!k)) H2) I1 r1 ⟨k, tk, q1⟩) fun c s2 ⟨H2, I2, q2⟩ => ⟨.bl (!c), H2, I2, rfl, q2⟩)
theorem kCatT (K : PySem.W.Frag) (h : X.K = K := by rfl) : OpR X (binaryOp .Add) (rCatT K) := h ▸ op_catT
theorem kTupOf (K : PySem.W.Frag) (h : X.K = K := by rfl) : CallR X (.type "tuple") (fun xs H Q => ∃ p ys, xs = [.ref p] ∧ ((SqL K H p ys ∧ ∀ l, H l = none → Q (.ref l) (upd H l (.tup ys))) ∨ (SqT K H p ys ∧ Q (.ref p) H))) := h ▸ call_tuple_of
end
/-! ### wishes: the mathematics -/
def sJoin : List Str := ["and", "or", "but"]
def sBare : List Str := ["closed", "shy", "all"]
def sPair : List Str := ["open", "long"]
def sFour : List Str := ["with", "off", "over", "past"]
def small : PyData → Bool
  | .int i => decide (0 ≤ i) && decide (i ≤ 9999)
  | _ => false
def leafB (w : Str) (rest : List PyData) : Bool :=
  if w ∈ sBare then rest.isEmpty
  else if w ∈ sPair then (match rest with | [a, b] => small a && small b | _ => false)
  else if w ∈ sFour then (match rest with | [.tuple ds] => ds.all small | _ => false)
  else false
def wishB : Nat → PyData → Bool
  | 0, _ => false
  | n + 1, .tuple (.str w :: rest) => if w ∈ sJoin ∧ rest.length = 2 then rest.all (wishB n) else leafB w rest
  | _ + 1, _ => false
inductive Ws : PyData → Nat → Prop
  | leaf {w : Str} {rest : List PyData} : leafB w rest = true → Ws (.tuple (.str w :: rest)) 1
  | join {w : Str} {a b : PyData} {m n : Nat} : w ∈ sJoin → Ws a m → Ws b n → Ws (.tuple [.str w, a, b]) (max m n + 1)
theorem join_leaf {w : Str} {rest : List PyData} (h : w ∈ sJoin) : leafB w rest = false := by
  unfold leafB
  have h1 : w ∉ sBare ∧ w ∉ sPair ∧ w ∉ sFour := by
    unfold sJoin at h
    rcases List.mem_cons.mp h with rfl | h
    · decide +kernel
    · rcases List.mem_cons.mp h with rfl | h
      · decide +kernel
      · rw [List.mem_singleton] at h
        subst h
        decide +kernel
  rw [if_neg h1.1, if_neg h1.2.1, if_neg h1.2.2]
theorem leaf_join {w : Str} {rest : List PyData} (h : leafB w rest = true) : w ∉ sJoin := fun z => by rw [join_leaf z] at h; cases h
theorem wishB_leaf {w : Str} {rest : List PyData} (h : w ∉ sJoin) (n : Nat) : wishB (n + 1) (.tuple (.str w :: rest)) = leafB w rest := by
  rw [wishB, if_neg (fun z => h z.1)]
theorem wishB_join {w : Str} {a b : PyData} (h : w ∈ sJoin) (n : Nat) : wishB (n + 1) (.tuple [.str w, a, b]) = (wishB n a && wishB n b) := by
  rw [wishB, if_pos ⟨h, rfl⟩, List.all_cons, List.all_cons, List.all_nil, Bool.and_true]
theorem Ws.iff {d : PyData} {m : Nat} (h : Ws d m) : ∀ n, wishB n d = true ↔ m ≤ n := by
  induction h with
  | leaf h =>
    intro n
    cases n with
    | zero => exact ⟨fun z => (by cases z), fun z => absurd z (by decide)⟩
    | succ n =>
      rw [wishB_leaf (leaf_join h), h]
      exact ⟨fun _ => by omega, fun _ => rfl⟩
  | @join w a b m n hw _ _ ih1 ih2 =>
    intro k
    cases k with
    | zero => exact ⟨fun z => (by cases z), fun z => absurd z (by omega)⟩
    | succ k =>
      rw [wishB_join hw, Bool.and_eq_true, ih1, ih2]
      omega
def Non (d : PyData) : Prop := ∀ n, wishB n d = false
theorem Non.left {w : Str} {a b : PyData} (hw : w ∈ sJoin) (h : Non a) : Non (.tuple [.str w, a, b]) := fun n => by
  cases n with
  | zero => rfl
  | succ n => rw [wishB_join hw, h n]; rfl
theorem Non.right {w : Str} {a b : PyData} (hw : w ∈ sJoin) (h : Non b) : Non (.tuple [.str w, a, b]) := fun n => by
  cases n with
  | zero => rfl
  | succ n => rw [wishB_join hw, h n, Bool.and_false]
theorem Non.list (ds : List PyData) : Non (.list ds) := fun n => by cases n <;> rfl
theorem Non.unit : Non (.tuple []) := fun n => by cases n <;> rfl
/-- no leaf, and no two behind a joining word -/
theorem Non.flat {w : Str} {rest : List PyData} (h : leafB w rest = false) (hl : ¬ (w ∈ sJoin ∧ rest.length = 2)) : Non (.tuple (.str w :: rest)) := fun n => by
  cases n with
  | zero => rfl
  | succ n => rw [wishB, if_neg hl]; exact h
theorem Ws.more {w : Str} {rest : List PyData} {m : Nat} (h : Ws (.tuple (.str w :: rest)) m) : Non (.tuple (.str w :: (rest ++ [.str w]))) := by
  cases h with
  | leaf h =>
    refine Non.flat ?_ fun z => leaf_join h z.1
    unfold leafB at h ⊢
    by_cases h1 : w ∈ sBare
    · rw [if_pos h1]
      cases rest <;> rfl
    rw [if_neg h1] at h ⊢
    by_cases h2 : w ∈ sPair
    · rw [if_pos h2] at h ⊢
      match rest, h with
      | [a, b], _ => rfl
    rw [if_neg h2] at h ⊢
    by_cases h3 : w ∈ sFour
    · rw [if_pos h3] at h ⊢
      match rest, h with
      | [.tuple ds], _ => rfl
    rw [if_neg h3]
  | join hw _ _ => exact Non.flat (join_leaf hw) fun z => by have := z.2; simp at this
theorem Ws.less {w : Str} {rest : List PyData} {m : Nat} (h : Ws (.tuple (.str w :: rest)) m) : Non (.tuple ((.str w :: rest).take rest.length)) := by
  cases h with
  | leaf h =>
    have hj := leaf_join h
    unfold leafB at h
    by_cases h1 : w ∈ sBare
    · rw [if_pos h1] at h
      match rest, h with
      | [], _ => exact Non.unit
    rw [if_neg h1] at h
    by_cases h2 : w ∈ sPair
    · rw [if_pos h2] at h
      match rest, h with
      | [a, b], _ =>
        refine Non.flat (rest := [a]) ?_ fun z => hj z.1
        unfold leafB
        rw [if_neg h1, if_pos h2]
    rw [if_neg h2] at h
    by_cases h3 : w ∈ sFour
    · rw [if_pos h3] at h
      match rest, h with
      | [.tuple ds], _ =>
        refine Non.flat (rest := []) ?_ fun z => hj z.1
        unfold leafB
        rw [if_neg h1, if_neg h2, if_pos h3]
    rw [if_neg h3] at h
    cases h
  | @join _ a b _ _ hw _ _ => exact Non.flat (rest := [a]) (join_leaf hw) fun z => by have := z.2; simp at this
theorem Ws.shape {d : PyData} {m : Nat} (h : Ws d m) : ∃ w rest, d = .tuple (.str w :: rest) := by
  cases h with
  | leaf _ => exact ⟨_, _, rfl⟩
  | join _ _ _ => exact ⟨_, _, rfl⟩
theorem Ws.pos {d : PyData} {m : Nat} (h : Ws d m) : 1 ≤ m := by
  cases h <;> omega
/-- a leaf of three parts has a whole number behind its word -/
theorem leaf_three {w : Str} {a b : PyData} (h : leafB w [a, b] = true) : ∃ i, a = .int i := by
  unfold leafB at h
  by_cases h1 : w ∈ sBare
  · rw [if_pos h1] at h; cases h
  rw [if_neg h1] at h
  by_cases h2 : w ∈ sPair
  · rw [if_pos h2] at h
    rw [Bool.and_eq_true] at h
    cases a with
    | int i => exact ⟨i, rfl⟩
    | _ => exact absurd h.1 Bool.false_ne_true
  rw [if_neg h2] at h
  by_cases h3 : w ∈ sFour
  · rw [if_pos h3] at h
    cases a <;> exact absurd h Bool.false_ne_true
  rw [if_neg h3] at h
  cases h
end L2
namespace L2
open PySem PySem.Spec PyProof.Rows
/-! ### literals, by reflection -/
def litL (f : Expr → Option PyData) : List Expr → Option (List PyData)
  | [] => some []
  | e :: es => match f e with
    | some d => (match litL f es with | some ds => some (d :: ds) | none => none)
    | none => none
def litD : Nat → Expr → Option PyData
  | 0, _ => none
  | _ + 1, .Constant (.int i) _ _ => some (.int i)
  | _ + 1, .Constant (.bool b) _ _ => some (.bool b)
  | _ + 1, .Constant (.str x) _ _ => some (.str x)
  | _ + 1, .Constant .none _ _ => some .none
  | _ + 1, .UnaryOp .USub (.Constant (.int i) _ _) _ => some (.int (-i))
  | _ + 1, .BinOp (.Constant (.int i) _ _) .Pow (.Constant (.int j) _ _) _ => if i = 10 ∧ j = 30 then some (.int 1000000000000000000000000000000) else none
  | n + 1, .Tuple es _ _ => if es.length ≤ 1000 then (match litL (litD n) es with | some ds => some (.tuple ds) | none => none) else none
  | n + 1, .List es _ => if es.length ≤ 1000 then (match litL (litD n) es with | some ds => some (.list ds) | none => none) else none
  | _ + 1, _ => none
theorem lit_star {n : Nat} {e : Expr} {d : PyData} (h : litD n e = some d) (es : List Expr) (env : Env) : starEach (e :: es) env = (false, eval e env) :: starEach es env := by
  cases n with
  | zero => cases h
  | succ n =>
    unfold litD at h
    split at h <;> first | rfl | cases h
theorem litL_len {f : Expr → Option PyData} : ∀ {es : List Expr} {ds : List PyData}, litL f es = some ds → ds.length = es.length
  | [], _, h => by cases h; rfl
  | e :: es, ds, h => by
    unfold litL at h
    split at h
    · split at h
      · cases h
        rename_i h2
        rw [List.length_cons, List.length_cons, litL_len h2]
      · cases h
    · cases h
theorem pds_lit {X : Cx} {n : Nat} (ih : ∀ e d, litD n e = some d → PE X e (tDat d)) : ∀ {es : List Expr} {ds : List PyData}, litL (litD n) es = some ds → PA X es (tDats ds)
  | [], _, h => by cases h; exact pds_nil
  | e :: es, ds, h => by
    unfold litL at h
    split at h
    · rename_i d hd
      split at h
      · cases h
        rename_i h2
        exact pds_cons (ih _ _ hd) (pds_lit ih h2) (lit_star hd es X.env)
      · cases h
    · cases h
theorem lit_tup {n : Nat} {es : List Expr} {c : Nat} {p : Pos} {d : PyData} (h : litD (n + 1) (.Tuple es c p) = some d) : ∃ ds, d = .tuple ds ∧ es.length ≤ 1000 ∧ litL (litD n) es = some ds := by
  have h : (if es.length ≤ 1000 then (match litL (litD n) es with | some ds => some (PyData.tuple ds) | none => none) else none) = some d := h
  by_cases hz : es.length ≤ 1000
  · rw [if_pos hz] at h
    cases hl : litL (litD n) es with
    | none => rw [hl] at h; cases h
    | some ds => rw [hl] at h; cases h; exact ⟨ds, rfl, hz, rfl⟩
  · rw [if_neg hz] at h; cases h
theorem lit_lst {n : Nat} {es : List Expr} {p : Pos} {d : PyData} (h : litD (n + 1) (.List es p) = some d) : ∃ ds, d = .list ds ∧ es.length ≤ 1000 ∧ litL (litD n) es = some ds := by
  have h : (if es.length ≤ 1000 then (match litL (litD n) es with | some ds => some (PyData.list ds) | none => none) else none) = some d := h
  by_cases hz : es.length ≤ 1000
  · rw [if_pos hz] at h
    cases hl : litL (litD n) es with
    | none => rw [hl] at h; cases h
    | some ds => rw [hl] at h; cases h; exact ⟨ds, rfl, hz, rfl⟩
  · rw [if_neg hz] at h; cases h
theorem pd_pow {X : Cx} {a b : Nat} {p1 p2 p3 : Pos} : PE X (.BinOp (.Constant (.int 10) a p1) .Pow (.Constant (.int 30) b p2) p3) (tDat (.int 1000000000000000000000000000000)) := pd_of (pe_op op_pow pe_int pe_int) fun _ _ _ q => ⟨_, _, rfl, rfl, ⟨by decide, by decide, by decide⟩, q _ _ (Same.refl _) (.int _)⟩
theorem pe_lit {X : Cx} : ∀ (n : Nat) {e : Expr} {d : PyData}, litD n e = some d → PE X e (tDat d) := by
  intro n
  induction n with
  | zero => intro e d h; cases h
  | succ n ih =>
    intro e d h
    have h0 := h
    unfold litD at h
    split at h
    · cases h
    · cases h; exact pd_int
    · cases h; exact pd_bl
    · cases h; exact pd_str
    · cases h; exact pd_non
    · cases h; exact pd_neg
    · split at h
      · rename_i hij
        cases h
        obtain ⟨rfl, rfl⟩ := hij
        exact pd_pow
      · cases h
    · obtain ⟨ds, rfl, hz, hl⟩ := lit_tup h0
      exact pd_tup (pds_lit (fun e d => ih) hl) (by rw [litL_len hl]; exact hz)
    · obtain ⟨ds, rfl, hz, hl⟩ := lit_lst h0
      exact pd_lst (pds_lit (fun e d => ih) hl) (by rw [litL_len hl]; exact hz)
    · cases h
end L2
namespace M
open PySem L2
def top (i : Nat) : Stmt := PySem.Challenge.pw_onceways_k75_what_is_a_wish.main.body.getD i (.Pass ⟨0, 0, 0, 0⟩)
abbrev sSma : Stmt := top 8
abbrev sLef : Stmt := top 9
abbrev sWis : Stmt := top 10
abbrev sCel : Stmt := top 12
abbrev sNum : Stmt := top 13
abbrev sSom : Stmt := top 14
abbrev sJoi : Stmt := top 15
abbrev sWra : Stmt := top 16
abbrev sBad : Stmt := top 17
abbrev sTur : Stmt := top 18
abbrev sDep : Stmt := top 19
abbrev sLaw : Stmt := top 20
end M
namespace M
open PySem L2
theorem boot_str : bootBuiltins "str" = some (.type "str") := by first | rfl | decide +kernel
theorem two_le : 2 ≤ sizeLine := by decide
theorem inV_strs (w : Str) : ∀ ws : List Str, inV (.str w) (ws.map V.str) = decide (w ∈ ws) := by
  intro ws
  unfold inV
  induction ws with
  | nil => rfl
  | cons m ms ih =>
    rw [List.map_cons, List.any_cons, ih]
    by_cases h1 : w = m <;> by_cases h2 : w ∈ ms <;> simp [eqV, h1, h2] <;> (try (intro z; exact h1 z.symm))
/-- truths told one by one -/
structure AllB {α : Type} (Pr : α → Prop) (bs : List Bool) (cs : List α) : Prop where
  len : bs.length = cs.length
  all : bs.all id = true ↔ ∀ c ∈ cs, Pr c
theorem AllB.nil {α : Type} {Pr : α → Prop} : AllB Pr [] [] := ⟨rfl, ⟨fun _ c hc => (by cases hc), fun _ => rfl⟩⟩
theorem AllB.snoc {α : Type} {Pr : α → Prop} {bs : List Bool} {cs : List α} (h : AllB Pr bs cs) {b : Bool} {c : α} (hb : b = true ↔ Pr c) : AllB Pr (bs ++ [b]) (cs ++ [c]) := by
  refine ⟨by rw [List.length_append, List.length_append, h.len]; rfl, ?_⟩
  rw [List.all_append, Bool.and_eq_true, h.all]
  constructor
  · rintro ⟨h1, h2⟩ x hx
    rcases List.mem_append.mp hx with z | z
    · exact h1 x z
    · rw [List.mem_singleton] at z
      rw [z]
      exact hb.mp (by simpa using h2)
  · intro hx
    refine ⟨fun c hc => hx c (List.mem_append_left _ hc), ?_⟩
    have := hb.mpr (hx c (List.mem_append_right _ (List.mem_singleton.mpr rfl)))
    rw [this]
    rfl
theorem AllB.next {α : Type} {Pr : α → Prop} {bs : List Bool} {cs : List α} {i : Nat} {c : α} (h : AllB Pr bs (cs.take i)) (e : cs[i]? = some c) {b : Bool} (hb : b = true ↔ Pr c) : AllB Pr (bs ++ [b]) (cs.take (i + 1)) := by
  obtain ⟨hi, e'⟩ := List.getElem?_eq_some_iff.mp e
  rw [List.take_succ_eq_append_getElem hi, e']
  exact h.snoc hb
structure Kits (K : PySem.W.Frag) : Prop where
  ni : PySem.W.kitOne K (.type "NoneType") (.type "int") = some false
  bi : PySem.W.kitOne K (.type "bool") (.type "int") = some true
  si : PySem.W.kitOne K (.type "str") (.type "int") = some false
  li : PySem.W.kitOne K (.type "list") (.type "int") = some false
  ti : PySem.W.kitOne K (.type "tuple") (.type "int") = some false
  ib : PySem.W.kitOne K (.type "int") (.type "bool") = some false
  nt : PySem.W.kitOne K (.type "NoneType") (.type "tuple") = some false
  bt : PySem.W.kitOne K (.type "bool") (.type "tuple") = some false
  it : PySem.W.kitOne K (.type "int") (.type "tuple") = some false
  st : PySem.W.kitOne K (.type "str") (.type "tuple") = some false
  lt : PySem.W.kitOne K (.type "list") (.type "tuple") = some false
  ns : PySem.W.kitOne K (.type "NoneType") (.type "str") = some false
  bs : PySem.W.kitOne K (.type "bool") (.type "str") = some false
  is : PySem.W.kitOne K (.type "int") (.type "str") = some false
  ls : PySem.W.kitOne K (.type "list") (.type "str") = some false
  ts : PySem.W.kitOne K (.type "tuple") (.type "str") = some false
section
variable {P : Program} {w : World} {K : PySem.W.Frag} {mg : Str → Option Value} {base : Heap}
/-! ### is_small -/
def spSma : Sp := fun vs H Q _ => ∃ (v : V) (d : PyData), vs = [v] ∧ Th H v d ∧ Q (.bl (small d)) H
theorem scSma : FnScope ["thing"] ["thing"] (defScope sSma) := ⟨rfl, rfl, rfl, by decide +kernel, rfl, by decide +kernel, by decide +kernel⟩
theorem ok_sma {f : Addr} {fd : FuncData} {tG : Tok} (F : Fun K "is_small" "is_small" sSma f fd) (k : Kits K) (mGre : mg "GREATEST" = some (.int 9999 tG)) (mIsi : mg "isinstance" = none) (mInt : mg "int" = none) (mBool : mg "bool" = none) : FnOk P w K mg base CX0 1 f fd ["thing"] spSma := by
  refine F.ok scSma (fun vs H Q E h => ?_) (fun cdv A outer s H vs Q E hr h => ?_)
  · obtain ⟨_, _, rfl, _⟩ := h
    rfl
  · obtain ⟨v, d, rfl, h, q⟩ := h
    refine ⟨_, pss_one (ps_ret (pe_and (pe_callB (kIsi K) rfl mIsi boot_isi (pa_cons (pv 0) (pa_cons (pe_typ mInt boot_int) pa_nil))) (pe_and (pe_not (pe_callB (kIsi K) rfl mIsi boot_isi (pa_cons (pv 0) (pa_cons (pe_typ mBool boot_bool) pa_nil)))) (pe_one (pe_chain op_le op_le pe_int (pv 0) (pe_glob (v := .int 9999) rfl mGre ⟨_, rfl⟩)))))), ?_⟩
    cases h with
    | non => exact ⟨_, rfl, _, _, false, rfl, ⟨_, rfl, iteF q⟩, .inl ⟨_, .non, rfl, k.ni⟩⟩
    | bl b => exact ⟨_, rfl, _, _, true, rfl, ⟨_, rfl, iteT ⟨_, rfl, _, _, true, rfl, ⟨_, rfl, _, rfl, iteF q⟩, .inl ⟨_, .bl _, rfl, kit_self⟩⟩⟩, .inl ⟨_, .bl _, rfl, k.bi⟩⟩
    | int i =>
      refine ⟨_, rfl, _, _, true, rfl, ⟨_, rfl, iteT ⟨_, rfl, _, _, false, rfl, ⟨_, rfl, _, rfl, iteT ?_⟩, .inl ⟨_, .int _, rfl, k.ib⟩⟩⟩, .inl ⟨_, .int _, rfl, kit_self⟩⟩
      have q : Q (.bl (decide (0 ≤ i) && decide (i ≤ 9999))) H := q
      refine ⟨_, rfl, _, _, rfl, rfl, _, rfl, ite2 (fun c => ?_) (fun c => ?_)⟩
      · rw [c, Bool.true_and] at q
        exact ⟨_, _, rfl, rfl, q⟩
      · rw [Bool.eq_false_iff.mpr c, Bool.false_and] at q
        exact q
    | str x => exact ⟨_, rfl, _, _, false, rfl, ⟨_, rfl, iteF q⟩, .inl ⟨_, .str _, rfl, k.si⟩⟩
    | lst e z h => exact ⟨_, rfl, _, _, false, rfl, ⟨_, rfl, iteF q⟩, .inl ⟨_, .lst e, rfl, k.li⟩⟩
    | tup e z h => exact ⟨_, rfl, _, _, false, rfl, ⟨_, rfl, iteF q⟩, .inl ⟨_, .tup e, rfl, k.ti⟩⟩
/-! ### is_leaf -/
def spLef : Sp := fun vs H Q _ => ∃ (wd : Str) (r : Addr) (xs : List V) (rest : List PyData), vs = [.str wd, .ref r] ∧ H r = some (.tup xs) ∧ xs.length ≤ 1000 ∧ Ths H xs rest ∧ ∀ H', Same H H' → Q (.bl (leafB wd rest)) H'
theorem scLef : FnScope ["word", "rest"] ["word", "rest"] (defScope sLef) := ⟨rfl, rfl, rfl, by decide +kernel, rfl, by decide +kernel, by decide +kernel⟩
/-- the tuples of words that the text has written -/
structure Wds (K : PySem.W.Frag) (aJ aB aP aR aL : Addr) : Prop where
  j : ∀ H : Hp, SqT K H aJ (sJoin.map V.str)
  b : ∀ H : Hp, SqT K H aB (sBare.map V.str)
  p : ∀ H : Hp, SqT K H aP (sPair.map V.str)
  r : ∀ H : Hp, SqT K H aR [.str "with", .str "off"]
  l : ∀ H : Hp, SqT K H aL [.str "over", .str "past"]
theorem ok_lef {f fS aJ aB aP aR aL : Addr} {fd fdS : FuncData} {tG : Tok} (F : Fun K "is_leaf" "is_leaf" sLef f fd) (FS : Fun K "is_small" "is_small" sSma fS fdS) (bS : Binds K fdS ["thing"] []) (mS : mg "is_small" = some (.ref fS)) (k : Kits K) (T : Wds K aJ aB aP aR aL)
    (mBar : mg "BARE" = some (.ref aB)) (mPai : mg "PAIRED" = some (.ref aP)) (mOfR : mg "OF_ROADS" = some (.ref aR)) (mOfP : mg "OF_PLACES" = some (.ref aL)) (mGre : mg "GREATEST" = some (.int 9999 tG)) (mIsi : mg "isinstance" = none) (mInt : mg "int" = none) (mBool : mg "bool" = none) (mTup : mg "tuple" = none) (mLen : mg "len" = none) (mAll : mg "all" = none) : FnOk P w K mg base CX0 2 f fd ["word", "rest"] spLef := by
  have GS : FnOk P w K mg base CX0 1 fS fdS ["thing"] spSma := ok_sma FS k mGre mIsi mInt mBool
  refine F.ok scLef (fun vs H Q E h => ?_) (fun cdv A outer s H vs Q E hr h => ?_)
  · obtain ⟨_, _, _, _, rfl, _⟩ := h
    rfl
  · obtain ⟨wd, r, xs, rest, rfl, e, z, hs, q⟩ := h
    have h16 : (16777216 : Nat) = sizeLine := sizeLine_eq.symm
    have hl := hs.len
    refine ⟨_, pss_cons (ps_if (pt_cmpR (kIn K) (pv 0) (pe_cls mBar) (by with_unfolding_all rfl)) (pss_one (ps_ret (pe_notT (pv 1) K))) pss_nil)
       (pss_cons (ps_if (pt_cmpR (kIn K) (pv 0) (pe_cls mPai) (by with_unfolding_all rfl)) (pss_one (ps_ret (pe_and (pe_cmpR op_eq (pe_callB (kLen K) rfl mLen PySem.boot_len (pa_cons (pv 1) pa_nil)) pe_int (nomark _)) (pe_and (pe_call GS (hr.mono (by decide)) rfl mS FS.kp bS .nil pass0 (pa_cons (pe_ix (kIxT K) (pv 1) pe_int (fun _ _ => rfl)) pa_nil)) (pe_one (pe_call GS (hr.mono (by decide)) rfl mS FS.kp bS .nil pass0 (pa_cons (pe_ix (kIxT K) (pv 1) pe_int (fun _ _ => rfl)) pa_nil))))))) pss_nil)
       (pss_cons (ps_if (PW.pt (pw_or (pt_cmpR (kNotIn K) (pv 0) (pe_op (kCatT K) (pe_cls mOfR) (pe_cls mOfP)) (by with_unfolding_all rfl)) (pw_or (pt_cmpR op_ne (pe_callB (kLen K) rfl mLen PySem.boot_len (pa_cons (pv 1) pa_nil)) pe_int (nomark _)) (pw_or1 (pt_not (pt_val (pe_callB (kIsi K) rfl mIsi boot_isi (pa_cons (pe_ix (kIxT K) (pv 1) pe_int (fun _ _ => rfl)) (pa_cons (pe_typ mTup boot_tuple) pa_nil))))))))) (pss_one (ps_ret pe_bl)) pss_nil)
       (pss_one (ps_ret (pe_callB (kAll K rfl) rfl mAll boot_all (pa_cons (pe_comp (own := ["thing"]) rfl (compScope_plain (by decide +kernel) (by decide +kernel) rfl (by decide +kernel)) (kTupI K (pe_ix (kIxT K) (pv 1) pe_int (fun _ _ => rfl))) (fun _ _ _ _ => pg_name (i := 0) (show List.Nodup (["thing"] : List Str) by decide +kernel) rfl (Or.inl rfl)) (fun _ _ _ _ => pifs_nil) (fun _ _ _ _ => pe_call GS (hr.mono (by decide)) rfl mS FS.kp bS .nil pass0 (pa_cons (pv 0) pa_nil))) pa_nil)))))), ?_⟩
    refine ⟨_, rfl, aB, _, rfl, .inr (T.b H), rfl, rfl, _, rfl, ?_⟩
    show if (inV (.str wd) (sBare.map V.str)) = true then _ else _
    rw [inV_strs]
    unfold leafB at q
    by_cases c1 : wd ∈ sBare
    · rw [decide_eq_true c1]
      rw [if_pos c1] at q
      refine iteT ?_
      refine ⟨_, rfl, !xs.isEmpty, .inr (.inl ⟨_, SqT.of e, rfl⟩), ?_⟩
      have : (!(!xs.isEmpty)) = rest.isEmpty := by
        rw [Bool.not_not]
        cases hs <;> rfl
      rw [this]
      exact q _ (Same.refl _)
    rw [decide_eq_false c1]
    rw [if_neg c1] at q
    refine iteF ?_
    refine ⟨_, rfl, aP, _, rfl, .inr (T.p H), rfl, rfl, _, rfl, ?_⟩
    show if (inV (.str wd) (sPair.map V.str)) = true then _ else _
    rw [inV_strs]
    by_cases c2 : wd ∈ sPair
    · rw [decide_eq_true c2]
      rw [if_pos c2] at q
      refine iteT ?_
      refine ⟨_, rfl, r, xs, rfl, .inr (SqT.of e), rfl, _, rfl, ite2 (fun c => ?_) (fun c => ?_)⟩
      · have c : (xs.length : Int) = 2 := V.int.inj (of_decide_eq_true c)
        match xs, rest, hs, (show xs.length = 2 by omega) with
        | [x0, x1], [d0, d1], .cons t0 (.cons t1 .nil), _ =>
          refine ⟨_, rfl, r, _, _, _, rfl, rfl, SqT.of e, atI_nat (j := 0) rfl, x0, d0, rfl, t0, _, rfl, ite2 (fun b0 => ?_) (fun b0 => ?_)⟩
          · refine ⟨_, rfl, r, _, _, _, rfl, rfl, SqT.of e, atI_nat (j := 1) rfl, x1, d1, rfl, t1, ?_⟩
            have := q _ (Same.refl _)
            simp only [b0, Bool.true_and] at this
            exact this
          · have := q _ (Same.refl _)
            simp only [Bool.eq_false_iff.mpr b0, Bool.false_and] at this
            exact this
      · have c : ¬ xs.length = 2 := fun y => c (decide_eq_true (by rw [y]; rfl))
        have q := q _ (Same.refl _)
        match rest, q, hl with
        | [], q, _ => exact q
        | [_], q, _ => exact q
        | [_, _], _, hl => exact absurd hl c
        | _ :: _ :: _ :: _, q, _ => exact q
    rw [decide_eq_false c2]
    rw [if_neg c2] at q
    refine iteF ?_
    refine ⟨_, rfl, aR, aL, _, _, rfl, rfl, T.r H, T.l H, by simp, by show 4 ≤ sizeLine; omega, (fun y => (by cases y)), fun _ p hp => ?_⟩
    refine ⟨p, _, rfl, .inr (SqT.of upd_same), rfl, rfl, _, rfl, ?_⟩
    have s1 : Same H (upd H p (.tup ([.str "with", .str "off"] ++ [.str "over", .str "past"]))) := Same.new hp
    generalize upd H p (.tup ([.str "with", .str "off"] ++ [.str "over", .str "past"])) = H1 at s1 ⊢
    show if (!inV (.str wd) (sFour.map V.str)) = true then _ else _
    rw [inV_strs]
    by_cases c3 : wd ∈ sFour
    rotate_left
    · rw [decide_eq_false c3]
      rw [if_neg c3] at q
      exact iteT (iteT (q _ s1))
    rw [decide_eq_true c3]
    rw [if_pos c3] at q
    refine iteF ?_
    refine ⟨_, rfl, r, xs, rfl, .inr (SqT.of (s1 _ _ e)), rfl, _, rfl, ?_⟩
    by_cases c4 : V.int (xs.length : Int) = V.int 1
    rotate_left
    · rw [decide_eq_false c4]
      refine iteT (iteT ?_)
      have c4 : ¬ xs.length = 1 := fun y => c4 (by rw [y]; rfl)
      have q := q _ s1
      match rest, q, hl with
      | [], q, _ => exact q
      | [_], _, hl => exact absurd hl c4
      | d :: _ :: _, q, _ => cases d <;> exact q
    rw [decide_eq_true c4]
    refine iteF ?_
    have c4 : (xs.length : Int) = 1 := V.int.inj c4
    match xs, rest, hs, (show xs.length = 1 by omega) with
    | [x0], [d0], .cons t0 .nil, _ =>
      cases t0 with
      | non => exact ⟨_, rfl, r, _, _, _, rfl, rfl, SqT.of (s1 _ _ e), atI_nat (j := 0) rfl, _, _, false, rfl, ⟨_, rfl, iteT (q _ s1)⟩, .inl ⟨_, .non, rfl, k.nt⟩⟩
      | bl b => exact ⟨_, rfl, r, _, _, _, rfl, rfl, SqT.of (s1 _ _ e), atI_nat (j := 0) rfl, _, _, false, rfl, ⟨_, rfl, iteT (q _ s1)⟩, .inl ⟨_, .bl _, rfl, k.bt⟩⟩
      | int i => exact ⟨_, rfl, r, _, _, _, rfl, rfl, SqT.of (s1 _ _ e), atI_nat (j := 0) rfl, _, _, false, rfl, ⟨_, rfl, iteT (q _ s1)⟩, .inl ⟨_, .int _, rfl, k.it⟩⟩
      | str x => exact ⟨_, rfl, r, _, _, _, rfl, rfl, SqT.of (s1 _ _ e), atI_nat (j := 0) rfl, _, _, false, rfl, ⟨_, rfl, iteT (q _ s1)⟩, .inl ⟨_, .str _, rfl, k.st⟩⟩
      | lst e' z' h' => exact ⟨_, rfl, r, _, _, _, rfl, rfl, SqT.of (s1 _ _ e), atI_nat (j := 0) rfl, _, _, false, rfl, ⟨_, rfl, iteT (q _ s1)⟩, .inl ⟨_, TyOf.lst (s1 _ _ e'), rfl, k.lt⟩⟩
      | @tup a0 xs0 ds0 e' z' h' =>
        refine ⟨_, rfl, r, _, _, _, rfl, rfl, SqT.of (s1 _ _ e), atI_nat (j := 0) rfl, _, _, true, rfl, ⟨_, rfl, iteF ?_⟩, .inl ⟨_, .tup (s1 _ _ e'), rfl, kit_self⟩⟩
        refine ⟨_, rfl, r, _, _, _, rfl, rfl, SqT.of (s1 _ _ e), atI_nat (j := 0) rfl, a0, rfl, ⟨_, SqT.of (s1 _ _ e')⟩, fun D hD => ?_⟩
        refine comp_tup (K := K) (a := a0) (xs := xs0) (fun i vs H2 => Same H1 H2 ∧ H2 D = some (.lst vs) ∧ ∃ bs : List Bool, vs = bs.map V.bl ∧ AllB (fun c => small c = true) bs (ds0.take i)) ⟨Same.new hD, upd_same, [], rfl, AllB.nil⟩ (fun i vs H2 _ ⟨s2, _⟩ => SqT.of (s2 _ _ (s1 _ _ e'))) ?_ ?_
        · rintro i x vs H2 hx ⟨s2, hD2, bs, rfl, B⟩
          obtain ⟨dx, ex, tx⟩ := (h'.same (s1.trans s2)).get hx
          have hbl : bs.length ≤ 1000 := by have := h'.len; rw [B.len, List.length_take]; omega
          refine ⟨trivial, ?_⟩
          unfold tYes
          refine iteT ?_
          exact ⟨_, rfl, x, dx, rfl, tx, hD2, by rw [List.length_map]; omega, s2.put hD, upd_same, bs ++ [small dx], by rw [List.map_append]; rfl, B.next ex Iff.rfl⟩
        · rintro vs H2 ⟨s2, hD2, bs, rfl, B⟩
          rw [h'.len, List.take_length] at B
          refine ⟨D, bs, rfl, SqL.of hD2, ?_⟩
          have eq : bs.all id = ds0.all small := by
            rw [Bool.eq_iff_iff, B.all, List.all_eq_true]
          rw [eq]
          exact q _ (s1.trans s2)
end
end M
namespace M
open PySem L2
/-! ### what is_wish has before it -/
inductive Pn (H0 H : Hp) : List V → List (PyData × Nat) → Prop
  | nil : Pn H0 H [] []
  | snoc {xs : List V} {ps : List (PyData × Nat)} {t : Addr} {v : V} {d : PyData} {k : Nat} : Pn H0 H xs ps → H t = some (.tup [v, .int (k : Int)]) → Th H0 v d → Pn H0 H (xs ++ [.ref t]) (ps ++ [(d, k)])
theorem Pn.keep {H0 H H' : Hp} (k : ∀ t ys, H t = some (.tup ys) → H' t = some (.tup ys)) {xs : List V} {ps : List (PyData × Nat)} (h : Pn H0 H xs ps) : Pn H0 H' xs ps := by
  induction h with
  | nil => exact .nil
  | snoc _ e t ih => exact .snoc ih (k _ _ e) t
theorem Pn.same {H0 H H' : Hp} (s : Same H H') {xs : List V} {ps : List (PyData × Nat)} (h : Pn H0 H xs ps) : Pn H0 H' xs ps := h.keep fun t ys e => s _ _ e
theorem Pn.len {H0 H : Hp} {xs : List V} {ps : List (PyData × Nat)} (h : Pn H0 H xs ps) : xs.length = ps.length := by
  induction h with
  | nil => rfl
  | snoc _ _ _ ih => rw [List.length_append, List.length_append, ih]; rfl
def ms (ps : List (PyData × Nat)) : Nat := (ps.map fun p => 3 ^ (10 - p.2)).sum
theorem ms_snoc (ps : List (PyData × Nat)) (p : PyData × Nat) : ms (ps ++ [p]) = ms ps + 3 ^ (10 - p.2) := by
  unfold ms
  rw [List.map_append, List.sum_append]
  simp
theorem ms_len (ps : List (PyData × Nat)) : ps.length ≤ ms ps := by
  unfold ms
  induction ps with
  | nil => simp
  | cons p ps ih =>
    rw [List.map_cons, List.sum_cons, List.length_cons]
    have : 1 ≤ 3 ^ (10 - p.2) := Nat.one_le_pow _ _ (by decide)
    omega
theorem Pn.app {H0 H : Hp} {xs ys : List V} {ps qs : List (PyData × Nat)} (h : Pn H0 H xs ps) (k : Pn H0 H ys qs) : Pn H0 H (xs ++ ys) (ps ++ qs) := by
  induction k with
  | nil => rw [List.append_nil, List.append_nil]; exact h
  | snoc _ e t ih => rw [← List.append_assoc, ← List.append_assoc]; exact .snoc ih e t
section
variable {P : Program} {w : World} {K : PySem.W.Frag} {mg : Str → Option Value} {base : Heap}
/-! ### is_wish -/
def spWis : Sp := fun vs H Q _ => ∃ (v : V) (d : PyData), vs = [v] ∧ Th H v d ∧ ∀ H', Same H H' → Q (.bl (wishB 8 d)) H'
theorem scWis : FnScope ["thing", "pending", "part", "depth"] ["thing"] (defScope sWis) := ⟨rfl, rfl, rfl, by decide +kernel, rfl, by decide +kernel, by decide +kernel⟩
theorem ok_wis {f fS fE aJ aB aP aR aL : Addr} {fd fdS fdE : FuncData} {tG tD : Tok} (F : Fun K "is_wish" "is_wish" sWis f fd) (FS : Fun K "is_small" "is_small" sSma fS fdS) (bS : Binds K fdS ["thing"] []) (mS : mg "is_small" = some (.ref fS))
    (FE : Fun K "is_leaf" "is_leaf" sLef fE fdE) (bE : Binds K fdE ["word", "rest"] []) (mE : mg "is_leaf" = some (.ref fE)) (k : Kits K) (T : Wds K aJ aB aP aR aL)
    (mJoi : mg "JOINING" = some (.ref aJ)) (mBar : mg "BARE" = some (.ref aB)) (mPai : mg "PAIRED" = some (.ref aP)) (mOfR : mg "OF_ROADS" = some (.ref aR)) (mOfP : mg "OF_PLACES" = some (.ref aL)) (mGre : mg "GREATEST" = some (.int 9999 tG)) (mDee : mg "DEEPEST" = some (.int 8 tD)) (mIsi : mg "isinstance" = none) (mInt : mg "int" = none) (mBool : mg "bool" = none) (mTup : mg "tuple" = none) (mStr : mg "str" = none) (mLen : mg "len" = none) (mAll : mg "all" = none) : FnOk P w K mg base CX0 3 f fd ["thing"] spWis := by
  have GE : FnOk P w K mg base CX0 2 fE fdE ["word", "rest"] spLef := ok_lef FE FS bS mS k T mBar mPai mOfR mOfP mGre mIsi mInt mBool mTup mLen mAll
  refine F.ok scWis (fun vs H Q E h => ?_) (fun cdv A outer s H vs Q E hr h => ?_)
  · obtain ⟨_, _, rfl, _⟩ := h
    rfl
  · obtain ⟨v0, d0, rfl, h0, q⟩ := h
    have h16 : (16777216 : Nat) = sizeLine := sizeLine_eq.symm
    refine ⟨_, pss_cons (ps_set (i := 1) scWis.nd rfl (Or.inl rfl) (pe_lst (pa_cons (pe_tup (pa_cons (pv 0) (pa_cons pe_int pa_nil))) pa_nil)))
       (pss_cons (ps_while PassesOwn.never (pt_truth (pv 1) (fun _ => rfl))
       (pss_cons (ps_asg (pe_bm0 PySem.F.plainAttrs_list PySem.F.slot_list_pop PySem.F.type_list_pop mt_pop (pv 1)) (kTup K (n := 2) rfl (pgs_cons (pg_name (i := 2) scWis.nd rfl (Or.inl rfl)) (pgs_cons (pg_name (i := 3) scWis.nd rfl (Or.inr rfl)) pgs_nil))))
       (pss_cons (ps_if (PW.pt (pw_or (pt_cmpR op_gt (pv 3) (pe_glob (v := .int 8) rfl mDee ⟨_, rfl⟩) (nomark _)) (pw_or (pt_not (pt_val (pe_callB (kIsi K) rfl mIsi boot_isi (pa_cons (pv 2) (pa_cons (pe_typ mTup boot_tuple) pa_nil))))) (pw_or (pt_not (pt_truth (pv 2) (fun _ => rfl))) (pw_or1 (pt_not (pt_val (pe_callB (kIsi K) rfl mIsi boot_isi (pa_cons (pe_ix (kIxT K) (pv 2) pe_int (fun _ _ => rfl)) (pa_cons (pe_typ mStr boot_str) pa_nil)))))))))) (pss_one (ps_ret pe_bl)) pss_nil)
       (pss_one (ps_if (PW.pt (pw_and (pt_cmpR (kIn K) (pe_ix (kIxT K) (pv 2) pe_int (fun _ _ => rfl)) (pe_cls mJoi) (by with_unfolding_all rfl)) (pw_and1 (pt_cmpR op_eq (pe_callB (kLen K) rfl mLen PySem.boot_len (pa_cons (pv 2) pa_nil)) pe_int (nomark _))))) (pss_one (ps_expr (pe_bm PySem.F.plainAttrs_list PySem.F.slot_list_extend PySem.F.type_list_extend mt_extend (pv 1) (pa_cons (pe_comp (own := ["within"]) rfl (compScope_free (fr := [("depth", 3)]) [(".0", .local), ("within", .local), ("depth", .cell)] rfl rfl (by decide +kernel) rfl (by decide +kernel) ⟨rfl, trivial⟩ ⟨fun h => no_cf h, fun h => no_cf h, fun _ => ⟨_, rfl⟩, trivial⟩ ⟨⟨rfl, .inl rfl, .inl rfl⟩, trivial⟩) (kTupI K (pe_slice (kSlT K) (pv 2) (po_some pe_int) po_none)) (fun _ _ _ _ => pg_name (i := 0) (show List.Nodup (["within", "depth"] : List Str) by decide +kernel) rfl (Or.inl rfl)) (fun _ _ _ _ => pifs_nil) (fun _ _ _ _ => pe_tup (pa_cons (pv 0) (pa_cons (pe_op op_add (pv 1) pe_int) pa_nil)))) pa_nil)))) (pss_one (ps_if (pt_not (pt_val (pe_call GE (hr.mono (by decide)) rfl mE FE.kp bE .nil pass0 (pa_cons (pe_ix (kIxT K) (pv 2) pe_int (fun _ _ => rfl)) (pa_cons (pe_slice (kSlT K) (pv 2) (po_some pe_int) po_none) pa_nil))))) (pss_one (ps_ret pe_bl)) pss_nil)))))))
       (pss_one (ps_ret pe_bl))), ?_⟩
    refine ⟨_, rfl, two_le, fun t0 ht0 => ?_⟩
    have s1 : Same H (upd H t0 (.tup [v0, .int 1])) := Same.new ht0
    have et0 : upd H t0 (.tup [v0, .int 1]) t0 = some (.tup [v0, .int ((1 : Nat) : Int)]) := upd_same
    generalize upd H t0 (.tup [v0, .int 1]) = H1 at s1 et0 ⊢
    refine ⟨(by show 1 ≤ sizeLine; omega), fun pl hpl => ?_⟩
    have s2 : Same H1 (upd H1 pl (.lst [.ref t0])) := Same.new hpl
    have epl0 : upd H1 pl (.lst [.ref t0]) pl = some (.lst [.ref t0]) := upd_same
    have hHpl : H pl = none := s1.free hpl
    generalize upd H1 pl (.lst [.ref t0]) = H2 at s2 epl0 ⊢
    have no : ∀ H', Same H H' → ¬ wishB 8 d0 = true → Q (.bl false) H' := fun H' s h => by
      have := q H' s
      rw [Bool.eq_false_iff.mpr h] at this
      exact this
    refine ⟨fun m σ' H' => ∃ (xs : List V) (ps : List (PyData × Nat)) (v2 v3 : Option V), σ' = [some v0, some (.ref pl), v2, v3] ∧ Same H H' ∧ H' pl = some (.lst xs) ∧ Pn H H' xs ps ∧ (wishB 8 d0 = true ↔ ∀ p ∈ ps, wishB (9 - p.2) p.1 = true) ∧ (∀ p ∈ ps, 1 ≤ p.2 ∧ p.2 ≤ 9) ∧ ms ps ≤ 19683 ∧ m = ms ps,
      ⟨_, [.ref t0], [(d0, 1)], none, none, rfl, s1.trans s2, epl0, Pn.snoc (xs := []) (ps := []) .nil (s2 _ _ et0) h0, ⟨fun h p hp => by rw [List.mem_singleton] at hp; rw [hp]; exact h, fun h => h (d0, 1) (List.mem_singleton.mpr rfl)⟩, fun p hp => by rw [List.mem_singleton] at hp; rw [hp]; exact ⟨Nat.le_refl _, (by show 1 ≤ 9; decide)⟩, (by show (3 ^ 9 + 0 : Nat) ≤ 19683; decide), rfl⟩, ?_⟩
    clear s1 s2 et0 epl0 hpl ht0
    rintro m σ' H3 ⟨xs, ps, v2, v3, rfl, s3, epl, pn, hw, hk, hms, rfl⟩
    cases pn with
    | nil =>
      refine ⟨_, rfl, false, .inl ⟨_, SqL.of epl, rfl⟩, iteF ?_⟩
      have := q H3 s3
      rw [hw.mpr (fun p hp => (by cases hp))] at this
      exact this
    | @snoc xs ps t v d kk pn et th =>
      refine ⟨_, rfl, true, .inl ⟨_, SqL.of epl, by cases xs <;> rfl⟩, iteT ?_⟩
      refine ⟨_, fun _ _ h => h, ?_⟩
      have hlen := ms_len (ps ++ [(d, kk)])
      have hxl := pn.len
      rw [List.length_append, List.length_singleton] at hlen
      obtain ⟨hk1, hk9⟩ := hk (d, kk) (List.mem_append_right _ (List.mem_singleton.mpr rfl))
      rw [ms_snoc] at hms
      have hmsp : ms ps ≤ 19683 := Nat.le_trans (Nat.le_add_right _ _) hms
      have hlps := ms_len ps
      have hlast : (xs ++ [V.ref t])[(xs ++ [V.ref t]).length - 1]? = some (.ref t) := by
        rw [List.length_append, List.length_singleton, Nat.add_sub_cancel, List.getElem?_append_right (Nat.le_refl _), Nat.sub_self]
        rfl
      refine ⟨_, rfl, .inl ⟨rfl, _, SqL.of epl⟩, pl, _, _, rfl, rfl, epl, hlast, ?_⟩
      rw [List.dropLast_concat]
      have k4 := tups_lst (o := .lst xs) epl
      have s4 : Same H (upd H3 pl (.lst xs)) := s3.put hHpl
      have epl4 : upd H3 pl (.lst xs) pl = some (.lst xs) := upd_same
      have et4 := k4 _ _ et
      have pn4 := pn.keep k4
      generalize upd H3 pl (.lst xs) = H4 at k4 s4 epl4 et4 pn4 ⊢
      refine ⟨t, _, rfl, SqT.of et4, rfl, _, _, rfl, _, _, rfl, rfl, ?_⟩
      have bad : wishB (9 - kk) d = false → ¬ wishB 8 d0 = true := fun h z => by
        have := hw.mp z (d, kk) (List.mem_append_right _ (List.mem_singleton.mpr rfl))
        rw [h] at this
        cases this
      refine ⟨_, rfl, _, _, rfl, rfl, _, rfl, ite2 (fun c1 => ?_) (fun c1 => ?_)⟩
      · have c1 : (8 : Int) < (kk : Int) := of_decide_eq_true c1
        refine iteT (no _ s4 (bad ?_))
        have : 9 - kk = 0 := by omega
        rw [this]
        rfl
      have c1 : ¬ (8 : Int) < (kk : Int) := fun z => c1 (decide_eq_true z)
      obtain ⟨n, hn⟩ : ∃ n, 9 - kk = n + 1 := ⟨8 - kk, by omega⟩
      rw [hn] at bad
      cases th with
      | non => exact ⟨_, rfl, _, _, false, rfl, ⟨_, rfl, iteT (iteT (no _ s4 (bad rfl)))⟩, .inl ⟨_, .non, rfl, k.nt⟩⟩
      | bl b => exact ⟨_, rfl, _, _, false, rfl, ⟨_, rfl, iteT (iteT (no _ s4 (bad rfl)))⟩, .inl ⟨_, .bl _, rfl, k.bt⟩⟩
      | int i => exact ⟨_, rfl, _, _, false, rfl, ⟨_, rfl, iteT (iteT (no _ s4 (bad rfl)))⟩, .inl ⟨_, .int _, rfl, k.it⟩⟩
      | str x => exact ⟨_, rfl, _, _, false, rfl, ⟨_, rfl, iteT (iteT (no _ s4 (bad rfl)))⟩, .inl ⟨_, .str _, rfl, k.st⟩⟩
      | lst e z hh => exact ⟨_, rfl, _, _, false, rfl, ⟨_, rfl, iteT (iteT (no _ s4 (bad rfl)))⟩, .inl ⟨_, .lst (s4 _ _ e), rfl, k.lt⟩⟩
      | @tup a xs1 ds e z hh =>
        refine ⟨_, rfl, _, _, true, rfl, ⟨_, rfl, iteF ?_⟩, .inl ⟨_, .tup (s4 _ _ e), rfl, kit_self⟩⟩
        have e4 := s4 _ _ e
        cases hh with
        | nil =>
          refine ⟨_, rfl, false, .inr (.inl ⟨_, SqT.of e4, rfl⟩), iteT (iteT (no _ s4 (bad rfl)))⟩
        | @cons x1 dx vs1 rest tx hr1 =>
          refine ⟨_, rfl, true, .inr (.inl ⟨_, SqT.of e4, rfl⟩), iteF ?_⟩
          cases tx with
          | non => exact ⟨_, rfl, a, _, _, _, rfl, rfl, SqT.of e4, atI_nat (j := 0) rfl, _, _, false, rfl, ⟨_, rfl, iteT (no _ s4 (bad rfl))⟩, .inl ⟨_, .non, rfl, k.ns⟩⟩
          | bl b => exact ⟨_, rfl, a, _, _, _, rfl, rfl, SqT.of e4, atI_nat (j := 0) rfl, _, _, false, rfl, ⟨_, rfl, iteT (no _ s4 (bad rfl))⟩, .inl ⟨_, .bl _, rfl, k.bs⟩⟩
          | int i => exact ⟨_, rfl, a, _, _, _, rfl, rfl, SqT.of e4, atI_nat (j := 0) rfl, _, _, false, rfl, ⟨_, rfl, iteT (no _ s4 (bad rfl))⟩, .inl ⟨_, .int _, rfl, k.is⟩⟩
          | lst e' z' h' => exact ⟨_, rfl, a, _, _, _, rfl, rfl, SqT.of e4, atI_nat (j := 0) rfl, _, _, false, rfl, ⟨_, rfl, iteT (no _ s4 (bad rfl))⟩, .inl ⟨_, .lst (s4 _ _ e'), rfl, k.ls⟩⟩
          | tup e' z' h' => exact ⟨_, rfl, a, _, _, _, rfl, rfl, SqT.of e4, atI_nat (j := 0) rfl, _, _, false, rfl, ⟨_, rfl, iteT (no _ s4 (bad rfl))⟩, .inl ⟨_, .tup (s4 _ _ e'), rfl, k.ts⟩⟩
          | str wd =>
            refine ⟨_, rfl, a, _, _, _, rfl, rfl, SqT.of e4, atI_nat (j := 0) rfl, _, _, true, rfl, ⟨_, rfl, iteF ?_⟩, .inl ⟨_, .str _, rfl, kit_self⟩⟩
            have hvl := hr1.len
            rw [List.length_cons] at z
            refine ⟨_, rfl, a, _, _, _, rfl, rfl, SqT.of e4, atI_nat (j := 0) rfl, aJ, _, rfl, .inr (T.j _), rfl, rfl, _, rfl, ?_⟩
            show if (inV (.str wd) (sJoin.map V.str)) = true then _ else _
            rw [inV_strs]
            by_cases c2 : wd ∈ sJoin
            · rw [decide_eq_true c2]
              refine iteT ?_
              refine ⟨_, rfl, a, _, rfl, .inr (SqT.of e4), rfl, _, rfl, ?_⟩
              by_cases c3 : rest.length = 2
              · rw [decide_eq_true (show V.int ((V.str wd :: vs1).length : Int) = V.int 3 by rw [List.length_cons, hvl, c3]; rfl)]
                refine iteT ?_
                obtain ⟨va, vb, da, db, ta, tb, rfl, rfl⟩ : ∃ va vb da db, ∃ (ta : Th H va da) (tb : Th H vb db), vs1 = [va, vb] ∧ rest = [da, db] := by
                  cases hr1 with
                  | nil => exact absurd c3 (by decide)
                  | cons ta hr2 =>
                    cases hr2 with
                    | nil => exact absurd c3 (by simp)
                    | cons tb hr3 =>
                      cases hr3 with
                      | nil => exact ⟨_, _, _, _, ta, tb, rfl, rfl⟩
                      | cons _ _ => exact absurd c3 (by simp)
                refine ⟨_, rfl, .inl ⟨rfl, _, SqL.of epl4⟩, _, rfl, _, rfl, a, _, rfl, SqT.of e4, (fun z => by have := z.1; simp [HT.sIx] at this), fun p5 hp5 => ?_⟩
                have s5 : Same H4 (upd H4 p5 (.tup (cutV [V.str wd, va, vb] (some 1) none))) := Same.new hp5
                have e5 : upd H4 p5 (.tup (cutV [V.str wd, va, vb] (some 1) none)) p5 = some (.tup [va, vb]) := upd_same
                generalize upd H4 p5 (.tup (cutV [V.str wd, va, vb] (some 1) none)) = H5 at s5 e5 ⊢
                refine ⟨p5, rfl, ⟨_, SqT.of e5⟩, fun D hD => ?_⟩
                refine comp_tup (K := K) (a := p5) (xs := [va, vb]) (fun i vs H' => Same H5 H' ∧ H' D = some (.lst vs) ∧ Pn H H' vs (([(da, kk + 1), (db, kk + 1)] : List (PyData × Nat)).take i)) ⟨Same.new hD, upd_same, .nil⟩ (fun i vs H' _ ⟨s6, _⟩ => SqT.of (s6 _ _ e5)) ?_ ?_
                · rintro i x vs H6 hx ⟨s6, eD, pq⟩
                  have hvs := pq.len
                  have hvs2 : vs.length ≤ 2 := by rw [hvs, List.length_take]; exact Nat.min_le_right _ _
                  refine ⟨⟨rfl, trivial⟩, ?_⟩
                  unfold tYes
                  refine iteT ?_
                  refine ⟨_, rfl, _, rfl, _, _, rfl, rfl, two_le, fun T7 hT7 => ?_⟩
                  have s7 : Same H6 (upd H6 T7 (.tup [x, .int ((kk : Int) + 1)])) := Same.new hT7
                  have e7 : upd H6 T7 (.tup [x, .int ((kk : Int) + 1)]) T7 = some (.tup [x, .int (((kk + 1 : Nat)) : Int)]) := upd_same
                  have k8 := tups_lst (o := .lst (vs ++ [.ref T7])) (s7 _ _ eD)
                  refine ⟨s7 _ _ eD, by omega, (s6.trans s7).put hD, upd_same, ?_⟩
                  match i, hx with
                  | 0, hx =>
                    simp at hx
                    subst hx
                    exact ((pq.same s7).keep k8).snoc (k8 _ _ e7) ta
                  | 1, hx =>
                    simp at hx
                    subst hx
                    exact ((pq.same s7).keep k8).snoc (k8 _ _ e7) tb
                · rintro vs H6 ⟨s6, eD, pq⟩
                  have pq : Pn H H6 vs [(da, kk + 1), (db, kk + 1)] := pq
                  have hvs := pq.len
                  have S6 := s5.trans s6
                  refine ⟨pl, D, xs, vs, rfl, rfl, S6 _ _ epl4, eD, by rw [hvs]; show xs.length + 2 ≤ sizeLine; omega, ?_⟩
                  have k7 := tups_lst (o := .lst (xs ++ vs)) (S6 _ _ epl4)
                  have hp3 : 3 ^ (10 - kk) = 3 * 3 ^ (10 - (kk + 1)) := by rw [show 10 - kk = (10 - (kk + 1)) + 1 by omega, Nat.pow_succ, Nat.mul_comm]
                  have hp1 : 1 ≤ 3 ^ (10 - (kk + 1)) := Nat.one_le_pow _ _ (by decide)
                  have hm2 : ms (ps ++ [(da, kk + 1), (db, kk + 1)]) = ms ps + 3 ^ (10 - (kk + 1)) + 3 ^ (10 - (kk + 1)) := by
                    rw [show ps ++ [(da, kk + 1), (db, kk + 1)] = (ps ++ [(da, kk + 1)]) ++ [(db, kk + 1)] by rw [List.append_assoc]; rfl, ms_snoc, ms_snoc]
                  refine ⟨ms (ps ++ [(da, kk + 1), (db, kk + 1)]), by rw [hm2, ms_snoc]; show _ < ms ps + 3 ^ (10 - kk); omega, xs ++ vs, ps ++ [(da, kk + 1), (db, kk + 1)], _, _, rfl, (s4.trans S6).put hHpl, upd_same, ((pn4.same S6).keep k7).app (pq.keep k7), hw.trans ?_, fun p hp => ?_, by rw [hm2]; have hms : ms ps + 3 ^ (10 - kk) ≤ 19683 := hms; omega, rfl⟩
                  · have hnn : 9 - (kk + 1) = n := by omega
                    have hj : wishB (n + 1) (.tuple [.str wd, da, db]) = (wishB n da && wishB n db) := wishB_join c2 n
                    constructor
                    · intro h p hp
                      have h1 := h (.tuple [.str wd, da, db], kk) (List.mem_append_right _ (List.mem_singleton.mpr rfl))
                      have h1 : wishB (9 - kk) (.tuple [.str wd, da, db]) = true := h1
                      rw [hn, hj, Bool.and_eq_true] at h1
                      rcases List.mem_append.mp hp with y | y
                      · exact h p (List.mem_append_left _ y)
                      · rcases List.mem_cons.mp y with y | y
                        · rw [y]; show wishB (9 - (kk + 1)) da = true; rw [hnn]; exact h1.1
                        · rw [List.mem_singleton] at y
                          rw [y]; show wishB (9 - (kk + 1)) db = true; rw [hnn]; exact h1.2
                    · intro h p hp
                      rcases List.mem_append.mp hp with y | y
                      · exact h p (List.mem_append_left _ y)
                      · rw [List.mem_singleton] at y
                        rw [y]
                        show wishB (9 - kk) (.tuple [.str wd, da, db]) = true
                        rw [hn, hj, Bool.and_eq_true]
                        have g1 : wishB (9 - (kk + 1)) da = true := h (da, kk + 1) (List.mem_append_right _ List.mem_cons_self)
                        have g2 : wishB (9 - (kk + 1)) db = true := h (db, kk + 1) (List.mem_append_right _ (List.mem_cons_of_mem _ (List.mem_singleton.mpr rfl)))
                        rw [hnn] at g1 g2
                        exact ⟨g1, g2⟩
                  · rcases List.mem_append.mp hp with y | y
                    · exact hk p (List.mem_append_left _ y)
                    · rcases List.mem_cons.mp y with y | y
                      · rw [y]; exact ⟨by show 1 ≤ kk + 1; omega, by show kk + 1 ≤ 9; omega⟩
                      · rw [List.mem_singleton] at y
                        rw [y]; exact ⟨by show 1 ≤ kk + 1; omega, by show kk + 1 ≤ 9; omega⟩
              · rw [decide_eq_false (fun y => c3 (by have := V.int.inj y; rw [List.length_cons] at this; omega))]
                refine iteF ?_
                have cj : ¬ (wd ∈ sJoin ∧ rest.length = 2) := fun y => c3 y.2
                have hnj : wishB (n + 1) (.tuple (.str wd :: rest)) = leafB wd rest := by rw [wishB, if_neg cj]
                refine ⟨_, rfl, a, _, _, _, rfl, rfl, SqT.of e4, atI_nat (j := 0) rfl, _, rfl, _, rfl, a, _, rfl, SqT.of e4, (fun z => by have := z.1; simp [HT.sIx] at this), fun p5 hp5 => ?_⟩
                rw [show cutV (V.str wd :: vs1) (some 1) none = vs1 from cut_from (k := 1)]
                have s5 : Same H4 (upd H4 p5 (.tup vs1)) := Same.new hp5
                have e5 : upd H4 p5 (.tup vs1) p5 = some (.tup vs1) := upd_same
                generalize upd H4 p5 (.tup vs1) = H5 at s5 e5 ⊢
                refine ⟨wd, p5, vs1, rest, rfl, e5, by omega, hr1.same (s4.trans s5), fun H6 s6 => ⟨_, rfl, ?_⟩⟩
                by_cases cl : leafB wd rest = true
                · rw [cl]
                  refine iteF ?_
                  have S6 := s5.trans s6
                  refine ⟨ms ps, by rw [ms_snoc]; have : 1 ≤ 3 ^ (10 - kk) := Nat.one_le_pow _ _ (by decide); show ms ps < ms ps + 3 ^ (10 - kk); omega, xs, ps, _, _, rfl, s4.trans S6, S6 _ _ epl4, pn4.same S6, hw.trans ⟨fun h p hp => h p (List.mem_append_left _ hp), fun h p hp => ?_⟩, fun p hp => hk p (List.mem_append_left _ hp), by omega, rfl⟩
                  rcases List.mem_append.mp hp with y | y
                  · exact h p y
                  · rw [List.mem_singleton] at y
                    rw [y]
                    show wishB (9 - kk) _ = true
                    rw [hn, hnj]
                    exact cl
                · rw [Bool.eq_false_iff.mpr cl]
                  exact iteT (no _ ((s4.trans s5).trans s6) (bad (by rw [hnj]; exact Bool.eq_false_iff.mpr cl)))
            · rw [decide_eq_false c2]
              refine iteF (iteF ?_)
              have cj : ¬ (wd ∈ sJoin ∧ rest.length = 2) := fun y => c2 y.1
              have hnj : wishB (n + 1) (.tuple (.str wd :: rest)) = leafB wd rest := by rw [wishB, if_neg cj]
              refine ⟨_, rfl, a, _, _, _, rfl, rfl, SqT.of e4, atI_nat (j := 0) rfl, _, rfl, _, rfl, a, _, rfl, SqT.of e4, (fun z => by have := z.1; simp [HT.sIx] at this), fun p5 hp5 => ?_⟩
              rw [show cutV (V.str wd :: vs1) (some 1) none = vs1 from cut_from (k := 1)]
              have s5 : Same H4 (upd H4 p5 (.tup vs1)) := Same.new hp5
              have e5 : upd H4 p5 (.tup vs1) p5 = some (.tup vs1) := upd_same
              generalize upd H4 p5 (.tup vs1) = H5 at s5 e5 ⊢
              refine ⟨wd, p5, vs1, rest, rfl, e5, by omega, hr1.same (s4.trans s5), fun H6 s6 => ⟨_, rfl, ?_⟩⟩
              by_cases cl : leafB wd rest = true
              · rw [cl]
                refine iteF ?_
                have S6 := s5.trans s6
                refine ⟨ms ps, by rw [ms_snoc]; have : 1 ≤ 3 ^ (10 - kk) := Nat.one_le_pow _ _ (by decide); show ms ps < ms ps + 3 ^ (10 - kk); omega, xs, ps, _, _, rfl, s4.trans S6, S6 _ _ epl4, pn4.same S6, hw.trans ⟨fun h p hp => h p (List.mem_append_left _ hp), fun h p hp => ?_⟩, fun p hp => hk p (List.mem_append_left _ hp), by omega, rfl⟩
                rcases List.mem_append.mp hp with y | y
                · exact h p y
                · rw [List.mem_singleton] at y
                  rw [y]
                  show wishB (9 - kk) _ = true
                  rw [hn, hnj]
                  exact cl
              · rw [Bool.eq_false_iff.mpr cl]
                exact iteT (no _ ((s4.trans s5).trans s6) (bad (by rw [hnj]; exact Bool.eq_false_iff.mpr cl)))
end
end M
namespace M
open PySem L2
section
variable {P : Program} {w : World} {K : PySem.W.Frag} {mg : Str → Option Value} {base : Heap}
theorem boot_max : bootBuiltins "max" = some (.builtin "max") := by first | rfl | decide +kernel
theorem lt2_lit {p : Nat} {a : Int} (h : a.natAbs < 2 ^ p := by decide +kernel) : Lt2 p a := h
theorem lt2_n {n : Int} (h : n.natAbs < 2 ^ 40) : Lt2 9000 n := Nat.lt_of_lt_of_le h (Nat.pow_le_pow_right (by decide) (by decide))
theorem at_int {ns : List Int} {i : Int} (h0 : 0 ≤ i) (h1 : i < ns.length) : atI (ns.map V.int) i = some (.int (ns.getD i.toNat 0)) := by
  obtain ⟨k, rfl⟩ := Int.eq_ofNat_of_zero_le h0
  have hk : k < ns.length := by omega
  refine atI_nat ?_
  show (ns.map V.int)[k]? = some (.int (ns.getD k 0))
  rw [List.getElem?_map, List.getD_eq_getElem?_getD, List.getElem?_eq_getElem hk]
  rfl
/-! ### _law_cell_at -/
def spCel (K : PySem.W.Frag) : Sp := fun vs H Q _ => ∃ (a : Addr) (ns : List Int) (k : Nat), vs = [.ref a, .int (k : Int)] ∧ SqL K H a (ns.map V.int) ∧ ∀ z : Int, Q (.int z) H
theorem scCel : FnScope ["script", "k"] ["script", "k"] (defScope sCel) := ⟨rfl, rfl, rfl, by decide +kernel, rfl, by decide +kernel, by decide +kernel⟩
theorem ok_cel {f : Addr} {fd : FuncData} (F : Fun K "_law_cell_at" "_law_cell_at" sCel f fd) (mLen : mg "len" = none) : FnOk P w K mg base CX0 1 f fd ["script", "k"] (spCel K) := by
  refine F.ok scCel (fun vs H Q E h => ?_) (fun cdv A outer s H vs Q E hr h => ?_)
  · obtain ⟨_, _, _, rfl, _⟩ := h
    rfl
  · obtain ⟨a, ns, k, rfl, hS, q⟩ := h
    refine ⟨_, pss_cons (ps_if (pt_cmpR op_lt (pv 1) (pe_callB (kLen K) rfl mLen PySem.boot_len (pa_cons (pv 0) pa_nil)) (nomark _)) (pss_one (ps_ret (pe_ix (kIxL K) (pv 0) (pv 1) (fun _ _ => rfl)))) pss_nil)
       (pss_one (ps_ret pe_int)), ?_⟩
    refine ⟨_, rfl, _, rfl, a, _, rfl, .inl hS, _, _, rfl, rfl, _, rfl, ?_⟩
    rw [List.length_map]
    refine ite2 (fun z => ?_) (fun _ => q 0)
    have z' := of_decide_eq_true z
    exact ⟨_, rfl, _, rfl, a, _, _, _, rfl, rfl, hS, at_int (by omega) z', q _⟩
/-! ### _law_numbers -/
def spNum : Sp := fun vs H Q _ => ∃ (c : Int) (m : Nat), vs = [.int c, .int (m : Int)] ∧ m ≤ 50 ∧ ∀ (l : Addr) (row : List Int) (H' : Hp), Same H H' → H' l = some (.lst (row.map V.int)) → row.length = m → Q (.ref l) H'
theorem scNum : FnScope ["cell", "many", "found", "rest", "stir", "k", "again"] ["cell", "many"] (defScope sNum) := ⟨rfl, rfl, rfl, by decide +kernel, rfl, by decide +kernel, by decide +kernel⟩
theorem ok_num {f : Addr} {fd : FuncData} (F : Fun K "_law_numbers" "_law_numbers" sNum f fd) (mRange : mg "range" = none) : FnOk P w K mg base CX0 1 f fd ["cell", "many"] spNum := by
  refine F.ok scNum (fun vs H Q E h => ?_) (fun cdv A outer s H vs Q E hr h => ?_)
  · obtain ⟨_, _, rfl, _⟩ := h
    rfl
  · obtain ⟨c, m, rfl, hm, q⟩ := h
    have h16 : (16777216 : Nat) = sizeLine := sizeLine_eq.symm
    refine ⟨_, pss_cons (ps_set (i := 2) scNum.nd rfl (Or.inl rfl) (pe_lst pa_nil))
       (pss_cons (ps_set (i := 3) scNum.nd rfl (Or.inl rfl) (pv 0))
       (pss_cons (ps_set (i := 4) scNum.nd rfl (Or.inl rfl) (pe_op op_mod (pv 0) pe_int))
       (pss_cons (ps_for PassesOwn.never rfl (pi_range1 rfl mRange (pa_cons (pv 1) pa_nil)) (pg_name (i := 5) scNum.nd rfl (Or.inl rfl))
       (pss_one (ps_if (PW.pt (pw_and (pt_cmpR op_ge (pv 0) (pe_op op_pow pe_int pe_int) (nomark _)) (pw_and1 (pt_cmpR op_gt (pv 3) pe_int (nomark _))))) (pss_cons (ps_expr (pe_bm PySem.F.plainAttrs_list PySem.F.slot_list_append PySem.F.type_list_append mt_append (pv 2) (pa_cons (pe_op op_mod (pv 3) pe_int) pa_nil)))
       (pss_one (ps_set (i := 3) scNum.nd rfl (Or.inl rfl) (pe_op op_fdivB (pv 3) pe_int)))) (pss_cons (ps_set (i := 4) scNum.nd rfl (Or.inl rfl) (pe_op op_mod (pe_op op_mul (pe_op op_add (pe_op op_add (pv 4) (pe_op op_mul pe_int (pv 5))) pe_int) pe_int) pe_int))
       (pss_cons (ps_set (i := 6) scNum.nd rfl (Or.inl rfl) (pe_op op_mod (pe_op op_mul (pe_op op_mod (pe_op op_mul (pv 4) (pv 4)) pe_int) pe_int) pe_int))
       (pss_one (ps_expr (pe_bm PySem.F.plainAttrs_list PySem.F.slot_list_append PySem.F.type_list_append mt_append (pv 2) (pa_cons (pe_op op_mod (pe_op op_fdivB (pv 6) pe_int) pe_int) pa_nil)))))))))
       (pss_one (ps_ret (pv 2)))))), ?_⟩
    refine ⟨Nat.zero_le _, fun l hl => ?_⟩
    refine ⟨_, rfl, ?_⟩
    refine ⟨_, rfl, _, _, rfl, rfl, (by show (0 : Int) < 2147483647; decide), ?_⟩
    refine ⟨_, rfl, _, rfl, by omega, by omega, ?_⟩
    rw [Int.toNat_natCast]
    refine for_range (lo := 0) (n := m) (fun i σ H2 => ∃ (row : List Int) (r st : Int) (v5 v6 : Option V), σ = [some (.int c), some (.int (m : Int)), some (.ref l), some (.int r), some (.int st), v5, v6] ∧ Same H H2 ∧ H2 l = some (.lst (row.map V.int)) ∧ row.length = i) ⟨[], _, _, none, none, rfl, Same.new hl, upd_same, rfl⟩ ?_ ?_
    · rintro i σ H2 hi ⟨row, r, st, v5, v6, rfl, s2, e2, rl⟩
      rw [Int.zero_add]
      refine ⟨_, rfl, _, _, rfl, rfl, ⟨by decide, by decide, by decide⟩, _, _, rfl, rfl, _, rfl, ite2 (fun _ => ?_) (fun _ => ?_)⟩
      · refine ⟨_, rfl, _, _, rfl, rfl, _, rfl, ite2 (fun _ => ?_) (fun _ => ?_)⟩
        · refine ⟨_, rfl, .inl ⟨rfl, _, SqL.of e2⟩, _, rfl, _, _, rfl, rfl, (by show (0 : Int) < 64; decide), l, _, _, rfl, rfl, e2, by rw [List.length_map]; omega, ?_⟩
          refine ⟨_, rfl, _, _, rfl, rfl, ⟨by decide, lt2_lit⟩, ?_⟩
          exact ⟨row ++ [_], _, _, _, _, rfl, s2.put hl, by rw [upd_same, List.map_append]; rfl, by rw [List.length_append, List.length_singleton, rl]⟩
        · refine ⟨_, rfl, _, rfl, _, _, rfl, rfl, .inl ⟨by decide, by decide⟩, _, _, rfl, rfl, _, _, rfl, rfl, _, _, rfl, rfl, .inr ⟨by decide, by decide⟩, _, _, rfl, rfl, (by show (0 : Int) < 2147483647; decide), ?_⟩
          refine ⟨_, rfl, _, rfl, _, _, rfl, rfl, .inl ⟨by omega, by omega⟩, _, _, rfl, rfl, (by show (0 : Int) < 2147483629; decide), _, _, rfl, rfl, .inr ⟨by decide, by decide⟩, _, _, rfl, rfl, (by show (0 : Int) < 2147483587; decide), ?_⟩
          refine ⟨_, rfl, .inl ⟨rfl, _, SqL.of e2⟩, _, rfl, _, _, rfl, rfl, ⟨by decide, lt2_lit⟩, _, _, rfl, rfl, (by show (0 : Int) < 720720; decide), l, _, _, rfl, rfl, e2, by rw [List.length_map]; omega, ?_⟩
          exact ⟨row ++ [_], _, _, _, _, rfl, s2.put hl, by rw [upd_same, List.map_append]; rfl, by rw [List.length_append, List.length_singleton, rl]⟩
      · refine iteF ?_
        refine ⟨_, rfl, _, rfl, _, _, rfl, rfl, .inl ⟨by decide, by decide⟩, _, _, rfl, rfl, _, _, rfl, rfl, _, _, rfl, rfl, .inr ⟨by decide, by decide⟩, _, _, rfl, rfl, (by show (0 : Int) < 2147483647; decide), ?_⟩
        refine ⟨_, rfl, _, rfl, _, _, rfl, rfl, .inl ⟨by omega, by omega⟩, _, _, rfl, rfl, (by show (0 : Int) < 2147483629; decide), _, _, rfl, rfl, .inr ⟨by decide, by decide⟩, _, _, rfl, rfl, (by show (0 : Int) < 2147483587; decide), ?_⟩
        refine ⟨_, rfl, .inl ⟨rfl, _, SqL.of e2⟩, _, rfl, _, _, rfl, rfl, ⟨by decide, lt2_lit⟩, _, _, rfl, rfl, (by show (0 : Int) < 720720; decide), l, _, _, rfl, rfl, e2, by rw [List.length_map]; omega, ?_⟩
        exact ⟨row ++ [_], _, _, _, _, rfl, s2.put hl, by rw [upd_same, List.map_append]; rfl, by rw [List.length_append, List.length_singleton, rl]⟩
    · rintro σ H2 ⟨row, r, st, v5, v6, rfl, s2, e2, rl⟩
      exact ⟨_, rfl, q l row H2 s2 e2 rl⟩
/-! ### _law_some -/
theorem at_strs (ws : List Str) {j : Int} (h0 : 0 ≤ j) (h1 : j < ws.length) : ∃ wd ∈ ws, atI (ws.map V.str) j = some (.str wd) := by
  obtain ⟨k, rfl⟩ := Int.eq_ofNat_of_zero_le h0
  have hk : k < ws.length := by omega
  refine ⟨ws[k], List.getElem_mem hk, atI_nat ?_⟩
  show (ws.map V.str)[k]? = some (.str ws[k])
  rw [List.getElem?_map, List.getElem?_eq_getElem hk]
  rfl
theorem at_ints (ns : List Int) {j : Int} (h0 : 0 ≤ j) (h1 : j < ns.length) : ∃ z ∈ ns, atI (ns.map V.int) j = some (.int z) := by
  obtain ⟨k, rfl⟩ := Int.eq_ofNat_of_zero_le h0
  have hk : k < ns.length := by omega
  refine ⟨ns[k], List.getElem_mem hk, atI_nat ?_⟩
  show (ns.map V.int)[k]? = some (.int ns[k])
  rw [List.getElem?_map, List.getElem?_eq_getElem hk]
  rfl
def nine : List Str := ["open", "closed", "with", "off", "over", "past", "long", "shy", "all"]
theorem bare_leaf {wd : Str} (h : wd ∈ sBare) : Ws (.tuple [.str wd]) 1 := .leaf (by unfold leafB; rw [if_pos h]; rfl)
theorem pair_leaf {wd : Str} {a b : Int} (h : wd ∈ sPair) (ha : 0 ≤ a ∧ a ≤ 9999) (hb : 0 ≤ b ∧ b ≤ 9999) : Ws (.tuple [.str wd, .int a, .int b]) 1 := by
  refine .leaf ?_
  have h1 : wd ∉ sBare := by
    unfold sPair at h
    rcases List.mem_cons.mp h with rfl | h
    · decide +kernel
    · rw [List.mem_singleton] at h
      subst h
      decide +kernel
  unfold leafB
  rw [if_neg h1, if_pos h]
  simp [small, ha.1, ha.2, hb.1, hb.2]
theorem four_leaf {wd : Str} {ds : List PyData} (h : wd ∈ sFour) (hd : ds.all small = true) : Ws (.tuple [.str wd, .tuple ds]) 1 := by
  refine .leaf ?_
  have h1 : wd ∉ sBare ∧ wd ∉ sPair := by
    unfold sFour at h
    rcases List.mem_cons.mp h with rfl | h
    · decide +kernel
    rcases List.mem_cons.mp h with rfl | h
    · decide +kernel
    rcases List.mem_cons.mp h with rfl | h
    · decide +kernel
    rw [List.mem_singleton] at h
    subst h
    decide +kernel
  unfold leafB
  rw [if_neg h1.1, if_neg h1.2, if_pos h]
  exact hd
theorem nine_rest {wd : Str} (h : wd ∈ nine) : wd ∈ sBare ∨ wd ∈ sPair ∨ wd ∈ sFour := by
  have : ∀ x ∈ nine, x ∈ sBare ∨ x ∈ sPair ∨ x ∈ sFour := by decide +kernel
  exact this wd h
/-- a thing told -/
def TellW (H : Hp) (Q : VK) (b : Nat) : Prop := ∀ (v : V) (d : PyData) (m : Nat) (H' : Hp), Same H H' → Th H' v d → Ws d m → m ≤ b → Q v H'
def spSom : Sp := fun vs H Q _ => ∃ (xl : Addr) (ns : List Int), vs = [.ref xl] ∧ H xl = some (.lst (ns.map V.int)) ∧ ns.length = 6 ∧ TellW H Q 1
theorem scSom : FnScope ["xs", "word", "great"] ["xs"] (defScope sSom) := ⟨rfl, rfl, rfl, by decide +kernel, rfl, by decide +kernel, by decide +kernel⟩
theorem small_ints {ms : List Int} (h : ∀ m ∈ ms, 0 ≤ m ∧ m ≤ 9999) : (ms.map PyData.int).all small = true := by
  rw [List.all_map, List.all_eq_true]
  intro m hm
  have := h m hm
  simp [small, this.1, this.2]
theorem ths_ints (H : Hp) : ∀ ms : List Int, Ths H (ms.map V.int) (ms.map PyData.int)
  | [] => .nil
  | m :: ms => .cons (.int m) (ths_ints H ms)
theorem ok_som {f : Addr} {fd : FuncData} (F : Fun K "_law_some" "_law_some" sSom f fd) (mRange : mg "range" = none) (mTup : mg "tuple" = none) : FnOk P w K mg base CX0 1 f fd ["xs"] spSom := by
  refine F.ok scSom (fun vs H Q E h => ?_) (fun cdv A outer s H vs Q E hr h => ?_)
  · obtain ⟨_, _, rfl, _⟩ := h
    rfl
  · obtain ⟨xl, ns, rfl, exl, hn, q⟩ := h
    have h16 : (16777216 : Nat) = sizeLine := sizeLine_eq.symm
    refine ⟨_, pss_cons (ps_set (i := 1) scSom.nd rfl (Or.inl rfl) (pe_ix (kIxL K) (pe_lst (pa_cons pe_str (pa_cons pe_str (pa_cons pe_str (pa_cons pe_str (pa_cons pe_str (pa_cons pe_str (pa_cons pe_str (pa_cons pe_str (pa_cons pe_str pa_nil)))))))))) (pe_op op_mod (pe_ix (kIxL K) (pv 0) pe_int (fun _ _ => rfl)) pe_int) (fun _ _ => rfl)))
       (pss_cons (ps_if (PW.pt (pw_or (pt_cmpR op_eq (pv 1) pe_str (nomark _)) (pw_or (pt_cmpR op_eq (pv 1) pe_str (nomark _)) (pw_or1 (pt_cmpR op_eq (pv 1) pe_str (nomark _)))))) (pss_one (ps_ret (pe_tup (pa_cons (pv 1) pa_nil)))) pss_nil)
       (pss_cons (ps_set (i := 2) scSom.nd rfl (Or.inr rfl) (pe_ix (kIxL K) (pe_lst (pa_cons (pe_op op_mod (pe_ix (kIxL K) (pv 0) pe_int (fun _ _ => rfl)) pe_int) (pa_cons (pe_op op_mod (pe_op op_mul (pe_ix (kIxL K) (pv 0) pe_int (fun _ _ => rfl)) pe_int) pe_int) (pa_cons pe_int (pa_cons pe_int pa_nil))))) (pe_op op_mod (pe_ix (kIxL K) (pv 0) pe_int (fun _ _ => rfl)) pe_int) (fun _ _ => rfl)))
       (pss_cons (ps_if (PW.pt (pw_or (pt_cmpR op_eq (pv 1) pe_str (nomark _)) (pw_or1 (pt_cmpR op_eq (pv 1) pe_str (nomark _))))) (pss_one (ps_ret (pe_tup (pa_cons (pv 1) (pa_cons (pv 2) (pa_cons (pe_ix (kIxL K) (pe_lst (pa_cons (pe_op op_mod (pe_ix (kIxL K) (pv 0) pe_int (fun _ _ => rfl)) pe_int) (pa_cons pe_int (pa_cons (pe_op op_mod (pe_op op_mul (pe_ix (kIxL K) (pv 0) pe_int (fun _ _ => rfl)) pe_int) pe_int) pa_nil)))) (pe_op op_mod (pe_ix (kIxL K) (pv 0) pe_int (fun _ _ => rfl)) pe_int) (fun _ _ => rfl)) pa_nil)))))) pss_nil)
       (pss_one (ps_ret (pe_tup (pa_cons (pv 1) (pa_cons (pe_callTy (kTupOf K) rfl mTup boot_tuple (pa_cons (pe_comp (own := ["j"]) rfl (compScope_free (fr := [("xs", 0), ("great", 2)]) [(".0", .local), ("j", .local), ("great", .cell), ("xs", .cell)] rfl rfl (by decide +kernel) rfl (by decide +kernel) ⟨rfl, rfl, trivial⟩ ⟨fun h => no_cf h, fun h => no_cf h, fun _ => ⟨_, rfl⟩, fun _ => ⟨_, rfl⟩, trivial⟩ ⟨⟨rfl, .inl rfl, .inl rfl⟩, ⟨rfl, .inl rfl, .inl rfl⟩, trivial⟩) (pi_range1 rfl mRange (pa_cons (pe_op op_mod (pe_ix (kIxL K) (pv 0) pe_int (fun _ _ => rfl)) pe_int) pa_nil)) (fun _ _ _ _ => pg_name (i := 0) (show List.Nodup (["j", "xs", "great"] : List Str) by decide +kernel) rfl (Or.inl rfl)) (fun _ _ _ _ => pifs_nil) (fun _ _ _ _ => pe_ix (kIxL K) (pe_lst (pa_cons (pv 2) (pa_cons (pe_op op_mod (pe_op op_mul (pe_ix (kIxL K) (pv 1) (pe_op op_add pe_int (pe_op op_mod (pv 0) pe_int)) (fun _ _ => rfl)) (pe_op op_add (pv 0) pe_int)) pe_int) pa_nil))) (pe_op op_mod (pv 0) pe_int) (fun _ _ => rfl))) pa_nil)) pa_nil)))))))), ?_⟩
    -- word
    refine seq_mid (fun σ' H' => ∃ wd : Str, σ' = [some (.ref xl), some (.str wd), none] ∧ Same H H' ∧ wd ∈ nine) ?s1 ?f1
    case f1 =>
      intro hk
      refine ⟨(by show 9 ≤ sizeLine; omega), fun p hp => ?_⟩
      have s1 : Same H (upd H p (.lst (nine.map V.str))) := Same.new hp
      obtain ⟨wd, hwd, ewd⟩ := at_strs nine (j := ns.getD (0 : Int).toNat 0 % 9) (Int.emod_nonneg _ (by decide)) (Int.emod_lt_of_pos _ (by decide))
      refine ⟨_, rfl, xl, _, _, _, rfl, rfl, SqL.of (s1 _ _ exl), at_int (by omega) (by omega), _, _, rfl, rfl, (by show (0 : Int) < 9; decide), p, _, _, _, rfl, rfl, SqL.of upd_same, ewd, ?_⟩
      exact hk _ _ ⟨wd, rfl, s1, hwd⟩
    rintro σ' H1 ⟨wd, rfl, s1, hwd⟩
    have exl1 := s1 _ _ exl
    -- closed, shy, all
    refine seq_mid (fun σ' H' => σ' = [some (.ref xl), some (.str wd), none] ∧ H1 = H' ∧ wd ∉ sBare) ?s2 ?f2
    case f2 =>
      intro hk
      have bare : wd ∈ sBare → ∀ p, H1 p = none → Q (.ref p) (upd H1 p (.tup [.str wd])) := fun h p hp => q _ _ 1 _ (s1.put (s1.free hp)) (.tup upd_same (by simp) (.cons (.str wd) .nil)) (bare_leaf h) (Nat.le_refl _)
      refine ⟨_, rfl, rfl, _, rfl, ite2 (fun c1 => ?_) (fun c1 => ?_)⟩
      · have c1 := V.str.inj (of_decide_eq_true c1)
        exact iteT ⟨_, rfl, (by show 1 ≤ sizeLine; omega), bare (by rw [c1]; decide +kernel)⟩
      refine ⟨_, rfl, rfl, _, rfl, ite2 (fun c2 => ?_) (fun c2 => ?_)⟩
      · have c2 := V.str.inj (of_decide_eq_true c2)
        exact iteT ⟨_, rfl, (by show 1 ≤ sizeLine; omega), bare (by rw [c2]; decide +kernel)⟩
      refine ⟨_, rfl, rfl, _, rfl, ite2 (fun c3 => ?_) (fun c3 => ?_)⟩
      · have c3 := V.str.inj (of_decide_eq_true c3)
        exact ⟨_, rfl, (by show 1 ≤ sizeLine; omega), bare (by rw [c3]; decide +kernel)⟩
      refine hk _ _ ⟨rfl, rfl, fun z => ?_⟩
      unfold sBare at z
      rcases List.mem_cons.mp z with z | z
      · exact c1 (decide_eq_true (congrArg V.str z))
      rcases List.mem_cons.mp z with z | z
      · exact c2 (decide_eq_true (congrArg V.str z))
      · rw [List.mem_singleton] at z
        exact c3 (decide_eq_true (congrArg V.str z))
    rintro σ' H' ⟨rfl, rfl, hnb⟩
    -- great
    refine seq_mid (fun σ' H' => ∃ g : Int, σ' = [some (.ref xl), some (.str wd), some (.int g)] ∧ Same H H' ∧ 0 ≤ g ∧ g ≤ 9999) ?s3 ?f3
    case f3 =>
      intro hk
      refine ⟨_, rfl, xl, _, _, _, rfl, rfl, SqL.of exl1, at_int (by omega) (by omega), _, _, rfl, rfl, (by show (0 : Int) < 12; decide), _, rfl, xl, _, _, _, rfl, rfl, SqL.of exl1, at_int (by omega) (by omega), _, _, rfl, rfl, .inr ⟨by decide, by decide⟩, _, _, rfl, rfl, (by show (0 : Int) < 10000; decide), (by show 4 ≤ sizeLine; omega), fun p hp => ?_⟩
      have s2 := s1.put (o := .lst (([ns.getD (1 : Int).toNat 0 % 12, ns.getD (1 : Int).toNat 0 * 641 % 10000, 9999, 0] : List Int).map V.int)) (s1.free hp)
      obtain ⟨g, hg, eg⟩ := at_ints [ns.getD (1 : Int).toNat 0 % 12, ns.getD (1 : Int).toNat 0 * 641 % 10000, 9999, 0] (j := ns.getD (2 : Int).toNat 0 % 4) (Int.emod_nonneg _ (by decide)) (Int.emod_lt_of_pos _ (by decide))
      refine ⟨_, rfl, xl, _, _, _, rfl, rfl, SqL.of (s2 _ _ exl), at_int (by omega) (by omega), _, _, rfl, rfl, (by show (0 : Int) < 4; decide), p, _, _, _, rfl, rfl, SqL.of upd_same, eg, ?_⟩
      refine hk _ _ ⟨g, rfl, s2, ?_⟩
      simp only [List.mem_cons, List.not_mem_nil, or_false] at hg
      omega
    rintro σ' H2 ⟨g, rfl, s2, hg0, hg1⟩
    have exl2 := s2 _ _ exl
    have pair : wd ∈ sPair → tRet (tTup (tCons (tVar 1) (tCons (tVar 2) (tCons (tOp (rIxL K) (tLst (tCons (tOp (rI (fun _ j => 0 < j) fun i j => V.int (i % j)) (tOp (rIxL K) (tVar 0) (tC (V.int 3))) (tC (V.int 5))) (tCons (tC (V.int 9999)) (tCons (tOp (rI (fun _ j => 0 < j) fun i j => V.int (i % j)) (tOp (rI CMul fun i j => V.int (i * j)) (tOp (rIxL K) (tVar 0) (tC (V.int 3))) (tC (V.int 157))) (tC (V.int 10000))) tNil)))) (tOp (rI (fun _ j => 0 < j) fun i j => V.int (i % j)) (tOp (rIxL K) (tVar 0) (tC (V.int 4))) (tC (V.int 3)))) tNil)))) { nx := fun x H' => Q V.non H', rt := Q } [some (.ref xl), some (.str wd), some (.int g)] H2 := fun h => by
      refine ⟨_, rfl, _, rfl, _, rfl, xl, _, _, _, rfl, rfl, SqL.of exl2, at_int (by omega) (by omega), _, _, rfl, rfl, (by show (0 : Int) < 5; decide), _, rfl, xl, _, _, _, rfl, rfl, SqL.of exl2, at_int (by omega) (by omega), _, _, rfl, rfl, .inr ⟨by decide, by decide⟩, _, _, rfl, rfl, (by show (0 : Int) < 10000; decide), (by show 3 ≤ sizeLine; omega), fun p hp => ?_⟩
      have s3 := s2.put (o := .lst (([ns.getD (3 : Int).toNat 0 % 5, 9999, ns.getD (3 : Int).toNat 0 * 157 % 10000] : List Int).map V.int)) (s2.free hp)
      obtain ⟨g2, hg2, eg2⟩ := at_ints [ns.getD (3 : Int).toNat 0 % 5, 9999, ns.getD (3 : Int).toNat 0 * 157 % 10000] (j := ns.getD (4 : Int).toNat 0 % 3) (Int.emod_nonneg _ (by decide)) (Int.emod_lt_of_pos _ (by decide))
      refine ⟨_, rfl, xl, _, _, _, rfl, rfl, SqL.of (s3 _ _ exl), at_int (by omega) (by omega), _, _, rfl, rfl, (by show (0 : Int) < 3; decide), p, _, _, _, rfl, rfl, SqL.of upd_same, eg2, (by show 3 ≤ sizeLine; omega), fun p4 hp4 => ?_⟩
      simp only [List.mem_cons, List.not_mem_nil, or_false] at hg2
      exact q _ _ 1 _ (s3.put (s3.free hp4)) (.tup upd_same (by simp) (.cons (.str wd) (.cons (.int g) (.cons (.int g2) .nil)))) (pair_leaf h ⟨hg0, hg1⟩ (by omega)) (Nat.le_refl _)
    -- open, long
    refine ⟨_, rfl, rfl, _, rfl, ite2 (fun c1 => ?_) (fun c1 => ?_)⟩
    · have c1 := V.str.inj (of_decide_eq_true c1)
      exact iteT (pair (by rw [c1]; decide +kernel))
    refine ⟨_, rfl, rfl, _, rfl, ite2 (fun c2 => ?_) (fun c2 => ?_)⟩
    · have c2 := V.str.inj (of_decide_eq_true c2)
      exact pair (by rw [c2]; decide +kernel)
    have h4 : wd ∈ sFour := by
      rcases nine_rest hwd with h | h | h
      · exact absurd h hnb
      · unfold sPair at h
        rcases List.mem_cons.mp h with z | z
        · exact absurd (decide_eq_true (congrArg V.str z)) c1
        · rw [List.mem_singleton] at z
          exact absurd (decide_eq_true (congrArg V.str z)) c2
      · exact h
    have hr0 : 0 ≤ ns.getD (5 : Int).toNat 0 % 7 := Int.emod_nonneg _ (by decide)
    have hr1 : ns.getD (5 : Int).toNat 0 % 7 < 7 := Int.emod_lt_of_pos _ (by decide)
    refine ⟨_, rfl, _, rfl, xl, _, _, _, rfl, rfl, SqL.of exl2, at_int (by omega) (by omega), _, _, rfl, rfl, (by show (0 : Int) < 7; decide), _, rfl, by omega, by omega, fun D hD => ?_⟩
    refine comp_range (lo := 0) (n := (ns.getD (5 : Int).toNat 0 % 7).toNat) (fun j ys H' => Same H2 H' ∧ H' D = some (.lst ys) ∧ ∃ ms : List Int, ys = ms.map V.int ∧ ms.length = j ∧ ∀ m ∈ ms, 0 ≤ m ∧ m ≤ 9999) ⟨Same.new hD, upd_same, [], rfl, rfl, fun m hm => (by cases hm)⟩ ?_ ?_
    · rintro j ys H3 hj ⟨s3, eD, ms, rfl, hms, hb⟩
      rw [Int.zero_add]
      have exl3 := s3 _ _ exl2
      have hj7 : j < 7 := by omega
      have hj4 : 0 ≤ (j : Int) % 4 := Int.emod_nonneg _ (by decide)
      have hj5 : (j : Int) % 4 < 4 := Int.emod_lt_of_pos _ (by decide)
      refine ⟨⟨rfl, rfl, trivial⟩, ?_⟩
      unfold tYes
      refine iteT ?_
      have hz0 : 0 ≤ ns.getD (1 + (j : Int) % 4).toNat 0 * ((j : Int) + 1) % 10000 := Int.emod_nonneg _ (by decide)
      have hz1 : ns.getD (1 + (j : Int) % 4).toNat 0 * ((j : Int) + 1) % 10000 < 10000 := Int.emod_lt_of_pos _ (by decide)
      refine ⟨_, rfl, _, rfl, _, rfl, _, _, rfl, rfl, (by show (0 : Int) < 4; decide), _, _, rfl, rfl, xl, _, _, _, rfl, rfl, SqL.of exl3, at_int (by omega) (by omega), _, rfl, _, _, rfl, rfl, _, _, rfl, rfl, .inr ⟨by omega, by omega⟩, _, _, rfl, rfl, (by show (0 : Int) < 10000; decide), two_le, fun p hp => ?_⟩
      obtain ⟨z, hz, ez⟩ := at_ints [g, ns.getD (1 + (j : Int) % 4).toNat 0 * ((j : Int) + 1) % 10000] (j := (j : Int) % 2) (Int.emod_nonneg _ (by decide)) (Int.emod_lt_of_pos _ (by decide))
      have s4 : Same H3 (upd H3 p (.lst (([g, ns.getD (1 + (j : Int) % 4).toNat 0 * ((j : Int) + 1) % 10000] : List Int).map V.int))) := Same.new hp
      refine ⟨_, rfl, _, _, rfl, rfl, (by show (0 : Int) < 2; decide), p, _, _, _, rfl, rfl, SqL.of upd_same, ez, s4 _ _ eD, by rw [List.length_map]; omega, (s3.trans s4).put hD, upd_same, ms ++ [z], by rw [List.map_append]; rfl, by rw [List.length_append, List.length_singleton, hms], fun m hm => ?_⟩
      rcases List.mem_append.mp hm with y | y
      · exact hb m y
      · rw [List.mem_singleton] at y
        rw [y]
        rcases List.mem_cons.mp hz with y | y
        · rw [y]; exact ⟨hg0, hg1⟩
        · rw [List.mem_singleton] at y
          rw [y]; exact ⟨hz0, by omega⟩
    · rintro ys H3 ⟨s3, eD, ms, rfl, hms, hb⟩
      refine ⟨D, _, rfl, .inl ⟨SqL.of eD, fun t ht => ?_⟩⟩
      have s4 : Same H3 (upd H3 t (.tup (ms.map V.int))) := Same.new ht
      have e4 : upd H3 t (.tup (ms.map V.int)) t = some (.tup (ms.map V.int)) := upd_same
      generalize upd H3 t (.tup (ms.map V.int)) = H4 at s4 e4 ⊢
      refine ⟨two_le, fun p5 hp5 => ?_⟩
      have s5 := Same.new (o := .tup [.str wd, .ref t]) hp5
      exact q _ _ 1 _ (((s2.trans s3).trans s4).trans s5) (.tup upd_same (by simp) (.cons (.str wd) (.cons (.tup (s5 _ _ e4) (by rw [List.length_map]; omega) (ths_ints _ ms)) .nil))) (four_leaf h4 (small_ints hb)) (Nat.le_refl _)
end
end M
namespace M
open PySem L2
section
variable {P : Program} {w : World} {K : PySem.W.Frag} {mg : Str → Option Value} {base : Heap}
/-! ### _law_joined -/
/-- things in a row, each a wish no deeper than b -/
structure Wl (H : Hp) (vs : List V) (ds : List PyData) (b : Nat) : Prop where
  t : Ths H vs ds
  w : ∀ d ∈ ds, ∃ m, Ws d m ∧ m ≤ b
theorem Wl.same {H H' : Hp} {vs : List V} {ds : List PyData} {b : Nat} (h : Wl H vs ds b) (s : Same H H') : Wl H' vs ds b := ⟨h.t.same s, h.w⟩
def spJoi : Sp := fun vs H Q _ => ∃ (pa xl : Addr) (us : List V) (ds : List PyData) (ns : List Int), vs = [.ref pa, .ref xl] ∧ H pa = some (.lst us) ∧ Wl H us ds 1 ∧ 1 ≤ ds.length ∧ ds.length ≤ 4 ∧ H xl = some (.lst (ns.map V.int)) ∧ ns.length = 6 ∧ TellW H Q 4
theorem scJoi : FnScope ["parts", "xs", "k", "at", "word"] ["parts", "xs"] (defScope sJoi) := ⟨rfl, rfl, rfl, by decide +kernel, rfl, by decide +kernel, by decide +kernel⟩
theorem ok_joi {f : Addr} {fd : FuncData} (F : Fun K "_law_joined" "_law_joined" sJoi f fd) (mRange : mg "range" = none) (mLen : mg "len" = none) (mLst : mg "list" = none) : FnOk P w K mg base CX0 1 f fd ["parts", "xs"] spJoi := by
  refine F.ok scJoi (fun vs H Q E h => ?_) (fun cdv A outer s H vs Q E hr h => ?_)
  · obtain ⟨_, _, _, _, _, rfl, _⟩ := h
    rfl
  · obtain ⟨pa, xl, us, ds, ns, rfl, epa, W, h1, h4, exl, hn, q⟩ := h
    have h16 : (16777216 : Nat) = sizeLine := sizeLine_eq.symm
    have n3 : 3 ≤ sizeLine := by omega
    have hul := W.t.len
    refine ⟨_, pss_cons (ps_set (i := 0) scJoi.nd rfl (Or.inl rfl) (pe_callTy (kListOf K) rfl mLst boot_list (pa_cons (pv 0) pa_nil)))
       (pss_cons (ps_for PassesOwn.never rfl (pi_range1 rfl mRange (pa_cons (pe_op op_sub (pe_callB (kLen K) rfl mLen PySem.boot_len (pa_cons (pv 0) pa_nil)) pe_int) pa_nil)) (pg_name (i := 2) scJoi.nd rfl (Or.inl rfl))
       (pss_cons (ps_set (i := 3) scJoi.nd rfl (Or.inl rfl) (pe_op op_mod (pe_ix (kIxL K) (pv 1) (pe_op op_mul pe_int (pv 2)) (fun _ _ => rfl)) (pe_op op_sub (pe_callB (kLen K) rfl mLen PySem.boot_len (pa_cons (pv 0) pa_nil)) pe_int)))
       (pss_cons (ps_set (i := 4) scJoi.nd rfl (Or.inl rfl) (pe_ix (kIxL K) (pe_lst (pa_cons pe_str (pa_cons pe_str (pa_cons pe_str pa_nil)))) (pe_op op_mod (pe_ix (kIxL K) (pv 1) (pe_op op_add (pe_op op_mul pe_int (pv 2)) pe_int) (fun _ _ => rfl)) pe_int) (fun _ _ => rfl)))
       (pss_one (ps_set (i := 0) scJoi.nd rfl (Or.inl rfl) (pe_op op_cat (pe_op op_cat (pe_slice (kSl K) (pv 0) po_none (po_some (pv 3))) (pe_lst (pa_cons (pe_tup (pa_cons (pv 4) (pa_cons (pe_ix (kIxL K) (pv 0) (pv 3) (fun _ _ => rfl)) (pa_cons (pe_ix (kIxL K) (pv 0) (pe_op op_add (pv 3) pe_int) (fun _ _ => rfl)) pa_nil)))) pa_nil))) (pe_slice (kSl K) (pv 0) (po_some (pe_op op_add (pv 3) pe_int)) po_none)))))))
       (pss_one (ps_ret (pe_ix (kIxL K) (pv 0) pe_int (fun _ _ => rfl))))), ?_⟩
    refine ⟨_, rfl, pa, us, rfl, .inl (SqL.of epa), fun pb hpb => ?_⟩
    have s1 : Same H (upd H pb (.lst us)) := Same.new hpb
    have epb : upd H pb (.lst us) pb = some (.lst us) := upd_same
    generalize upd H pb (.lst us) = H1 at s1 epb ⊢
    refine ⟨_, rfl, pb, us, rfl, .inl (SqL.of epb), _, _, rfl, rfl, _, rfl, by omega, by omega, ?_⟩
    refine for_range (lo := 0) (n := ((us.length : Int) - 1).toNat) (fun i σ' H' => ∃ (pc : Addr) (vs : List V) (es : List PyData) (v2 v3 v4 : Option V), σ' = [some (.ref pc), some (.ref xl), v2, v3, v4] ∧ Same H H' ∧ H' pc = some (.lst vs) ∧ Wl H' vs es (i + 1) ∧ es.length + i = ds.length) ⟨pb, us, ds, none, none, none, rfl, s1, epb, W.same s1, rfl⟩ ?_ ?_
    · rintro i σ' H2 hi ⟨pc, vs, es, v2, v3, v4, rfl, s2, epc, W2, hes⟩
      rw [Int.zero_add]
      have hvl := W2.t.len
      have exl2 := s2 _ _ exl
      have hi4 : i < 4 := by omega
      have hpos : (0 : Int) < (vs.length : Int) - 1 := by omega
      dsimp only [gName]
      refine seq_mid (fun σ' H' => ∃ aN : Nat, σ' = [some (.ref pc), some (.ref xl), some (.int (i : Int)), some (.int (aN : Int)), v4] ∧ H2 = H' ∧ aN + 1 < es.length) ?s1 ?f1
      case f1 =>
        intro hk
        refine ⟨_, rfl, _, rfl, _, _, rfl, rfl, .inl ⟨by decide, by decide⟩, xl, _, _, _, rfl, rfl, SqL.of exl2, at_int (by omega) (by omega), _, rfl, pc, _, rfl, .inl (SqL.of epc), _, _, rfl, rfl, _, _, rfl, rfl, hpos, ?_⟩
        obtain ⟨aN, haN⟩ := Int.eq_ofNat_of_zero_le (Int.emod_nonneg (ns.getD (2 * (i : Int)).toNat 0) (Int.ne_of_gt hpos))
        have hlt := Int.emod_lt_of_pos (ns.getD (2 * (i : Int)).toNat 0) hpos
        rw [haN] at hlt
        exact hk _ _ ⟨aN, by rw [← haN]; rfl, rfl, by omega⟩
      rintro σ' H' ⟨aN, rfl, rfl, haN⟩
      refine seq_mid (fun σ' H' => ∃ wd : Str, σ' = [some (.ref pc), some (.ref xl), some (.int (i : Int)), some (.int (aN : Int)), some (.str wd)] ∧ Same H2 H' ∧ wd ∈ sJoin) ?s2 ?f2
      case f2 =>
        intro hk
        refine ⟨n3, fun p hp => ?_⟩
        have s3 : Same H2 (upd H2 p (.lst (sJoin.map V.str))) := Same.new hp
        obtain ⟨wd, hwd, ewd⟩ := at_strs sJoin (j := ns.getD (2 * (i : Int) + 1).toNat 0 % 3) (Int.emod_nonneg _ (by decide)) (Int.emod_lt_of_pos _ (by decide))
        refine ⟨_, rfl, _, rfl, _, _, rfl, rfl, .inl ⟨by decide, by decide⟩, _, _, rfl, rfl, xl, _, _, _, rfl, rfl, SqL.of (s3 _ _ exl2), at_int (by omega) (by omega), _, _, rfl, rfl, (by show (0 : Int) < 3; decide), p, _, _, _, rfl, rfl, SqL.of upd_same, ewd, ?_⟩
        exact hk _ _ ⟨wd, rfl, s3, hwd⟩
      rintro σ' H3 ⟨wd, rfl, s3, hwd⟩
      have W3 := W2.same s3
      have epc3 := s3 _ _ epc
      obtain ⟨va, ga, ta⟩ := W3.t.at (List.getElem?_eq_getElem (show aN < es.length by omega))
      obtain ⟨vb, gb, tb⟩ := W3.t.at (List.getElem?_eq_getElem (show aN + 1 < es.length by omega))
      have ma := W3.w es[aN] (List.getElem_mem _)
      have mb := W3.w es[aN + 1] (List.getElem_mem _)
      generalize es[aN] = da at ta ma
      generalize es[aN + 1] = db at tb mb
      obtain ⟨m1, w1, l1⟩ := ma
      obtain ⟨m2, w2, l2⟩ := mb
      have htk : (vs.take aN).length ≤ 4 := by rw [List.length_take]; omega
      have hdr : (vs.drop (aN + 2)).length ≤ 4 := by rw [List.length_drop]; omega
      refine ⟨_, rfl, _, rfl, _, rfl, pc, _, rfl, SqL.of epc3, fun c1 hc1 => ?_⟩
      rw [show cutV vs none (some (aN : Int)) = vs.take aN from cut_to]
      have t1 : Same H3 (upd H3 c1 (.lst (vs.take aN))) := Same.new hc1
      have e1 : upd H3 c1 (.lst (vs.take aN)) c1 = some (.lst (vs.take aN)) := upd_same
      generalize upd H3 c1 (.lst (vs.take aN)) = H4 at t1 e1 ⊢
      refine ⟨_, rfl, _, rfl, _, rfl, pc, _, _, _, rfl, rfl, SqL.of (t1 _ _ epc3), atI_nat ga, _, rfl, _, rfl, _, _, rfl, rfl, pc, _, _, _, rfl, rfl, SqL.of (t1 _ _ epc3), atI_nat (j := aN + 1) gb, n3, fun t ht => ?_⟩
      have t2 : Same H4 (upd H4 t (.tup [.str wd, va, vb])) := Same.new ht
      have e2 : upd H4 t (.tup [.str wd, va, vb]) t = some (.tup [.str wd, va, vb]) := upd_same
      generalize upd H4 t (.tup [.str wd, va, vb]) = H5 at t2 e2 ⊢
      refine ⟨(by show 1 ≤ sizeLine; omega), fun c2 hc2 => ?_⟩
      have t3 : Same H5 (upd H5 c2 (.lst [.ref t])) := Same.new hc2
      have e3 : upd H5 c2 (.lst [.ref t]) c2 = some (.lst [.ref t]) := upd_same
      generalize upd H5 c2 (.lst [.ref t]) = H6 at t3 e3 ⊢
      refine ⟨c1, c2, _, _, rfl, rfl, t3 _ _ (t2 _ _ e1), e3, by rw [List.length_singleton]; omega, fun c3 hc3 => ?_⟩
      have t4 : Same H6 (upd H6 c3 (.lst (vs.take aN ++ [.ref t]))) := Same.new hc3
      have e4 : upd H6 c3 (.lst (vs.take aN ++ [.ref t])) c3 = some (.lst (vs.take aN ++ [.ref t])) := upd_same
      generalize upd H6 c3 (.lst (vs.take aN ++ [.ref t])) = H7 at t4 e4 ⊢
      have T4 := (t1.trans t2).trans (t3.trans t4)
      refine ⟨_, rfl, _, rfl, _, _, rfl, rfl, _, rfl, pc, _, rfl, SqL.of (T4 _ _ epc3), fun c4 hc4 => ?_⟩
      rw [show cutV vs (some ((aN : Int) + 2)) none = vs.drop (aN + 2) from cut_from (k := aN + 2)]
      have t5 : Same H7 (upd H7 c4 (.lst (vs.drop (aN + 2)))) := Same.new hc4
      have e5 : upd H7 c4 (.lst (vs.drop (aN + 2))) c4 = some (.lst (vs.drop (aN + 2))) := upd_same
      generalize upd H7 c4 (.lst (vs.drop (aN + 2))) = H8 at t5 e5 ⊢
      refine ⟨c3, c4, _, _, rfl, rfl, t5 _ _ e4, e5, by rw [List.length_append, List.length_singleton]; omega, fun c5 hc5 => ?_⟩
      have t6 := Same.new (o := .lst (vs.take aN ++ [.ref t] ++ vs.drop (aN + 2))) hc5
      have T6 := (T4.trans t5).trans t6
      have tt : Th _ (.ref t) (.tuple [.str wd, da, db]) := .tup ((((t3.trans t4).trans t5).trans t6) _ _ e2) (by simp) (.cons (.str wd) (.cons (ta.same T6) (.cons (tb.same T6) .nil)))
      refine ⟨c5, _, es.take aN ++ [.tuple [.str wd, da, db]] ++ es.drop (aN + 2), _, _, _, rfl, (s2.trans s3).trans T6, upd_same, ⟨(((W3.t.same T6).take aN).app (.cons tt .nil)).app ((W3.t.same T6).drop (aN + 2)), fun d hd => ?_⟩, ?_⟩
      · rcases List.mem_append.mp hd with z | z
        · rcases List.mem_append.mp z with z | z
          · obtain ⟨m, a, b⟩ := W3.w d (List.mem_of_mem_take z)
            exact ⟨m, a, by omega⟩
          · rw [List.mem_singleton] at z
            subst z
            exact ⟨_, .join hwd w1 w2, by omega⟩
        · obtain ⟨m, a, b⟩ := W3.w d (List.mem_of_mem_drop z)
          exact ⟨m, a, by omega⟩
      · rw [List.length_append, List.length_append, List.length_take, List.length_drop, List.length_singleton]
        omega
    · rintro σ' H2 ⟨pc, vs, es, v2, v3, v4, rfl, s2, epc, W2, hes⟩
      have hvl := W2.t.len
      have he1 : 0 < es.length := by omega
      obtain ⟨va, ga, ta⟩ := W2.t.at (List.getElem?_eq_getElem he1)
      obtain ⟨m, wm, lm⟩ := W2.w es[0] (List.getElem_mem _)
      refine ⟨_, rfl, pc, _, _, _, rfl, rfl, SqL.of epc, atI_nat (j := 0) ga, ?_⟩
      exact q _ _ m _ s2 ta wm (by omega)
/-! ### _law_wrapped -/
def spWra : Sp := fun vs H Q _ => ∃ (v : V) (xl : Addr) (d : PyData) (m : Nat) (ns : List Int), vs = [v, .ref xl] ∧ Th H v d ∧ Ws d m ∧ m ≤ 4 ∧ H xl = some (.lst (ns.map V.int)) ∧ ns.length = 6 ∧ TellW H Q 20
theorem scWra : FnScope ["thing", "xs", "k", "word"] ["thing", "xs"] (defScope sWra) := ⟨rfl, rfl, rfl, by decide +kernel, rfl, by decide +kernel, by decide +kernel⟩
theorem ok_wra {f : Addr} {fd : FuncData} (F : Fun K "_law_wrapped" "_law_wrapped" sWra f fd) (mRange : mg "range" = none) : FnOk P w K mg base CX0 1 f fd ["thing", "xs"] spWra := by
  refine F.ok scWra (fun vs H Q E h => ?_) (fun cdv A outer s H vs Q E hr h => ?_)
  · obtain ⟨_, _, _, _, _, rfl, _⟩ := h
    rfl
  · obtain ⟨v0, xl, d0, m0, ns, rfl, t0, w0, l0, exl, hn, q⟩ := h
    have h16 : (16777216 : Nat) = sizeLine := sizeLine_eq.symm
    have n3 : 3 ≤ sizeLine := by omega
    have n1 : 1 ≤ sizeLine := by omega
    refine ⟨_, pss_cons (ps_if (pt_cmpR op_eq (pe_op op_mod (pe_ix (kIxL K) (pv 1) pe_int (fun _ _ => rfl)) pe_int) pe_int (nomark _)) (pss_one (ps_for PassesOwn.never rfl (pi_range1 rfl mRange (pa_cons (pe_op op_mod (pe_ix (kIxL K) (pv 1) pe_int (fun _ _ => rfl)) pe_int) pa_nil)) (pg_name (i := 2) scWra.nd rfl (Or.inl rfl))
       (pss_cons (ps_set (i := 3) scWra.nd rfl (Or.inl rfl) (pe_ix (kIxL K) (pe_lst (pa_cons pe_str (pa_cons pe_str (pa_cons pe_str pa_nil)))) (pe_op op_mod (pe_op op_add (pe_ix (kIxL K) (pv 1) pe_int (fun _ _ => rfl)) (pv 2)) pe_int) (fun _ _ => rfl)))
       (pss_one (ps_set (i := 0) scWra.nd rfl (Or.inl rfl) (pe_ix (kIxL K) (pe_lst (pa_cons (pe_tup (pa_cons (pv 3) (pa_cons (pv 0) (pa_cons (pe_tup (pa_cons pe_str pa_nil)) pa_nil)))) (pa_cons (pe_tup (pa_cons (pv 3) (pa_cons (pe_tup (pa_cons pe_str (pa_cons (pe_tup (pa_cons (pv 2) (pa_cons pe_int pa_nil))) pa_nil))) (pa_cons (pv 0) pa_nil)))) pa_nil))) (pe_op op_mod (pe_op op_fdivB (pe_ix (kIxL K) (pv 1) (pe_op op_add pe_int (pe_op op_mod (pv 2) pe_int)) (fun _ _ => rfl)) (pe_op op_add pe_int (pv 2))) pe_int) (fun _ _ => rfl))))))) pss_nil)
       (pss_cons (ps_if (pt_cmpR op_eq (pe_op op_mod (pe_ix (kIxL K) (pv 1) pe_int (fun _ _ => rfl)) pe_int) pe_int (nomark _)) (pss_one (ps_for PassesOwn.never rfl (pi_range1 rfl mRange (pa_cons (pe_op op_mod (pe_ix (kIxL K) (pv 1) pe_int (fun _ _ => rfl)) pe_int) pa_nil)) (pg_name (i := 2) scWra.nd rfl (Or.inl rfl))
       (pss_one (ps_set (i := 0) scWra.nd rfl (Or.inl rfl) (pe_tup (pa_cons (pe_ix (kIxL K) (pe_lst (pa_cons pe_str (pa_cons pe_str (pa_cons pe_str pa_nil)))) (pe_op op_mod (pe_op op_add (pe_ix (kIxL K) (pv 1) pe_int (fun _ _ => rfl)) (pv 2)) pe_int) (fun _ _ => rfl)) (pa_cons (pv 0) (pa_cons (pv 0) pa_nil)))))))) pss_nil)
       (pss_one (ps_ret (pv 0)))), ?_⟩
    refine seq_mid (fun σ' H' => ∃ (v : V) (d : PyData) (m : Nat) (v2 v3 : Option V), σ' = [some v, some (.ref xl), v2, v3] ∧ Same H H' ∧ Th H' v d ∧ Ws d m ∧ m ≤ 13) ?s1 ?f1
    case f1 =>
      intro hk
      refine ⟨_, rfl, xl, _, _, _, rfl, rfl, SqL.of exl, at_int (by omega) (by omega), _, _, rfl, rfl, (by show (0 : Int) < 4; decide), rfl, _, rfl, ite2 (fun _ => ?_) (fun _ => ?_)⟩
      rotate_left
      · exact hk _ _ ⟨v0, d0, m0, none, none, rfl, Same.refl _, t0, w0, by omega⟩
      have r0 : 0 ≤ ns.getD (1 : Int).toNat 0 % 10 := Int.emod_nonneg _ (by decide)
      have r1 : ns.getD (1 : Int).toNat 0 % 10 < 10 := Int.emod_lt_of_pos _ (by decide)
      refine ⟨_, rfl, xl, _, _, _, rfl, rfl, SqL.of exl, at_int (by omega) (by omega), _, _, rfl, rfl, (by show (0 : Int) < 10; decide), _, rfl, by omega, by omega, ?_⟩
      refine for_range (lo := 0) (n := (ns.getD (1 : Int).toNat 0 % 10).toNat) (fun i σ' H' => ∃ (v : V) (d : PyData) (m : Nat) (v2 v3 : Option V), σ' = [some v, some (.ref xl), v2, v3] ∧ Same H H' ∧ Th H' v d ∧ Ws d m ∧ m ≤ 4 + i) ⟨v0, d0, m0, none, none, rfl, Same.refl _, t0, w0, by omega⟩ ?_ ?_
      · rintro i σ' H1 hi ⟨v, d, m, v2, v3, rfl, s1, t1, w1, l1⟩
        rw [Int.zero_add]
        have exl1 := s1 _ _ exl
        have hi9 : i < 10 := by omega
        dsimp only [gName]
        refine seq_mid (fun σ' H' => ∃ wd : Str, σ' = [some v, some (.ref xl), some (.int (i : Int)), some (.str wd)] ∧ Same H1 H' ∧ wd ∈ sJoin) ?s2 ?f2
        case f2 =>
          intro hk
          refine ⟨n3, fun p hp => ?_⟩
          have s3 : Same H1 (upd H1 p (.lst (sJoin.map V.str))) := Same.new hp
          obtain ⟨wd, hwd, ewd⟩ := at_strs sJoin (j := (ns.getD (2 : Int).toNat 0 + (i : Int)) % 3) (Int.emod_nonneg _ (by decide)) (Int.emod_lt_of_pos _ (by decide))
          refine ⟨_, rfl, xl, _, _, _, rfl, rfl, SqL.of (s3 _ _ exl1), at_int (by omega) (by omega), _, rfl, _, _, rfl, rfl, _, _, rfl, rfl, (by show (0 : Int) < 3; decide), p, _, _, _, rfl, rfl, SqL.of upd_same, ewd, ?_⟩
          exact hk _ _ ⟨wd, rfl, s3, hwd⟩
        rintro σ' H2 ⟨wd, rfl, s2, hwd⟩
        refine ⟨_, rfl, _, rfl, n1, fun p1 hp1 => ?_⟩
        have u1 : Same H2 (upd H2 p1 (.tup [.str "shy"])) := Same.new hp1
        have e1 : upd H2 p1 (.tup [.str "shy"]) p1 = some (.tup [.str "shy"]) := upd_same
        generalize upd H2 p1 (.tup [.str "shy"]) = H3 at u1 e1 ⊢
        refine ⟨n3, fun p2 hp2 => ?_⟩
        have u2 : Same H3 (upd H3 p2 (.tup [.str wd, v, .ref p1])) := Same.new hp2
        have e2 : upd H3 p2 (.tup [.str wd, v, .ref p1]) p2 = some (.tup [.str wd, v, .ref p1]) := upd_same
        generalize upd H3 p2 (.tup [.str wd, v, .ref p1]) = H4 at u2 e2 ⊢
        refine ⟨_, rfl, _, rfl, two_le, fun p3 hp3 => ?_⟩
        have u3 : Same H4 (upd H4 p3 (.tup [.int (i : Int), .int 9999])) := Same.new hp3
        have e3 : upd H4 p3 (.tup [.int (i : Int), .int 9999]) p3 = some (.tup (([(i : Int), 9999] : List Int).map V.int)) := upd_same
        generalize upd H4 p3 (.tup [.int (i : Int), .int 9999]) = H5 at u3 e3 ⊢
        refine ⟨two_le, fun p4 hp4 => ?_⟩
        have u4 : Same H5 (upd H5 p4 (.tup [.str "with", .ref p3])) := Same.new hp4
        have e4 : upd H5 p4 (.tup [.str "with", .ref p3]) p4 = some (.tup [.str "with", .ref p3]) := upd_same
        generalize upd H5 p4 (.tup [.str "with", .ref p3]) = H6 at u4 e4 ⊢
        refine ⟨_, rfl, n3, fun p5 hp5 => ?_⟩
        have u5 : Same H6 (upd H6 p5 (.tup [.str wd, .ref p4, v])) := Same.new hp5
        have e5 : upd H6 p5 (.tup [.str wd, .ref p4, v]) p5 = some (.tup [.str wd, .ref p4, v]) := upd_same
        generalize upd H6 p5 (.tup [.str wd, .ref p4, v]) = H7 at u5 e5 ⊢
        refine ⟨two_le, fun p6 hp6 => ?_⟩
        have u6 : Same H7 (upd H7 p6 (.lst [.ref p2, .ref p5])) := Same.new hp6
        have e6 : upd H7 p6 (.lst [.ref p2, .ref p5]) p6 = some (.lst [.ref p2, .ref p5]) := upd_same
        generalize upd H7 p6 (.lst [.ref p2, .ref p5]) = H8 at u6 e6 ⊢
        have U := ((u3.trans u4).trans u5).trans u6
        have S := (s1.trans s2).trans ((u1.trans u2).trans U)
        have tA : Th H8 (.ref p2) (.tuple [.str wd, d, .tuple [.str "shy"]]) := .tup (U _ _ e2) (by simp) (.cons (.str wd) (.cons (t1.same (s2.trans ((u1.trans u2).trans U))) (.cons (.tup ((u2.trans U) _ _ e1) (by simp) (.cons (.str _) .nil)) .nil)))
        have tB : Th H8 (.ref p5) (.tuple [.str wd, .tuple [.str "with", .tuple (([(i : Int), 9999] : List Int).map PyData.int)], d]) := .tup (u6 _ _ e5) (by simp) (.cons (.str wd) (.cons (.tup ((u5.trans u6) _ _ e4) (by simp) (.cons (.str _) (.cons (.tup (((u4.trans u5).trans u6) _ _ e3) (by simp) (ths_ints _ _)) .nil))) (.cons (t1.same (s2.trans ((u1.trans u2).trans U))) .nil)))
        have wA : Ws (.tuple [.str wd, d, .tuple [.str "shy"]]) (max m 1 + 1) := .join hwd w1 (bare_leaf (by decide +kernel))
        have wB : Ws (.tuple [.str wd, .tuple [.str "with", .tuple (([(i : Int), 9999] : List Int).map PyData.int)], d]) (max 1 m + 1) := .join hwd (four_leaf (by decide +kernel) (small_ints fun z hz => by
          rcases List.mem_cons.mp hz with y | y
          · omega
          · rw [List.mem_singleton] at y; omega)) w1
        have pm := w1.pos
        have hj0 : 0 ≤ ns.getD (3 + (i : Int) % 3).toNat 0 / (1 + (i : Int)) % 2 := Int.emod_nonneg _ (by decide)
        have hj1 : ns.getD (3 + (i : Int) % 3).toNat 0 / (1 + (i : Int)) % 2 < 2 := Int.emod_lt_of_pos _ (by decide)
        have fin : ∃ x dd mm, atI ([.ref p2, .ref p5] : List V) (ns.getD (3 + (i : Int) % 3).toNat 0 / (1 + (i : Int)) % 2) = some x ∧ Th H8 x dd ∧ Ws dd mm ∧ mm ≤ 4 + (i + 1) := by
          have hj : ns.getD (3 + (i : Int) % 3).toNat 0 / (1 + (i : Int)) % 2 = 0 ∨ ns.getD (3 + (i : Int) % 3).toNat 0 / (1 + (i : Int)) % 2 = 1 := by omega
          rcases hj with hj | hj
          · exact ⟨_, _, _, by rw [hj]; rfl, tA, wA, by omega⟩
          · exact ⟨_, _, _, by rw [hj]; rfl, tB, wB, by omega⟩
        obtain ⟨x, dd, mm, ex, tx, wx, lx⟩ := fin
        refine ⟨_, rfl, _, rfl, _, _, rfl, rfl, (by show (0 : Int) < 3; decide), _, _, rfl, rfl, xl, _, _, _, rfl, rfl, SqL.of (S _ _ exl), at_int (by omega) (by omega), _, rfl, _, _, rfl, rfl, _, _, rfl, rfl, ⟨(by show (0 : Int) < 1 + (i : Int); omega), lt2_n (by omega)⟩, _, _, rfl, rfl, (by show (0 : Int) < 2; decide), p6, _, _, _, rfl, rfl, SqL.of e6, ex, ?_⟩
        exact ⟨x, dd, mm, _, _, rfl, S, tx, wx, lx⟩
      · rintro σ' H1 ⟨v, d, m, v2, v3, rfl, s1, t1, w1, l1⟩
        exact hk _ _ ⟨v, d, m, v2, v3, rfl, s1, t1, w1, by omega⟩
    rintro σ' H1 ⟨v1, d1, m1, v2, v3, rfl, s1, t1, w1, l1⟩
    have exl1 := s1 _ _ exl
    refine seq_mid (fun σ' H' => ∃ (v : V) (d : PyData) (m : Nat) (v2 v3 : Option V), σ' = [some v, some (.ref xl), v2, v3] ∧ Same H H' ∧ Th H' v d ∧ Ws d m ∧ m ≤ 20) ?s3 ?f3
    case f3 =>
      intro hk
      refine ⟨_, rfl, xl, _, _, _, rfl, rfl, SqL.of exl1, at_int (by omega) (by omega), _, _, rfl, rfl, (by show (0 : Int) < 4; decide), rfl, _, rfl, ite2 (fun _ => ?_) (fun _ => ?_)⟩
      rotate_left
      · exact hk _ _ ⟨v1, d1, m1, _, _, rfl, s1, t1, w1, by omega⟩
      have r0 : 0 ≤ ns.getD (1 : Int).toNat 0 % 5 := Int.emod_nonneg _ (by decide)
      have r1 : ns.getD (1 : Int).toNat 0 % 5 < 5 := Int.emod_lt_of_pos _ (by decide)
      refine ⟨_, rfl, xl, _, _, _, rfl, rfl, SqL.of exl1, at_int (by omega) (by omega), _, _, rfl, rfl, (by show (0 : Int) < 5; decide), _, rfl, by omega, by omega, ?_⟩
      refine for_range (lo := 0) (n := (ns.getD (1 : Int).toNat 0 % 5).toNat) (fun i σ' H' => ∃ (v : V) (d : PyData) (m : Nat) (v2 v3 : Option V), σ' = [some v, some (.ref xl), v2, v3] ∧ Same H H' ∧ Th H' v d ∧ Ws d m ∧ m ≤ 13 + i) ⟨v1, d1, m1, _, _, rfl, s1, t1, w1, by omega⟩ ?_ ?_
      · clear t1 w1 l1 s1 exl1
        rintro i σ' H1 hi ⟨v, d, m, v2, v3, rfl, s1, t1, w1, l1⟩
        rw [Int.zero_add]
        have exl1 := s1 _ _ exl
        refine ⟨n3, fun p hp => ?_⟩
        have s3 : Same H1 (upd H1 p (.lst (sJoin.map V.str))) := Same.new hp
        obtain ⟨wd, hwd, ewd⟩ := at_strs sJoin (j := (ns.getD (2 : Int).toNat 0 + (i : Int)) % 3) (Int.emod_nonneg _ (by decide)) (Int.emod_lt_of_pos _ (by decide))
        refine ⟨_, rfl, xl, _, _, _, rfl, rfl, SqL.of (s3 _ _ exl1), at_int (by omega) (by omega), _, rfl, _, _, rfl, rfl, _, _, rfl, rfl, (by show (0 : Int) < 3; decide), p, _, _, _, rfl, rfl, SqL.of upd_same, ewd, _, rfl, _, rfl, n3, fun p2 hp2 => ?_⟩
        have s4 := Same.new (o := .tup [.str wd, v, v]) hp2
        exact ⟨_, _, _, _, _, rfl, (s1.trans s3).trans s4, .tup upd_same (by simp) (.cons (.str wd) (.cons (t1.same (s3.trans s4)) (.cons (t1.same (s3.trans s4)) .nil))), .join hwd w1 w1, by omega⟩
      · rintro σ' H1 ⟨v, d, m, v2, v3, rfl, s1, t1, w1, l1⟩
        exact hk _ _ ⟨v, d, m, v2, v3, rfl, s1, t1, w1, by omega⟩
    rintro σ' H2 ⟨v, d, m, v2, v3, rfl, s2, t2, w2, l2⟩
    exact ⟨_, rfl, q _ _ m _ s2 t2 w2 l2⟩
end
end M
namespace M
open PySem L2
/-! ### _law_bad -/
def od0 : List PyData := [.tuple [], .list [], .none, .bool true, .int 7, .str "shy", .tuple [.str "nor"], .tuple [.str "Closed"], .tuple [.str "closed", .tuple []], .tuple [.int 7], .tuple [.none, .int 1, .int 2], .tuple [.str "and", .tuple [.str "shy"]]]
def od1 : List PyData := [.tuple [.str "open"], .tuple [.str "shy "], .tuple [.str "with"], .tuple [.str "with", .list [.int 1]], .tuple [.str "with", .tuple [.int 1, .bool true]], .tuple [.str "off", .tuple [.int (-1)]], .tuple [.str "over", .tuple [.str "1"]]]
def od2 : List PyData := [.tuple [.str "past", .tuple [.int 10000]], .tuple [.str "past", .int 3], .tuple [.str "with", .str "12"], .tuple [.str "open", .int 1], .tuple [.str "open", .bool true, .int 2], .tuple [.str "open", .int 1, .int (-1)]]
def od3 : List PyData := [.tuple [.str "open", .int 10000, .int 1], .tuple [.str "open", .str "1", .int 2], .tuple [.str "long", .int 2, .none], .tuple [.str "long", .bool false, .int 2], .tuple [.str "long", .int 1, .int 2, .int 3]]
def od4 : List PyData := [.tuple [.str "open", .tuple [.int 1], .int 2], .tuple [.str "or", .tuple [.str "shy"], .list [.str "all"]], .tuple [.str "but", .tuple [.str "all"], .none], .tuple [.str "and", .tuple [.tuple [.str "shy"], .tuple [.str "all"]]]]
def od5 : List PyData := [.tuple [.str "off", .tuple [.int 1, .int 2, .list []]], .tuple [.str "over", .none], .tuple [.str "all", .str "all"], .tuple [.str "or", .str "shy", .tuple [.str "all"]], .tuple [.str "long", .int 0, .int 1000000000000000000000000000000]]
def AllN : List PyData → Prop
  | [] => True
  | d :: ds => Non d ∧ AllN ds
theorem AllN.app : ∀ {ds es : List PyData}, AllN ds → AllN es → AllN (ds ++ es)
  | [], _, _, h => h
  | _ :: _, _, h, k => ⟨h.1, AllN.app h.2 k⟩
theorem AllN.get : ∀ {ds : List PyData} {i : Nat} {d : PyData}, AllN ds → ds[i]? = some d → Non d
  | [], _, _, _, e => by simp at e
  | _ :: _, 0, _, h, e => by
    simp at e
    subst e
    exact h.1
  | _ :: _, i + 1, _, h, e => by
    rw [List.getElem?_cons_succ] at e
    exact AllN.get h.2 e
theorem _root_.L2.Ths.withN {H : Hp} {xs : List V} {ds : List PyData} (h : Ths H xs ds) (a : AllN ds) : Ths H xs ds ∧ AllN ds := ⟨h, a⟩
theorem _root_.L2.Ws.two {w : Str} {rest : List PyData} {m : Nat} (h : Ws (.tuple (.str w :: rest)) m) : rest.length ≤ 2 := by
  cases h with
  | leaf h =>
    unfold leafB at h
    by_cases h1 : w ∈ sBare
    · rw [if_pos h1] at h
      match rest, h with
      | [], _ => exact Nat.zero_le _
    rw [if_neg h1] at h
    by_cases h2 : w ∈ sPair
    · rw [if_pos h2] at h
      match rest, h with
      | [a, b], _ => exact Nat.le_refl _
    rw [if_neg h2] at h
    by_cases h3 : w ∈ sFour
    · rw [if_pos h3] at h
      match rest, h with
      | [.tuple ds], _ => exact Nat.le_succ _
    rw [if_neg h3] at h
    cases h
  | join hw _ _ => exact Nat.le_refl _
theorem lit_swap {n : Nat} {e : Expr} {d : PyData} (h : litD n e = some d) (t : Option Expr) (l : Nat) (env : Env) : swapsWith e t l env = pure false := by
  cases n with
  | zero => cases h
  | succ n =>
    unfold litD at h
    split at h <;> first | rfl | cases h
theorem bad_body : ∃ L0 L1 L2 L3 L4 L5 p0 p1 p2 p3 p4 p5 q0 q1 q2 q3 q4 q5 r1 r2 r3 r4 r5 s1 s2 s3 s4 s5, defBody sBad = .Assign [.Name "odd" p0] L0 q0 :: .Assign [.Name "odd" p1] (.BinOp (.Name "odd" r1) .Add L1 s1) q1 :: .Assign [.Name "odd" p2] (.BinOp (.Name "odd" r2) .Add L2 s2) q2 :: .Assign [.Name "odd" p3] (.BinOp (.Name "odd" r3) .Add L3 s3) q3 :: .Assign [.Name "odd" p4] (.BinOp (.Name "odd" r4) .Add L4 s4) q4 :: .Assign [.Name "odd" p5] (.BinOp (.Name "odd" r5) .Add L5 s5) q5 :: (defBody sBad).drop 6 ∧ litD 5 L0 = some (.list od0) ∧ litD 5 L1 = some (.list od1) ∧ litD 5 L2 = some (.list od2) ∧ litD 5 L3 = some (.list od3) ∧ litD 5 L4 = some (.list od4) ∧ litD 5 L5 = some (.list od5) := by
  refine ⟨_, _, _, _, _, _, _, _, _, _, _, _, _, _, _, _, _, _, _, _, _, _, _, _, _, _, _, _, rfl, ?_, ?_, ?_, ?_, ?_, ?_⟩ <;> kernel_rfl
section
variable {P : Program} {w : World} {K : PySem.W.Frag} {mg : Str → Option Value} {base : Heap}
def TellN (H : Hp) (Q : VK) : Prop := ∀ (v : V) (d : PyData) (H' : Hp), Same H H' → Th H' v d → Non d → Q v H'
def spBad : Sp := fun vs H Q _ => ∃ (v : V) (d : PyData) (m : Nat) (num : Int), vs = [v, .int num] ∧ Th H v d ∧ Ws d m ∧ TellN H Q
theorem scBad : FnScope ["wish", "number", "odd", "at"] ["wish", "number"] (defScope sBad) := ⟨rfl, rfl, rfl, by decide +kernel, rfl, by decide +kernel, by decide +kernel⟩
theorem ok_bad {f : Addr} {fd : FuncData} (F : Fun K "_law_bad" "_law_bad" sBad f fd) (mLen : mg "len" = none) (mLst : mg "list" = none) : FnOk P w K mg base CX0 1 f fd ["wish", "number"] spBad := by
  refine F.ok scBad (fun vs H Q E h => ?_) (fun cdv A outer s H vs Q E hr h => ?_)
  · obtain ⟨_, _, _, _, rfl, _⟩ := h
    rfl
  · obtain ⟨v, d, m, num, rfl, th, ws, q⟩ := h
    have h16 : (16777216 : Nat) = sizeLine := sizeLine_eq.symm
    obtain ⟨L0, L1, L2, L3, L4, L5, p0, p1, p2, p3, p4, p5, q0, q1, q2, q3, q4, q5, r1, r2, r3, r4, r5, s1, s2, s3, s4, s5, hb, h0, h1, h2, h3, h4, h5⟩ := bad_body
    rw [hb]
    clear hb
    refine ⟨_, pss_cons (ps_set (i := 2) scBad.nd rfl (Or.inl rfl) (pe_lit 5 h0) (hs := lit_swap h0 _ _ _))
       (pss_cons (ps_set (i := 2) scBad.nd rfl (Or.inl rfl) (pe_op op_cat (pv 2) (pe_lit 5 h1)))
       (pss_cons (ps_set (i := 2) scBad.nd rfl (Or.inl rfl) (pe_op op_cat (pv 2) (pe_lit 5 h2)))
       (pss_cons (ps_set (i := 2) scBad.nd rfl (Or.inl rfl) (pe_op op_cat (pv 2) (pe_lit 5 h3)))
       (pss_cons (ps_set (i := 2) scBad.nd rfl (Or.inl rfl) (pe_op op_cat (pv 2) (pe_lit 5 h4)))
       (pss_cons (ps_set (i := 2) scBad.nd rfl (Or.inl rfl) (pe_op op_cat (pv 2) (pe_lit 5 h5)))
       (pss_cons (ps_set (i := 3) scBad.nd rfl (Or.inl rfl) (pe_op op_mod (pv 1) (pe_op op_add (pe_callB (kLen K) rfl mLen PySem.boot_len (pa_cons (pv 2) pa_nil)) pe_int)))
       (pss_cons (ps_if (pt_cmpR op_eq (pv 3) (pe_callB (kLen K) rfl mLen PySem.boot_len (pa_cons (pv 2) pa_nil)) (nomark _)) (pss_one (ps_ret (pe_callTy (kListOf K) rfl mLst boot_list (pa_cons (pv 0) pa_nil)))) pss_nil)
       (pss_cons (ps_if (pt_cmpR op_eq (pv 3) (pe_op op_add (pe_callB (kLen K) rfl mLen PySem.boot_len (pa_cons (pv 2) pa_nil)) pe_int) (nomark _)) (pss_one (ps_ret (pe_op (kCatT K) (pv 0) (pe_tup (pa_cons (pe_ix (kIxT K) (pv 0) pe_int (fun _ _ => rfl)) pa_nil))))) pss_nil)
       (pss_cons (ps_if (pt_cmpR op_eq (pv 3) (pe_op op_add (pe_callB (kLen K) rfl mLen PySem.boot_len (pa_cons (pv 2) pa_nil)) pe_int) (nomark _)) (pss_one (ps_ret (pe_slice (kSlT K) (pv 0) po_none (po_some (pe_op op_sub (pe_callB (kLen K) rfl mLen PySem.boot_len (pa_cons (pv 0) pa_nil)) pe_int))))) pss_nil)
       (pss_one (ps_ret (pe_ix (kIxL K) (pv 2) (pv 3) (fun _ _ => rfl))))))))))))), ?_⟩
    clear h0 h1 h2 h3 h4 h5
    intro o1 H1 s1 th1
    cases th1 with
    | @lst l1 y1 ds1 ec1 z1 hs1 =>
    have b1 := Ths.withN hs1 (by repeat' first | exact trivial | refine And.intro (by first | exact Non.flat (by decide +kernel) (by decide +kernel) | exact (fun n => by cases n <;> rfl) | exact Non.right (by decide +kernel) (fun n => by cases n <;> rfl) | exact Non.left (by decide +kernel) (fun n => by cases n <;> rfl)) ?_)
    have m1 : y1.length = 12 := hs1.len
    have S1 := s1
    have T1 := b1.1
    have A1 := b1.2
    refine ⟨_, rfl, fun o2 H2 s2 th2 => ?_⟩
    cases th2 with
    | @lst l2 x2 ds2 e2 z2 hs2 =>
    have b2 := Ths.withN hs2 (by repeat' first | exact trivial | refine And.intro (by first | exact Non.flat (by decide +kernel) (by decide +kernel) | exact (fun n => by cases n <;> rfl) | exact Non.right (by decide +kernel) (fun n => by cases n <;> rfl) | exact Non.left (by decide +kernel) (fun n => by cases n <;> rfl)) ?_)
    have n2 : x2.length = 7 := hs2.len
    refine ⟨_, _, _, _, rfl, rfl, s2 _ _ ec1, e2, by omega, fun c2 hc2 => ?_⟩
    have u2 : Same H2 (upd H2 c2 (.lst (y1 ++ x2))) := Same.new hc2
    have ec2 : upd H2 c2 (.lst (y1 ++ x2)) c2 = some (.lst (y1 ++ x2)) := upd_same
    have S2 := (S1.trans s2).trans u2
    obtain ⟨y2, hy2⟩ : ∃ y, y = y1 ++ x2 := ⟨_, rfl⟩
    have T2 := (((T1.same s2).same u2).app (b2.1.same u2))
    have A2 := A1.app b2.2
    have m2 : y2.length ≤ 24 := by rw [hy2, List.length_append]; omega
    rw [← hy2] at u2 ec2 S2 T2 ⊢
    generalize upd H2 c2 (.lst y2) = G2 at u2 ec2 S2 T2 ⊢
    refine ⟨_, rfl, fun o3 H3 s3 th3 => ?_⟩
    cases th3 with
    | @lst l3 x3 ds3 e3 z3 hs3 =>
    have b3 := Ths.withN hs3 (by repeat' first | exact trivial | refine And.intro (by first | exact Non.flat (by decide +kernel) (by decide +kernel) | exact (fun n => by cases n <;> rfl) | exact Non.right (by decide +kernel) (fun n => by cases n <;> rfl) | exact Non.left (by decide +kernel) (fun n => by cases n <;> rfl)) ?_)
    have n3 : x3.length = 6 := hs3.len
    refine ⟨_, _, _, _, rfl, rfl, s3 _ _ ec2, e3, by omega, fun c3 hc3 => ?_⟩
    have u3 : Same H3 (upd H3 c3 (.lst (y2 ++ x3))) := Same.new hc3
    have ec3 : upd H3 c3 (.lst (y2 ++ x3)) c3 = some (.lst (y2 ++ x3)) := upd_same
    have S3 := (S2.trans s3).trans u3
    obtain ⟨y3, hy3⟩ : ∃ y, y = y2 ++ x3 := ⟨_, rfl⟩
    have T3 := (((T2.same s3).same u3).app (b3.1.same u3))
    have A3 := A2.app b3.2
    have m3 : y3.length ≤ 36 := by rw [hy3, List.length_append]; omega
    rw [← hy3] at u3 ec3 S3 T3 ⊢
    generalize upd H3 c3 (.lst y3) = G3 at u3 ec3 S3 T3 ⊢
    refine ⟨_, rfl, fun o4 H4 s4 th4 => ?_⟩
    cases th4 with
    | @lst l4 x4 ds4 e4 z4 hs4 =>
    have b4 := Ths.withN hs4 (by repeat' first | exact trivial | refine And.intro (by first | exact Non.flat (by decide +kernel) (by decide +kernel) | exact (fun n => by cases n <;> rfl) | exact Non.right (by decide +kernel) (fun n => by cases n <;> rfl) | exact Non.left (by decide +kernel) (fun n => by cases n <;> rfl)) ?_)
    have n4 : x4.length = 5 := hs4.len
    refine ⟨_, _, _, _, rfl, rfl, s4 _ _ ec3, e4, by omega, fun c4 hc4 => ?_⟩
    have u4 : Same H4 (upd H4 c4 (.lst (y3 ++ x4))) := Same.new hc4
    have ec4 : upd H4 c4 (.lst (y3 ++ x4)) c4 = some (.lst (y3 ++ x4)) := upd_same
    have S4 := (S3.trans s4).trans u4
    obtain ⟨y4, hy4⟩ : ∃ y, y = y3 ++ x4 := ⟨_, rfl⟩
    have T4 := (((T3.same s4).same u4).app (b4.1.same u4))
    have A4 := A3.app b4.2
    have m4 : y4.length ≤ 48 := by rw [hy4, List.length_append]; omega
    rw [← hy4] at u4 ec4 S4 T4 ⊢
    generalize upd H4 c4 (.lst y4) = G4 at u4 ec4 S4 T4 ⊢
    refine ⟨_, rfl, fun o5 H5 s5 th5 => ?_⟩
    cases th5 with
    | @lst l5 x5 ds5 e5 z5 hs5 =>
    have b5 := Ths.withN hs5 (show AllN od4 from ⟨Non.flat (by decide +kernel) (by decide +kernel), Non.right (by decide +kernel) (Non.list _), Non.right (by decide +kernel) (fun n => by cases n <;> rfl), Non.flat (by decide +kernel) (by decide +kernel), trivial⟩)
    have n5 : x5.length = 4 := hs5.len
    refine ⟨_, _, _, _, rfl, rfl, s5 _ _ ec4, e5, by omega, fun c5 hc5 => ?_⟩
    have u5 : Same H5 (upd H5 c5 (.lst (y4 ++ x5))) := Same.new hc5
    have ec5 : upd H5 c5 (.lst (y4 ++ x5)) c5 = some (.lst (y4 ++ x5)) := upd_same
    have S5 := (S4.trans s5).trans u5
    obtain ⟨y5, hy5⟩ : ∃ y, y = y4 ++ x5 := ⟨_, rfl⟩
    have T5 := (((T4.same s5).same u5).app (b5.1.same u5))
    have A5 := A4.app b5.2
    have m5 : y5.length ≤ 60 := by rw [hy5, List.length_append]; omega
    rw [← hy5] at u5 ec5 S5 T5 ⊢
    generalize upd H5 c5 (.lst y5) = G5 at u5 ec5 S5 T5 ⊢
    refine ⟨_, rfl, fun o6 H6 s6 th6 => ?_⟩
    cases th6 with
    | @lst l6 x6 ds6 e6 z6 hs6 =>
    have b6 := Ths.withN hs6 (show AllN od5 from ⟨Non.flat (by decide +kernel) (by decide +kernel), Non.flat (by decide +kernel) (by decide +kernel), Non.flat (by decide +kernel) (by decide +kernel), Non.left (by decide +kernel) (fun n => by cases n <;> rfl), Non.flat (by decide +kernel) (by decide +kernel), trivial⟩)
    have n6 : x6.length = 5 := hs6.len
    refine ⟨_, _, _, _, rfl, rfl, s6 _ _ ec5, e6, by omega, fun c6 hc6 => ?_⟩
    have u6 : Same H6 (upd H6 c6 (.lst (y5 ++ x6))) := Same.new hc6
    have ec6 : upd H6 c6 (.lst (y5 ++ x6)) c6 = some (.lst (y5 ++ x6)) := upd_same
    have S6 := (S5.trans s6).trans u6
    obtain ⟨y6, hy6⟩ : ∃ y, y = y5 ++ x6 := ⟨_, rfl⟩
    have T6 := (((T5.same s6).same u6).app (b6.1.same u6))
    have A6 := A5.app b6.2
    have m6 : y6.length ≤ 72 := by rw [hy6, List.length_append]; omega
    rw [← hy6] at u6 ec6 S6 T6 ⊢
    generalize upd H6 c6 (.lst y6) = G6 at u6 ec6 S6 T6 ⊢
    obtain ⟨wd, rest, rfl⟩ := ws.shape
    cases th with
    | @tup a xw _ ew zw hw =>
    cases hw with
    | @cons _ _ vs1 _ tw hr1 =>
    cases tw
    have ew6 := S6 _ _ ew
    have hpos : (0 : Int) < (y6.length : Int) + 3 := by omega
    dsimp only [gName]
    refine seq_mid (fun σ' H' => ∃ aN : Nat, σ' = [some (.ref a), some (.int num), some (.ref c6), some (.int (aN : Int))] ∧ G6 = H' ∧ aN < y6.length + 3) ?sa ?fa
    case fa =>
      intro hk
      refine ⟨_, rfl, _, rfl, c6, _, rfl, .inl (SqL.of ec6), _, _, rfl, rfl, _, _, rfl, rfl, hpos, ?_⟩
      obtain ⟨aN, haN⟩ := Int.eq_ofNat_of_zero_le (Int.emod_nonneg num (Int.ne_of_gt hpos))
      have hlt := Int.emod_lt_of_pos num hpos
      rw [haN] at hlt
      exact hk _ _ ⟨aN, by rw [← haN]; rfl, rfl, by omega⟩
    rintro σ' H' ⟨aN, rfl, rfl, haN⟩
    have hlw : (.str wd :: vs1 : List V).length = rest.length + 1 := by rw [List.length_cons, hr1.len]
    have tw6 : Ths G6 (.str wd :: vs1) (.str wd :: rest) := .cons (.str wd) (hr1.same S6)
    refine ⟨_, rfl, _, rfl, c6, _, rfl, .inl (SqL.of ec6), rfl, _, rfl, ite2 (fun _ => ?_) (fun g1 => ?_)⟩
    · refine ⟨_, rfl, a, _, rfl, .inr (SqT.of ew6), fun l hl => ?_⟩
      have u := Same.new (o := .lst (.str wd :: vs1)) hl
      exact q _ (.list (.str wd :: rest)) _ (S6.trans u) (.lst upd_same zw (tw6.same u)) (Non.list _)
    dsimp only [tNext]
    refine ⟨_, rfl, _, rfl, c6, _, rfl, .inl (SqL.of ec6), _, _, rfl, rfl, rfl, _, rfl, ite2 (fun _ => ?_) (fun g2 => ?_)⟩
    · refine ⟨_, rfl, _, rfl, a, _, _, _, rfl, rfl, SqT.of ew6, atI_nat (j := 0) rfl, (by show 1 ≤ sizeLine; omega), fun t ht => ?_⟩
      have u1 : Same G6 (upd G6 t (.tup [.str wd])) := Same.new ht
      have e1 : upd G6 t (.tup [.str wd]) t = some (.tup [.str wd]) := upd_same
      refine ⟨a, t, _, _, rfl, rfl, SqT.of (u1 _ _ ew6), SqT.of e1, (by simp), (by show (.str wd :: vs1 : List V).length + 1 ≤ sizeLine; omega), fun h => absurd h (by simp), fun _ p hp => ?_⟩
      have u2 := Same.new (o := .tup ((.str wd :: vs1) ++ [.str wd])) hp
      refine q _ (.tuple ((.str wd :: rest) ++ [.str wd])) _ ((S6.trans u1).trans u2) (.tup upd_same ?_ (((tw6.same u1).same u2).app (.cons (.str wd) .nil))) ?_
      · rw [List.length_append, List.length_singleton]
        have := ws.two
        omega
      · rw [List.cons_append]
        exact ws.more
    dsimp only [tNext]
    refine ⟨_, rfl, _, rfl, c6, _, rfl, .inl (SqL.of ec6), _, _, rfl, rfl, rfl, _, rfl, ite2 (fun _ => ?_) (fun g3 => ?_)⟩
    · refine ⟨_, rfl, _, rfl, a, _, rfl, .inr (SqT.of ew6), _, _, rfl, rfl, _, rfl, a, _, rfl, SqT.of ew6, ?_, fun p hp => ?_⟩
      · rintro ⟨_, z⟩
        rw [show (((.str wd :: vs1 : List V).length : Int) - 1) = ((rest.length : Nat) : Int) by rw [hlw]; omega, HT.sIx_nat, hlw] at z
        omega
      have e1 : (((.str wd :: vs1 : List V).length : Int) - 1) = ((rest.length : Nat) : Int) := by rw [hlw]; omega
      rw [e1, cut_to]
      have u2 := Same.new (o := .tup ((.str wd :: vs1).take rest.length)) hp
      refine q _ (.tuple ((.str wd :: rest).take rest.length)) _ (S6.trans u2) (.tup upd_same ?_ ((tw6.same u2).take _)) ws.less
      rw [List.length_take]
      omega
    dsimp only [tNext]
    have g1' : aN ≠ y6.length := fun z => g1 (by rw [z]; exact decide_eq_true rfl)
    have g2' : aN ≠ y6.length + 1 := fun z => g2 (by rw [z]; exact decide_eq_true rfl)
    have g3' : aN ≠ y6.length + 2 := fun z => g3 (by rw [z]; exact decide_eq_true rfl)
    have hlt : aN < y6.length := by omega
    obtain ⟨dd, gd, td⟩ := T6.get (List.getElem?_eq_getElem hlt)
    refine ⟨_, rfl, _, rfl, c6, _, _, _, rfl, rfl, SqL.of ec6, atI_nat (List.getElem?_eq_getElem hlt), ?_⟩
    exact q _ _ _ S6 td (A6.get gd)
end
end M
namespace M
open PySem L2
section
variable {P : Program} {w : World} {K : PySem.W.Frag} {mg : Str → Option Value} {base : Heap}
/-! ### _law_turned -/
def spTur (m : Nat) : Sp := fun vs H Q _ => ∃ (v : V) (d : PyData) (k : Nat) (ways num : Int), vs = [v, .int ways, .int num] ∧ Th H v d ∧ Ws d k ∧ k ≤ m ∧ TellN H Q
theorem scTur : FnScope ["wish", "ways", "number"] ["wish", "ways", "number"] (defScope sTur) := ⟨rfl, rfl, rfl, by decide +kernel, rfl, by decide +kernel, by decide +kernel⟩
theorem ok_tur {f fB : Addr} {fd fdB : FuncData} (FT : Fun K "_law_turned" "_law_turned" sTur f fd) (bT : Binds K fd ["wish", "ways", "number"] []) (mT : mg "_law_turned" = some (.ref f)) (FB : Fun K "_law_bad" "_law_bad" sBad fB fdB) (bB : Binds K fdB ["wish", "number"] []) (mB : mg "_law_bad" = some (.ref fB)) (k : Kits K)
    (mLen : mg "len" = none) (mLst : mg "list" = none) (mIsi : mg "isinstance" = none) (mTup : mg "tuple" = none) : ∀ m, FnOk P w K mg base CX0 (m + 1) f fd ["wish", "ways", "number"] (spTur m)
  | 0 => ⟨fun vs H Q E h => by obtain ⟨_, _, _, _, _, _, _, w1, z, _⟩ := h; have := w1.pos; omega, fun A outer s H args us vs Q E _ _ _ _ h => by obtain ⟨_, _, _, _, _, _, _, w1, z, _⟩ := h; have := w1.pos; omega⟩
  | m + 1 => by
    have GT := ok_tur FT bT mT FB bB mB k mLen mLst mIsi mTup m
    have GB : FnOk P w K mg base CX0 1 fB fdB ["wish", "number"] spBad := ok_bad FB mLen mLst
    refine FT.ok scTur (fun vs H Q E h => ?_) (fun cdv A outer s H vs Q E hr h => ?_)
    · obtain ⟨_, _, _, _, _, rfl, _⟩ := h
      rfl
    · obtain ⟨v, d, kk, ways, num, rfl, th, ws, hk, q⟩ := h
      have h16 : (16777216 : Nat) = sizeLine := sizeLine_eq.symm
      have n3 : 3 ≤ sizeLine := by omega
      refine ⟨_, pss_cons (ps_if (PW.pt (pw_and (pt_cmpR op_eq (pe_callB (kLen K) rfl mLen PySem.boot_len (pa_cons (pv 0) pa_nil)) pe_int (nomark _)) (pw_and (pt_val (pe_callB (kIsi K) rfl mIsi boot_isi (pa_cons (pe_ix (kIxT K) (pv 0) pe_int (fun _ _ => rfl)) (pa_cons (pe_typ mTup boot_tuple) pa_nil)))) (pw_and1 (pt_cmpR op_eq (pe_op op_mod (pv 1) pe_int) pe_int (nomark _)))))) (pss_one (ps_ret (pe_tup (pa_cons (pe_ix (kIxT K) (pv 0) pe_int (fun _ _ => rfl)) (pa_cons (pe_call GT hr rfl mT FT.kp bT .nil pass0 (pa_cons (pe_ix (kIxT K) (pv 0) pe_int (fun _ _ => rfl)) (pa_cons (pe_op op_fdivB (pv 1) pe_int) (pa_cons (pv 2) pa_nil)))) (pa_cons (pe_ix (kIxT K) (pv 0) pe_int (fun _ _ => rfl)) pa_nil)))))) pss_nil)
       (pss_cons (ps_if (PW.pt (pw_and (pt_cmpR op_eq (pe_callB (kLen K) rfl mLen PySem.boot_len (pa_cons (pv 0) pa_nil)) pe_int (nomark _)) (pw_and (pt_val (pe_callB (kIsi K) rfl mIsi boot_isi (pa_cons (pe_ix (kIxT K) (pv 0) pe_int (fun _ _ => rfl)) (pa_cons (pe_typ mTup boot_tuple) pa_nil)))) (pw_and1 (pt_cmpR op_eq (pe_op op_mod (pv 1) pe_int) pe_int (nomark _)))))) (pss_one (ps_ret (pe_tup (pa_cons (pe_ix (kIxT K) (pv 0) pe_int (fun _ _ => rfl)) (pa_cons (pe_ix (kIxT K) (pv 0) pe_int (fun _ _ => rfl)) (pa_cons (pe_call GT hr rfl mT FT.kp bT .nil pass0 (pa_cons (pe_ix (kIxT K) (pv 0) pe_int (fun _ _ => rfl)) (pa_cons (pe_op op_fdivB (pv 1) pe_int) (pa_cons (pv 2) pa_nil)))) pa_nil)))))) pss_nil)
       (pss_one (ps_ret (pe_call GB (hr.mono (by omega)) rfl mB FB.kp bB .nil pass0 (pa_cons (pv 0) (pa_cons (pv 2) pa_nil)))))), ?_⟩
      have ws0 := ws
      have th0 := th
      cases ws with
      | @leaf wd rest hl =>
        cases th with
        | @tup a _ _ ea za hs =>
        cases hs with
        | @cons _ _ vs1 _ tw hr1 =>
        cases tw
        have hvl := hr1.len
        by_cases h2 : rest.length = 2
        · obtain ⟨vx, vy, dx, dy, tx, ty, rfl, rfl⟩ : ∃ va vb da db, ∃ (ta : Th H va da) (tb : Th H vb db), vs1 = [va, vb] ∧ rest = [da, db] := by
            cases hr1 with
            | nil => exact absurd h2 (by decide)
            | cons t1 r1 =>
              cases r1 with
              | nil => exact absurd h2 (by simp)
              | cons t2 r2 =>
                cases r2 with
                | nil => exact ⟨_, _, _, _, t1, t2, rfl, rfl⟩
                | cons t3 r3 => exact absurd h2 (by simp)
          obtain ⟨i, rfl⟩ := leaf_three hl
          cases tx
          refine ⟨_, rfl, a, _, rfl, .inr (SqT.of ea), rfl, _, rfl, iteT ?_⟩
          refine ⟨_, rfl, a, _, _, _, rfl, rfl, SqT.of ea, atI_nat (j := 1) rfl, _, _, false, rfl, ⟨_, rfl, iteF (iteF ?_)⟩, .inl ⟨_, .int _, rfl, k.it⟩⟩
          dsimp only [tNext]
          refine ⟨_, rfl, a, _, rfl, .inr (SqT.of ea), rfl, _, rfl, iteT ?_⟩
          refine ⟨_, rfl, a, _, _, _, rfl, rfl, SqT.of ea, atI_nat (j := 1) rfl, _, _, false, rfl, ⟨_, rfl, iteF (iteF ?_)⟩, .inl ⟨_, .int _, rfl, k.it⟩⟩
          dsimp only [tNext]
          exact ⟨_, rfl, _, rfl, _, _, _, _, rfl, th0, ws0, q⟩
        · have c3 : ¬ decide (V.int ((V.str wd :: vs1).length : Int) = V.int 3) = true := fun z => by
            have := V.int.inj (of_decide_eq_true z)
            rw [List.length_cons] at this
            omega
          refine ⟨_, rfl, a, _, rfl, .inr (SqT.of ea), rfl, _, rfl, ite2 (fun z => absurd z c3) (fun _ => iteF ?_)⟩
          dsimp only [tNext]
          refine ⟨_, rfl, a, _, rfl, .inr (SqT.of ea), rfl, _, rfl, ite2 (fun z => absurd z c3) (fun _ => iteF ?_)⟩
          dsimp only [tNext]
          exact ⟨_, rfl, _, rfl, _, _, _, _, rfl, th0, ws0, q⟩
      | @join wd da db m1 m2 hw wa wb =>
        cases th with
        | @tup a _ _ ea za hs =>
        cases hs with
        | @cons _ _ vs1 _ tw hr1 =>
        cases hr1 with
        | @cons va _ vs2 _ ta hr2 =>
        cases hr2 with
        | @cons vb _ vs3 _ tb hr3 =>
        cases hr3
        cases tw
        have hta := ta
        obtain ⟨_, _, rfl⟩ := wa.shape
        cases ta with
        | @tup aa _ _ eaa _ _ =>
        refine ⟨_, rfl, a, _, rfl, .inr (SqT.of ea), rfl, _, rfl, iteT ?_⟩
        refine ⟨_, rfl, a, _, _, _, rfl, rfl, SqT.of ea, atI_nat (j := 1) rfl, _, _, true, rfl, ⟨_, rfl, iteT ?_⟩, .inl ⟨_, .tup eaa, rfl, kit_self⟩⟩
        refine ⟨_, rfl, _, _, rfl, rfl, (by show (0 : Int) < 3; decide), rfl, _, rfl, ite2 (fun _ => ?_) (fun _ => ?_)⟩
        · refine ⟨_, rfl, a, _, _, _, rfl, rfl, SqT.of ea, atI_nat (j := 0) rfl, _, rfl, a, _, _, _, rfl, rfl, SqT.of ea, atI_nat (j := 1) rfl, _, rfl, _, _, rfl, rfl, ⟨by decide, lt2_lit⟩, _, rfl, ?_⟩
          refine ⟨_, _, m1, _, _, rfl, hta, wa, by omega, fun v' d' H' s' t' n' => ?_⟩
          refine ⟨_, rfl, a, _, _, _, rfl, rfl, SqT.of (s' _ _ ea), atI_nat (j := 2) rfl, n3, fun p hp => ?_⟩
          have u := Same.new (o := .tup [.str wd, v', vb]) hp
          exact q _ _ _ (s'.trans u) (.tup upd_same (by simp) (.cons (.str wd) (.cons (t'.same u) (.cons ((tb.same s').same u) .nil)))) (Non.left hw n')
        dsimp only [tNext]
        refine ⟨_, rfl, a, _, rfl, .inr (SqT.of ea), rfl, _, rfl, iteT ?_⟩
        refine ⟨_, rfl, a, _, _, _, rfl, rfl, SqT.of ea, atI_nat (j := 1) rfl, _, _, true, rfl, ⟨_, rfl, iteT ?_⟩, .inl ⟨_, .tup eaa, rfl, kit_self⟩⟩
        refine ⟨_, rfl, _, _, rfl, rfl, (by show (0 : Int) < 3; decide), rfl, _, rfl, ite2 (fun _ => ?_) (fun _ => ?_)⟩
        · refine ⟨_, rfl, a, _, _, _, rfl, rfl, SqT.of ea, atI_nat (j := 0) rfl, _, rfl, a, _, _, _, rfl, rfl, SqT.of ea, atI_nat (j := 1) rfl, _, rfl, a, _, _, _, rfl, rfl, SqT.of ea, atI_nat (j := 2) rfl, _, rfl, _, _, rfl, rfl, ⟨by decide, lt2_lit⟩, _, rfl, ?_⟩
          refine ⟨_, _, m2, _, _, rfl, tb, wb, by omega, fun v' d' H' s' t' n' => ?_⟩
          refine ⟨n3, fun p hp => ?_⟩
          have u := Same.new (o := .tup [.str wd, .ref aa, v']) hp
          exact q _ _ _ (s'.trans u) (.tup upd_same (by simp) (.cons (.str wd) (.cons ((hta.same s').same u) (.cons (t'.same u) .nil)))) (Non.right hw n')
        dsimp only [tNext]
        exact ⟨_, rfl, _, rfl, _, _, _, _, rfl, th0, ws0, q⟩
/-! ### _law_depth -/
def spDep (m : Nat) : Sp := fun vs H Q _ => ∃ (v : V) (d : PyData) (k : Nat), vs = [v] ∧ Th H v d ∧ Ws d k ∧ k ≤ m ∧ Q (.int (k : Int)) H
theorem scDep : FnScope ["wish"] ["wish"] (defScope sDep) := ⟨rfl, rfl, rfl, by decide +kernel, rfl, by decide +kernel, by decide +kernel⟩
theorem ok_dep {f : Addr} {fd : FuncData} (FD : Fun K "_law_depth" "_law_depth" sDep f fd) (bD : Binds K fd ["wish"] []) (mD : mg "_law_depth" = some (.ref f)) (k : Kits K)
    (mLen : mg "len" = none) (mMax : mg "max" = none) (mIsi : mg "isinstance" = none) (mTup : mg "tuple" = none) : ∀ m, FnOk P w K mg base CX0 m f fd ["wish"] (spDep m)
  | 0 => ⟨fun vs H Q E h => by obtain ⟨_, _, _, _, _, w1, z, _⟩ := h; have := w1.pos; omega, fun A outer s H args us vs Q E _ _ _ _ h => by obtain ⟨_, _, _, _, _, w1, z, _⟩ := h; have := w1.pos; omega⟩
  | m + 1 => by
    have GD := ok_dep FD bD mD k mLen mMax mIsi mTup m
    refine FD.ok scDep (fun vs H Q E h => ?_) (fun cdv A outer s H vs Q E hr h => ?_)
    · obtain ⟨_, _, _, rfl, _⟩ := h
      rfl
    · obtain ⟨v, d, kk, rfl, th, ws, hk, q⟩ := h
      refine ⟨_, pss_cons (ps_if (PW.pt (pw_and (pt_cmpR op_eq (pe_callB (kLen K) rfl mLen PySem.boot_len (pa_cons (pv 0) pa_nil)) pe_int (nomark _)) (pw_and1 (pt_val (pe_callB (kIsi K) rfl mIsi boot_isi (pa_cons (pe_ix (kIxT K) (pv 0) pe_int (fun _ _ => rfl)) (pa_cons (pe_typ mTup boot_tuple) pa_nil))))))) (pss_one (ps_ret (pe_op op_add pe_int (pe_callB (call_max2 rfl) rfl mMax boot_max (pa_cons (pe_call GD hr rfl mD FD.kp bD .nil pass0 (pa_cons (pe_ix (kIxT K) (pv 0) pe_int (fun _ _ => rfl)) pa_nil)) (pa_cons (pe_call GD hr rfl mD FD.kp bD .nil pass0 (pa_cons (pe_ix (kIxT K) (pv 0) pe_int (fun _ _ => rfl)) pa_nil)) pa_nil)))))) pss_nil)
       (pss_one (ps_ret pe_int)), ?_⟩
      cases ws with
      | @leaf wd rest hl =>
        cases th with
        | @tup a _ _ ea za hs =>
        cases hs with
        | @cons _ _ vs1 _ tw hr1 =>
        cases tw
        have hvl := hr1.len
        by_cases h2 : rest.length = 2
        · obtain ⟨vx, vy, dx, dy, tx, ty, rfl, rfl⟩ : ∃ va vb da db, ∃ (ta : Th H va da) (tb : Th H vb db), vs1 = [va, vb] ∧ rest = [da, db] := by
            cases hr1 with
            | nil => exact absurd h2 (by decide)
            | cons t1 r1 =>
              cases r1 with
              | nil => exact absurd h2 (by simp)
              | cons t2 r2 =>
                cases r2 with
                | nil => exact ⟨_, _, _, _, t1, t2, rfl, rfl⟩
                | cons t3 r3 => exact absurd h2 (by simp)
          obtain ⟨i, rfl⟩ := leaf_three hl
          cases tx
          refine ⟨_, rfl, a, _, rfl, .inr (SqT.of ea), rfl, _, rfl, iteT ?_⟩
          refine ⟨_, rfl, a, _, _, _, rfl, rfl, SqT.of ea, atI_nat (j := 1) rfl, _, _, false, rfl, ⟨_, rfl, iteF ?_⟩, .inl ⟨_, .int _, rfl, k.it⟩⟩
          exact q
        · have c3 : ¬ decide (V.int ((V.str wd :: vs1).length : Int) = V.int 3) = true := fun z => by
            have := V.int.inj (of_decide_eq_true z)
            rw [List.length_cons] at this
            omega
          refine ⟨_, rfl, a, _, rfl, .inr (SqT.of ea), rfl, _, rfl, ite2 (fun z => absurd z c3) (fun _ => iteF ?_)⟩
          exact q
      | @join wd da db m1 m2 hw wa wb =>
        cases th with
        | @tup a _ _ ea za hs =>
        cases hs with
        | @cons _ _ vs1 _ tw hr1 =>
        cases hr1 with
        | @cons va _ vs2 _ ta hr2 =>
        cases hr2 with
        | @cons vb _ vs3 _ tb hr3 =>
        cases hr3
        cases tw
        have hta := ta
        obtain ⟨_, _, rfl⟩ := wa.shape
        cases ta with
        | @tup aa _ _ eaa _ _ =>
        refine ⟨_, rfl, a, _, rfl, .inr (SqT.of ea), rfl, _, rfl, iteT ?_⟩
        refine ⟨_, rfl, a, _, _, _, rfl, rfl, SqT.of ea, atI_nat (j := 1) rfl, _, _, true, rfl, ⟨_, rfl, iteT ?_⟩, .inl ⟨_, .tup eaa, rfl, kit_self⟩⟩
        refine ⟨_, rfl, a, _, _, _, rfl, rfl, SqT.of ea, atI_nat (j := 1) rfl, _, _, m1, rfl, hta, wa, by omega, ?_⟩
        refine ⟨_, rfl, a, _, _, _, rfl, rfl, SqT.of ea, atI_nat (j := 2) rfl, _, _, m2, rfl, tb, wb, by omega, ?_⟩
        refine ⟨_, _, rfl, _, _, rfl, rfl, ?_⟩
        have e : (1 : Int) + (if ((m2 : Nat) : Int) > ((m1 : Nat) : Int) then ((m2 : Nat) : Int) else ((m1 : Nat) : Int)) = ((max m1 m2 + 1 : Nat) : Int) := by
          split <;> omega
        show Q (.int _) H
        rw [e]
        exact q
end
end M
namespace M
open PySem L2
section
variable {P : Program} {w : World} {K : PySem.W.Frag} {mg : Str → Option Value} {base : Heap}
/-! ### law -/
theorem cut_six {ns : List Int} {lo : Nat} (h : lo + 6 ≤ ns.length) : cutV (ns.map V.int) (some (lo : Int)) (some ((lo + 6 : Nat) : Int)) = ((ns.drop lo).take 6).map V.int ∧ ((ns.drop lo).take 6).length = 6 := by
  constructor
  · unfold cutV
    rw [List.length_map, HT.sIx_nat, HT.sIx_nat, Nat.min_eq_left (by omega), Nat.min_eq_left (by omega), show lo + 6 - lo = 6 by omega, List.map_take, List.map_drop]
  · rw [List.length_take, List.length_drop]
    omega
theorem keep_small {H H' : Hp} {v : V} {d : PyData} (h : small d = true) (t : Th H v d) : Th H' v d := by
  cases t with
  | int i => exact .int i
  | _ => exact absurd h Bool.false_ne_true
theorem keep_smalls {H H' : Hp} : ∀ {vs : List V} {ds : List PyData}, ds.all small = true → Ths H vs ds → Ths H' vs ds
  | _, _, _, .nil => .nil
  | _, _, h, .cons a b => by
    rw [List.all_cons, Bool.and_eq_true] at h
    exact .cons (keep_small h.1 a) (keep_smalls h.2 b)
theorem keep_leaf {H H' : Hp} (k : ∀ t ys, H t = some (.tup ys) → H' t = some (.tup ys)) {wd : Str} {rest : List PyData} {vs : List V} (h : leafB wd rest = true) (t : Ths H vs rest) : Ths H' vs rest := by
  unfold leafB at h
  by_cases h1 : wd ∈ sBare
  · rw [if_pos h1] at h
    match rest, h, t with
    | [], _, .nil => exact .nil
  rw [if_neg h1] at h
  by_cases h2 : wd ∈ sPair
  · rw [if_pos h2] at h
    match rest, h, t with
    | [a, b], h, t =>
      exact keep_smalls (by simpa using h) t
  rw [if_neg h2] at h
  by_cases h3 : wd ∈ sFour
  · rw [if_pos h3] at h
    match rest, h, t with
    | [.tuple ds], h, .cons (.tup e z hh) .nil => exact .cons (.tup (k _ _ e) z (keep_smalls h hh)) .nil
  rw [if_neg h3] at h
  cases h
theorem _root_.L2.Ws.keep {H H' : Hp} (k : ∀ t ys, H t = some (.tup ys) → H' t = some (.tup ys)) {d : PyData} {m : Nat} (w : Ws d m) : ∀ {v : V}, Th H v d → Th H' v d := by
  induction w with
  | leaf h =>
    intro v t
    cases t with
    | tup e z hh =>
      cases hh with
      | cons a b =>
        cases a
        exact .tup (k _ _ e) z (.cons (.str _) (keep_leaf k h b))
  | join hw _ _ ih1 ih2 =>
    intro v t
    cases t with
    | tup e z hh =>
      cases hh with
      | cons a b =>
        cases a
        cases b with
        | cons a b =>
          cases b with
          | cons b c =>
            cases c
            exact .tup (k _ _ e) z (.cons (.str _) (.cons (ih1 a) (.cons (ih2 b) .nil)))
theorem keep_list {H H' : Hp} (k : ∀ t ys, H t = some (.tup ys) → H' t = some (.tup ys)) {b : Nat} : ∀ {vs : List V} {ds : List PyData}, Ths H vs ds → (∀ d ∈ ds, ∃ m, Ws d m ∧ m ≤ b) → Ths H' vs ds
  | _, _, .nil, _ => .nil
  | _, _, .cons a c, h => by
    obtain ⟨m, w, _⟩ := h _ (List.mem_cons_self ..)
    exact .cons (w.keep k a) (keep_list k c fun d hd => h d (List.mem_cons_of_mem _ hd))
theorem _root_.M.Wl.keep {H H' : Hp} (k : ∀ t ys, H t = some (.tup ys) → H' t = some (.tup ys)) {vs : List V} {ds : List PyData} {b : Nat} (h : Wl H vs ds b) : Wl H' vs ds b := ⟨keep_list k h.t h.w, h.w⟩
def spLaw (K : PySem.W.Frag) : Sp := fun vs H Q _ => ∃ (a : Addr) (ns : List Int), vs = [.ref a] ∧ SqL K H a (ns.map V.int) ∧ ns.length ≤ 63 ∧ ∀ H', Q (.bl true) H'
theorem scLaw : FnScope ["script", "k", "xs", "parts", "thing", "due", "found"] ["script"] (defScope sLaw) := ⟨rfl, rfl, rfl, by decide +kernel, rfl, by decide +kernel, by decide +kernel⟩
theorem ok_law {f fS fE fW fA fN fM fJ fR fB fT fD aJ aB aP aR aL : Addr} {fd fdS fdE fdW fdA fdN fdM fdJ fdR fdB fdT fdD : FuncData} {tG tD : Tok} (F : Fun K "law" "law" sLaw f fd)
    (FS : Fun K "is_small" "is_small" sSma fS fdS) (bS : Binds K fdS ["thing"] []) (mS : mg "is_small" = some (.ref fS))
    (FE : Fun K "is_leaf" "is_leaf" sLef fE fdE) (bE : Binds K fdE ["word", "rest"] []) (mE : mg "is_leaf" = some (.ref fE))
    (FW : Fun K "is_wish" "is_wish" sWis fW fdW) (bW : Binds K fdW ["thing"] []) (mW : mg "is_wish" = some (.ref fW))
    (FA : Fun K "_law_cell_at" "_law_cell_at" sCel fA fdA) (bA : Binds K fdA ["script", "k"] []) (mA : mg "_law_cell_at" = some (.ref fA))
    (FN : Fun K "_law_numbers" "_law_numbers" sNum fN fdN) (bN : Binds K fdN ["cell", "many"] []) (mN : mg "_law_numbers" = some (.ref fN))
    (FM : Fun K "_law_some" "_law_some" sSom fM fdM) (bM : Binds K fdM ["xs"] []) (mM : mg "_law_some" = some (.ref fM))
    (FJ : Fun K "_law_joined" "_law_joined" sJoi fJ fdJ) (bJ : Binds K fdJ ["parts", "xs"] []) (mJ : mg "_law_joined" = some (.ref fJ))
    (FR : Fun K "_law_wrapped" "_law_wrapped" sWra fR fdR) (bR : Binds K fdR ["thing", "xs"] []) (mR : mg "_law_wrapped" = some (.ref fR))
    (FB : Fun K "_law_bad" "_law_bad" sBad fB fdB) (bB : Binds K fdB ["wish", "number"] []) (mB : mg "_law_bad" = some (.ref fB))
    (FT : Fun K "_law_turned" "_law_turned" sTur fT fdT) (bT : Binds K fdT ["wish", "ways", "number"] []) (mT : mg "_law_turned" = some (.ref fT))
    (FD : Fun K "_law_depth" "_law_depth" sDep fD fdD) (bD : Binds K fdD ["wish"] []) (mD : mg "_law_depth" = some (.ref fD))
    (k : Kits K) (T : Wds K aJ aB aP aR aL)
    (mJoi : mg "JOINING" = some (.ref aJ)) (mBar : mg "BARE" = some (.ref aB)) (mPai : mg "PAIRED" = some (.ref aP)) (mOfR : mg "OF_ROADS" = some (.ref aR)) (mOfP : mg "OF_PLACES" = some (.ref aL)) (mGre : mg "GREATEST" = some (.int 9999 tG)) (mDee : mg "DEEPEST" = some (.int 8 tD))
    (mIsi : mg "isinstance" = none) (mInt : mg "int" = none) (mBool : mg "bool" = none) (mTup : mg "tuple" = none) (mStr : mg "str" = none) (mLen : mg "len" = none) (mAll : mg "all" = none) (mRange : mg "range" = none) (mLst : mg "list" = none) (mMax : mg "max" = none) :
    FnOk P w K mg base CX0 22 f fd ["script"] (spLaw K) := by
  have GW : FnOk P w K mg base CX0 3 fW fdW ["thing"] spWis := ok_wis FW FS bS mS FE bE mE k T mJoi mBar mPai mOfR mOfP mGre mDee mIsi mInt mBool mTup mStr mLen mAll
  have GA : FnOk P w K mg base CX0 1 fA fdA ["script", "k"] (spCel K) := ok_cel FA mLen
  have GN : FnOk P w K mg base CX0 1 fN fdN ["cell", "many"] spNum := ok_num FN mRange
  have GM : FnOk P w K mg base CX0 1 fM fdM ["xs"] spSom := ok_som FM mRange mTup
  have GJ : FnOk P w K mg base CX0 1 fJ fdJ ["parts", "xs"] spJoi := ok_joi FJ mRange mLen mLst
  have GR : FnOk P w K mg base CX0 1 fR fdR ["thing", "xs"] spWra := ok_wra FR mRange
  have GT : FnOk P w K mg base CX0 21 fT fdT ["wish", "ways", "number"] (spTur 20) := ok_tur FT bT mT FB bB mB k mLen mLst mIsi mTup 20
  have GD : FnOk P w K mg base CX0 20 fD fdD ["wish"] (spDep 20) := ok_dep FD bD mD k mLen mMax mIsi mTup 20
  refine F.ok scLaw (fun vs H Q E h => ?_) (fun cdv A outer s H vs Q E hr h => ?_)
  · obtain ⟨a, ns, rfl, _⟩ := h
    rfl
  · obtain ⟨a, ns, rfl, hS, hlen, q⟩ := h
    have h16 : (16777216 : Nat) = sizeLine := sizeLine_eq.symm
    refine ⟨_, pss_cons (ps_for PassesOwn.never rfl (pi_range1 rfl mRange (pa_cons (pe_callB (call_max2 rfl) rfl mMax boot_max (pa_cons pe_int (pa_cons (pe_callB (kLen K) rfl mLen PySem.boot_len (pa_cons (pv 0) pa_nil)) pa_nil))) pa_nil)) (pg_name (i := 1) scLaw.nd rfl (Or.inl rfl))
       (pss_cons (ps_set (i := 2) scLaw.nd rfl (Or.inr rfl) (pe_call GN (hr.mono (by decide)) rfl mN FN.kp bN .nil pass0 (pa_cons (pe_call GA (hr.mono (by decide)) rfl mA FA.kp bA .nil pass0 (pa_cons (pv 0) (pa_cons (pv 1) pa_nil))) (pa_cons pe_int pa_nil))))
       (pss_cons (ps_comp (i := 3) scLaw.nd rfl (Or.inl rfl) (own := ["j"]) rfl (compScope_free (fr := [("xs", 2)]) [(".0", .local), ("j", .local), ("_law_some", .globalImplicit), ("xs", .cell)] rfl rfl (by decide +kernel) rfl (by decide +kernel) ⟨rfl, trivial⟩ ⟨fun h => no_cf h, fun h => no_cf h, fun h => no_cf h, fun _ => ⟨_, rfl⟩, trivial⟩ ⟨⟨rfl, .inl rfl, .inl rfl⟩, trivial⟩) (pi_range1 rfl mRange (pa_cons (pe_op op_add pe_int (pe_op op_mod (pe_ix (kIxL K) (pv 2) pe_int (fun _ _ => rfl)) pe_int)) pa_nil)) (fun _ _ _ _ => pg_name (i := 0) (show List.Nodup (["j", "xs"] : List Str) by decide +kernel) rfl (Or.inl rfl)) (fun _ _ _ _ => pifs_nil) (fun _ _ _ _ => pe_call GM (hr.mono (by decide)) rfl mM FM.kp bM .nil pass0 (pa_cons (pe_slice (kSl K) (pv 1) (po_some (pe_op op_mul pe_int (pv 0))) (po_some (pe_op op_add (pe_op op_mul pe_int (pv 0)) pe_int))) pa_nil)))
       (pss_cons (ps_set (i := 4) scLaw.nd rfl (Or.inl rfl) (pe_call GR (hr.mono (by decide)) rfl mR FR.kp bR .nil pass0 (pa_cons (pe_call GJ (hr.mono (by decide)) rfl mJ FJ.kp bJ .nil pass0 (pa_cons (pv 3) (pa_cons (pe_slice (kSl K) (pv 2) (po_some pe_int) (po_some pe_int)) pa_nil))) (pa_cons (pe_slice (kSl K) (pv 2) (po_some pe_int) (po_some pe_int)) pa_nil))))
       (pss_cons (ps_set (i := 5) scLaw.nd rfl (Or.inl rfl) (pe_cmpR op_le (pe_call GD (hr.mono (by decide)) rfl mD FD.kp bD .nil pass0 (pa_cons (pv 4) pa_nil)) pe_int (nomark _)))
       (pss_cons (ps_if (pt_cmpR op_eq (pe_op op_mod (pe_ix (kIxL K) (pv 2) pe_int (fun _ _ => rfl)) pe_int) pe_int (nomark _)) (pss_cons (ps_set (i := 4) scLaw.nd rfl (Or.inl rfl) (pe_call GT (hr.mono (by decide)) rfl mT FT.kp bT .nil pass0 (pa_cons (pv 4) (pa_cons (pe_op op_add (pe_ix (kIxL K) (pv 2) pe_int (fun _ _ => rfl)) (pe_op op_mul pe_int (pe_ix (kIxL K) (pv 2) pe_int (fun _ _ => rfl)))) (pa_cons (pe_ix (kIxL K) (pv 2) pe_int (fun _ _ => rfl)) pa_nil)))))
       (pss_one (ps_set (i := 5) scLaw.nd rfl (Or.inl rfl) pe_bl))) pss_nil)
       (pss_cons (ps_set (i := 6) scLaw.nd rfl (Or.inl rfl) (pe_call GW (hr.mono (by decide)) rfl mW FW.kp bW .nil pass0 (pa_cons (pv 4) pa_nil)))
       (pss_one (ps_if (PW.pt (pw_or (pt_not (pt_val (pe_callB (kIsi K) rfl mIsi boot_isi (pa_cons (pv 6) (pa_cons (pe_typ mBool boot_bool) pa_nil))))) (pw_or1 (pt_cmpR op_ne (pv 6) (pv 5) (nomark _))))) (pss_one (ps_ret pe_bl)) pss_nil)))))))))
       (pss_one (ps_ret pe_bl)), ?_⟩
    refine ⟨_, rfl, a, _, rfl, .inl hS, _, _, rfl, _, rfl, ?_⟩
    rw [List.length_map]
    obtain ⟨n, hn, hn1, hn2⟩ : ∃ n : Nat, (if ((ns.length : Nat) : Int) > 1 then ((ns.length : Nat) : Int) else 1) = (n : Int) ∧ 1 ≤ n ∧ n ≤ 63 := by
      by_cases hz : ((ns.length : Nat) : Int) > 1
      · rw [if_pos hz]; exact ⟨ns.length, rfl, by omega, hlen⟩
      · rw [if_neg hz]; exact ⟨1, rfl, by decide, by decide⟩
    rw [hn]
    refine ⟨by omega, by omega, ?_⟩
    rw [Int.toNat_natCast]
    refine for_range (lo := 0) (n := n) (fun i σ' H' => ∃ v1 v2 v3 v4 v5 v6 : Option V, σ' = [some (.ref a), v1, v2, v3, v4, v5, v6] ∧ Same H H') ⟨none, none, none, none, none, none, rfl, Same.refl _⟩ ?_ ?_
    · rintro i σ' H1 hi ⟨v1, v2, v3, v4, v5, v6, rfl, s1⟩
      rw [Int.zero_add]
      refine ⟨_, rfl, _, rfl, a, ns, i, rfl, s1.seq hS, fun z0 => ?_⟩
      refine ⟨z0, 44, rfl, by decide, fun xl row H2 s2 exl hrow => ?_⟩
      have r0 : 0 ≤ row.getD (40 : Int).toNat 0 % 4 := Int.emod_nonneg _ (by decide)
      have r1 : row.getD (40 : Int).toNat 0 % 4 < 4 := Int.emod_lt_of_pos _ (by decide)
      refine ⟨_, rfl, xl, _, _, _, rfl, rfl, SqL.of exl, at_int (by omega) (by omega), _, _, rfl, rfl, (by show (0 : Int) < 4; decide), _, _, rfl, rfl, _, rfl, by omega, by omega, fun D hD => ?_⟩
      refine comp_range (lo := 0) (n := (1 + row.getD (40 : Int).toNat 0 % 4).toNat) (fun j ys H' => Same H2 H' ∧ H' D = some (.lst ys) ∧ ∃ ds : List PyData, Wl H' ys ds 1 ∧ ds.length = j) ⟨Same.new hD, upd_same, [], ⟨.nil, fun d hd => (by cases hd)⟩, rfl⟩ ?_ ?_
      · rintro j ys H3 hj ⟨s3, eD, ds, W, hds⟩
        rw [Int.zero_add]
        have hj4 : j < 4 := by omega
        refine ⟨⟨rfl, trivial⟩, ?_⟩
        unfold tYes
        refine iteT ?_
        obtain ⟨ec, lc⟩ := cut_six (ns := row) (lo := 6 * j) (by omega)
        have exl3 := s3 _ _ exl
        refine ⟨_, rfl, _, rfl, _, _, rfl, rfl, .inl ⟨by decide, by decide⟩, _, rfl, _, rfl, _, _, rfl, rfl, .inl ⟨by decide, by decide⟩, _, _, rfl, rfl, _, rfl, xl, _, rfl, SqL.of exl3, fun p hp => ?_⟩
        rw [show cutV (row.map V.int) (some (6 * (j : Int))) (some (6 * (j : Int) + 6)) = ((row.drop (6 * j)).take 6).map V.int from ec]
        have s4 : Same H3 (upd H3 p (.lst (((row.drop (6 * j)).take 6).map V.int))) := Same.new hp
        refine ⟨p, _, rfl, upd_same, lc, fun v d m H5 s5 t5 w5 l5 => ?_⟩
        have eD5 := s5 _ _ (s4 _ _ eD)
        have kk := tups_lst (o := .lst (ys ++ [v])) eD5
        refine ⟨eD5, by have := W.t.len; omega, ((s3.trans s4).trans s5).put hD, upd_same, ds ++ [d], ?_, by rw [List.length_append, List.length_singleton, hds]⟩
        have W5 := (W.same s4).same s5
        refine Wl.keep kk ⟨W5.t.app (.cons t5 .nil), fun d' hd' => ?_⟩
        rcases List.mem_append.mp hd' with z | z
        · exact W.w d' z
        · rw [List.mem_singleton] at z
          rw [z]
          exact ⟨m, w5, l5⟩
      · rintro ys H3 ⟨s3, eD, ds, W, hds⟩
        have exl3 := s3 _ _ exl
        refine ⟨_, rfl, _, rfl, _, rfl, _, rfl, xl, _, rfl, SqL.of exl3, fun p hp => ?_⟩
        obtain ⟨ec1, lc1⟩ := cut_six (ns := row) (lo := 24) (by omega)
        obtain ⟨ec2, lc2⟩ := cut_six (ns := row) (lo := 30) (by omega)
        rw [show cutV (row.map V.int) (some 24) (some 30) = ((row.drop 24).take 6).map V.int from ec1]
        have s4 : Same H3 (upd H3 p (.lst (((row.drop 24).take 6).map V.int))) := Same.new hp
        refine ⟨D, p, ys, ds, _, rfl, s4 _ _ eD, W.same s4, by omega, by omega, upd_same, lc1, fun v d m H5 s5 t5 w5 l5 => ?_⟩
        have exl5 := s5 _ _ (s4 _ _ exl3)
        refine ⟨_, rfl, _, rfl, _, rfl, xl, _, rfl, SqL.of exl5, fun p2 hp2 => ?_⟩
        rw [show cutV (row.map V.int) (some 30) (some 36) = ((row.drop 30).take 6).map V.int from ec2]
        have s6 : Same H5 (upd H5 p2 (.lst (((row.drop 30).take 6).map V.int))) := Same.new hp2
        refine ⟨v, p2, d, m, _, rfl, t5.same s6, w5, l5, upd_same, lc2, fun v d m H7 s7 t7 w7 l7 => ?_⟩
        have S7 := ((s1.trans s2).trans ((s3.trans s4).trans s5)).trans (s6.trans s7)
        have exl7 := s7 _ _ (s6 _ _ exl5)
        refine ⟨_, rfl, v, d, m, rfl, t7, w7, l7, _, _, rfl, rfl, ?_⟩
        dsimp only [gName]
        refine seq_mid (fun σ' H' => ∃ (v' : V) (d' : PyData) (due : Bool), σ' = [some (.ref a), some (.int (i : Int)), some (.ref xl), some (.ref D), some v', some (.bl due), v6] ∧ Same H7 H' ∧ Th H' v' d' ∧ wishB 8 d' = due) ?sm ?fm
        case fm =>
          intro hk
          refine ⟨_, rfl, xl, _, _, _, rfl, rfl, SqL.of exl7, at_int (by omega) (by omega), _, _, rfl, rfl, (by show (0 : Int) < 2; decide), rfl, _, rfl, ite2 (fun _ => ?_) (fun _ => ?_)⟩
          · refine ⟨_, rfl, _, rfl, xl, _, _, _, rfl, rfl, SqL.of exl7, at_int (by omega) (by omega), _, rfl, xl, _, _, _, rfl, rfl, SqL.of exl7, at_int (by omega) (by omega), _, _, rfl, rfl, .inl ⟨by decide, by decide⟩, _, _, rfl, rfl, _, rfl, xl, _, _, _, rfl, rfl, SqL.of exl7, at_int (by omega) (by omega), ?_⟩
            refine ⟨v, d, m, _, _, rfl, t7, w7, l7, fun v' d' H8 s8 t8 n8 => ?_⟩
            exact hk _ _ ⟨v', d', false, rfl, s8, t8, n8 8⟩
          · refine hk _ _ ⟨v, d, decide ((m : Int) ≤ 8), rfl, Same.refl _, t7, ?_⟩
            rw [Bool.eq_iff_iff, w7.iff 8, decide_eq_true_iff]
            omega
        rintro σ' H8 ⟨v', d', due, rfl, s8, t8, hd⟩
        refine ⟨_, rfl, v', d', rfl, t8, fun H9 s9 => ?_⟩
        rw [hd]
        refine ⟨_, rfl, _, _, true, rfl, ⟨_, rfl, iteF ?_⟩, .inl ⟨_, .bl _, rfl, kit_self⟩⟩
        refine ⟨_, rfl, _, rfl, (by cases due <;> rfl), _, rfl, ?_⟩
        rw [show (!decide (V.bl due = V.bl due)) = false by rw [decide_eq_true rfl]; rfl]
        refine iteF ?_
        exact ⟨_, _, _, _, _, _, rfl, S7.trans (s8.trans s9)⟩
    · rintro σ' H1 ⟨v1, v2, v3, v4, v5, v6, rfl, s1⟩
      exact q _
end
end M
namespace M
open PySem L2
theorem all_mk {l : PySem.W.OpenLaw} {w : World} {K : PySem.W.Frag} {h : Heap} {mg : Str → Option Value} {fa f1 f2 f3 f4 f5 f6 f7 f8 f9 f10 f11 f12 aJ aB aP aR aL : Addr} {tJ0 tJ1 tJ2 tB0 tB1 tB2 tP0 tP1 tR0 tR1 tL0 tL1 tG tD : Tok} {oJ oB oP oR oL : Option Addr} {nJ nB nP nR nL : Nat} {sJ sB sP sR sL : Array (Option Value)} (X : K.In h) (G : h.Ns mainGlobals mg) (hfa : mg "law" = some (.ref fa))
    {od1 an1 od2 an2 od3 an3 od4 an4 od5 an5 od6 an6 od7 an7 od8 an8 od9 an9 od10 an10 od11 an11 od12 an12 : Option Addr} {sl1 sl2 sl3 sl4 sl5 sl6 sl7 sl8 sl9 sl10 sl11 sl12 : Array (Option Value)} {oc1 kV1 dc1 pm1 cd1 ct1 oc2 kV2 dc2 pm2 cd2 ct2 oc3 kV3 dc3 pm3 cd3 ct3 oc4 kV4 dc4 pm4 cd4 ct4 oc5 kV5 dc5 pm5 cd5 ct5 oc6 kV6 dc6 pm6 cd6 ct6 oc7 kV7 dc7 pm7 cd7 ct7 oc8 kV8 dc8 pm8 cd8 ct8 oc9 kV9 dc9 pm9 cd9 ct9 oc10 kV10 dc10 pm10 cd10 ct10 oc11 kV11 dc11 pm11 cd11 ct11 oc12 kV12 dc12 pm12 cd12 ct12 : Value}
    (aF1 : PySem.W.nsIn K mainGlobals "is_small" = some (some (.ref f1))) (lF1 : K.lookup f1 = some ⟨oc1, od1, .func (PySem.W.fnOf "is_small" "is_small" (defArgs sSma) (defBody sSma) (defScope sSma) .none kV1 dc1 pm1 an1 cd1 ct1), sl1⟩) (cF1 : PySem.W.codeIn K cd1 "is_small" = true) (kF1 : PySem.W.keepIn K (.ref f1) = true)
    (aF2 : PySem.W.nsIn K mainGlobals "is_leaf" = some (some (.ref f2))) (lF2 : K.lookup f2 = some ⟨oc2, od2, .func (PySem.W.fnOf "is_leaf" "is_leaf" (defArgs sLef) (defBody sLef) (defScope sLef) .none kV2 dc2 pm2 an2 cd2 ct2), sl2⟩) (cF2 : PySem.W.codeIn K cd2 "is_leaf" = true) (kF2 : PySem.W.keepIn K (.ref f2) = true)
    (aF3 : PySem.W.nsIn K mainGlobals "is_wish" = some (some (.ref f3))) (lF3 : K.lookup f3 = some ⟨oc3, od3, .func (PySem.W.fnOf "is_wish" "is_wish" (defArgs sWis) (defBody sWis) (defScope sWis) .none kV3 dc3 pm3 an3 cd3 ct3), sl3⟩) (cF3 : PySem.W.codeIn K cd3 "is_wish" = true) (kF3 : PySem.W.keepIn K (.ref f3) = true)
    (aF4 : PySem.W.nsIn K mainGlobals "_law_cell_at" = some (some (.ref f4))) (lF4 : K.lookup f4 = some ⟨oc4, od4, .func (PySem.W.fnOf "_law_cell_at" "_law_cell_at" (defArgs sCel) (defBody sCel) (defScope sCel) .none kV4 dc4 pm4 an4 cd4 ct4), sl4⟩) (cF4 : PySem.W.codeIn K cd4 "_law_cell_at" = true) (kF4 : PySem.W.keepIn K (.ref f4) = true)
    (aF5 : PySem.W.nsIn K mainGlobals "_law_numbers" = some (some (.ref f5))) (lF5 : K.lookup f5 = some ⟨oc5, od5, .func (PySem.W.fnOf "_law_numbers" "_law_numbers" (defArgs sNum) (defBody sNum) (defScope sNum) .none kV5 dc5 pm5 an5 cd5 ct5), sl5⟩) (cF5 : PySem.W.codeIn K cd5 "_law_numbers" = true) (kF5 : PySem.W.keepIn K (.ref f5) = true)
    (aF6 : PySem.W.nsIn K mainGlobals "_law_some" = some (some (.ref f6))) (lF6 : K.lookup f6 = some ⟨oc6, od6, .func (PySem.W.fnOf "_law_some" "_law_some" (defArgs sSom) (defBody sSom) (defScope sSom) .none kV6 dc6 pm6 an6 cd6 ct6), sl6⟩) (cF6 : PySem.W.codeIn K cd6 "_law_some" = true) (kF6 : PySem.W.keepIn K (.ref f6) = true)
    (aF7 : PySem.W.nsIn K mainGlobals "_law_joined" = some (some (.ref f7))) (lF7 : K.lookup f7 = some ⟨oc7, od7, .func (PySem.W.fnOf "_law_joined" "_law_joined" (defArgs sJoi) (defBody sJoi) (defScope sJoi) .none kV7 dc7 pm7 an7 cd7 ct7), sl7⟩) (cF7 : PySem.W.codeIn K cd7 "_law_joined" = true) (kF7 : PySem.W.keepIn K (.ref f7) = true)
    (aF8 : PySem.W.nsIn K mainGlobals "_law_wrapped" = some (some (.ref f8))) (lF8 : K.lookup f8 = some ⟨oc8, od8, .func (PySem.W.fnOf "_law_wrapped" "_law_wrapped" (defArgs sWra) (defBody sWra) (defScope sWra) .none kV8 dc8 pm8 an8 cd8 ct8), sl8⟩) (cF8 : PySem.W.codeIn K cd8 "_law_wrapped" = true) (kF8 : PySem.W.keepIn K (.ref f8) = true)
    (aF9 : PySem.W.nsIn K mainGlobals "_law_bad" = some (some (.ref f9))) (lF9 : K.lookup f9 = some ⟨oc9, od9, .func (PySem.W.fnOf "_law_bad" "_law_bad" (defArgs sBad) (defBody sBad) (defScope sBad) .none kV9 dc9 pm9 an9 cd9 ct9), sl9⟩) (cF9 : PySem.W.codeIn K cd9 "_law_bad" = true) (kF9 : PySem.W.keepIn K (.ref f9) = true)
    (aF10 : PySem.W.nsIn K mainGlobals "_law_turned" = some (some (.ref f10))) (lF10 : K.lookup f10 = some ⟨oc10, od10, .func (PySem.W.fnOf "_law_turned" "_law_turned" (defArgs sTur) (defBody sTur) (defScope sTur) .none kV10 dc10 pm10 an10 cd10 ct10), sl10⟩) (cF10 : PySem.W.codeIn K cd10 "_law_turned" = true) (kF10 : PySem.W.keepIn K (.ref f10) = true)
    (aF11 : PySem.W.nsIn K mainGlobals "_law_depth" = some (some (.ref f11))) (lF11 : K.lookup f11 = some ⟨oc11, od11, .func (PySem.W.fnOf "_law_depth" "_law_depth" (defArgs sDep) (defBody sDep) (defScope sDep) .none kV11 dc11 pm11 an11 cd11 ct11), sl11⟩) (cF11 : PySem.W.codeIn K cd11 "_law_depth" = true) (kF11 : PySem.W.keepIn K (.ref f11) = true)
    (aF12 : PySem.W.nsIn K mainGlobals "law" = some (some (.ref f12))) (lF12 : K.lookup f12 = some ⟨oc12, od12, .func (PySem.W.fnOf "law" "law" (defArgs sLaw) (defBody sLaw) (defScope sLaw) .none kV12 dc12 pm12 an12 cd12 ct12), sl12⟩) (cF12 : PySem.W.codeIn K cd12 "law" = true) (kF12 : PySem.W.keepIn K (.ref f12) = true)
    (kk : Kits K)
    (gJ : PySem.W.nsIn K mainGlobals "JOINING" = some (some (.ref aJ)))
    (lJ : K.lookup aJ = some ⟨.type "tuple", oJ, .seq #[.str "and" tJ0, .str "or" tJ1, .str "but" tJ2] nJ, sJ⟩)
    (gB : PySem.W.nsIn K mainGlobals "BARE" = some (some (.ref aB)))
    (lB : K.lookup aB = some ⟨.type "tuple", oB, .seq #[.str "closed" tB0, .str "shy" tB1, .str "all" tB2] nB, sB⟩)
    (gP : PySem.W.nsIn K mainGlobals "PAIRED" = some (some (.ref aP)))
    (lP : K.lookup aP = some ⟨.type "tuple", oP, .seq #[.str "open" tP0, .str "long" tP1] nP, sP⟩)
    (gR : PySem.W.nsIn K mainGlobals "OF_ROADS" = some (some (.ref aR)))
    (lR : K.lookup aR = some ⟨.type "tuple", oR, .seq #[.str "with" tR0, .str "off" tR1] nR, sR⟩)
    (gL : PySem.W.nsIn K mainGlobals "OF_PLACES" = some (some (.ref aL)))
    (lL : K.lookup aL = some ⟨.type "tuple", oL, .seq #[.str "over" tL0, .str "past" tL1] nL, sL⟩)
    (gG : PySem.W.nsIn K mainGlobals "GREATEST" = some (some (.int 9999 tG)))
    (gD : PySem.W.nsIn K mainGlobals "DEEPEST" = some (some (.int 8 tD)))
    (nisi : PySem.W.nsIn K mainGlobals "isinstance" = some none)
    (nint : PySem.W.nsIn K mainGlobals "int" = some none)
    (nbool : PySem.W.nsIn K mainGlobals "bool" = some none)
    (ntup : PySem.W.nsIn K mainGlobals "tuple" = some none)
    (nstr : PySem.W.nsIn K mainGlobals "str" = some none)
    (nlen : PySem.W.nsIn K mainGlobals "len" = some none)
    (nall : PySem.W.nsIn K mainGlobals "all" = some none)
    (nrange : PySem.W.nsIn K mainGlobals "range" = some none)
    (nlst : PySem.W.nsIn K mainGlobals "list" = some none)
    (nmax : PySem.W.nsIn K mainGlobals "max" = some none)
    : ∃ fd : FuncData, (∀ (s : Shared) (v : Value), BindsTo s fd ⟨[v], []⟩ [("script", v)]) ∧ ∀ base : Heap, K.In base → base.Ns mainGlobals mg → FnOk l.prog w K mg base CX0 22 fa fd ["script"] (spLaw K) := by
  have e := hfa.symm.trans (PySem.W.mg_of X G aF12)
  cases e
  have FS := fun_mk (st := sSma) lF1 cF1 kF1
  have bS := FS.binds (ps := ["thing"]) fun _ _ _ _ _ _ us hl => match us, hl with | [_], _ => rfl
  have mS : mg "is_small" = some (.ref f1) := PySem.W.mg_of X G aF1
  have FE := fun_mk (st := sLef) lF2 cF2 kF2
  have bE := FE.binds (ps := ["word", "rest"]) fun _ _ _ _ _ _ us hl => match us, hl with | [_, _], _ => rfl
  have mE : mg "is_leaf" = some (.ref f2) := PySem.W.mg_of X G aF2
  have FW := fun_mk (st := sWis) lF3 cF3 kF3
  have bW := FW.binds (ps := ["thing"]) fun _ _ _ _ _ _ us hl => match us, hl with | [_], _ => rfl
  have mW : mg "is_wish" = some (.ref f3) := PySem.W.mg_of X G aF3
  have FA := fun_mk (st := sCel) lF4 cF4 kF4
  have bA := FA.binds (ps := ["script", "k"]) fun _ _ _ _ _ _ us hl => match us, hl with | [_, _], _ => rfl
  have mA : mg "_law_cell_at" = some (.ref f4) := PySem.W.mg_of X G aF4
  have FN := fun_mk (st := sNum) lF5 cF5 kF5
  have bN := FN.binds (ps := ["cell", "many"]) fun _ _ _ _ _ _ us hl => match us, hl with | [_, _], _ => rfl
  have mN : mg "_law_numbers" = some (.ref f5) := PySem.W.mg_of X G aF5
  have FM := fun_mk (st := sSom) lF6 cF6 kF6
  have bM := FM.binds (ps := ["xs"]) fun _ _ _ _ _ _ us hl => match us, hl with | [_], _ => rfl
  have mM : mg "_law_some" = some (.ref f6) := PySem.W.mg_of X G aF6
  have FJ := fun_mk (st := sJoi) lF7 cF7 kF7
  have bJ := FJ.binds (ps := ["parts", "xs"]) fun _ _ _ _ _ _ us hl => match us, hl with | [_, _], _ => rfl
  have mJ : mg "_law_joined" = some (.ref f7) := PySem.W.mg_of X G aF7
  have FR := fun_mk (st := sWra) lF8 cF8 kF8
  have bR := FR.binds (ps := ["thing", "xs"]) fun _ _ _ _ _ _ us hl => match us, hl with | [_, _], _ => rfl
  have mR : mg "_law_wrapped" = some (.ref f8) := PySem.W.mg_of X G aF8
  have FB := fun_mk (st := sBad) lF9 cF9 kF9
  have bB := FB.binds (ps := ["wish", "number"]) fun _ _ _ _ _ _ us hl => match us, hl with | [_, _], _ => rfl
  have mB : mg "_law_bad" = some (.ref f9) := PySem.W.mg_of X G aF9
  have FT := fun_mk (st := sTur) lF10 cF10 kF10
  have bT := FT.binds (ps := ["wish", "ways", "number"]) fun _ _ _ _ _ _ us hl => match us, hl with | [_, _, _], _ => rfl
  have mT : mg "_law_turned" = some (.ref f10) := PySem.W.mg_of X G aF10
  have FD := fun_mk (st := sDep) lF11 cF11 kF11
  have bD := FD.binds (ps := ["wish"]) fun _ _ _ _ _ _ us hl => match us, hl with | [_], _ => rfl
  have mD : mg "_law_depth" = some (.ref f11) := PySem.W.mg_of X G aF11
  have FL := fun_mk (st := sLaw) lF12 cF12 kF12
  refine ⟨PySem.W.fnOf "law" "law" (defArgs sLaw) (defBody sLaw) (defScope sLaw) .none kV12 dc12 pm12 an12 cd12 ct12, fun s v => .of_eq rfl, fun base _ _ => ?_⟩
  exact ok_law FL FS bS mS FE bE mE FW bW mW FA bA mA FN bN mN FM bM mM FJ bJ mJ FR bR mR FB bB mB FT bT mT FD bD mD kk ⟨fun _ => .inr ⟨_, _, _, lJ, rfl, rfl, (by show 3 ≤ sizeLine; decide), .cons ⟨_, rfl⟩ (.cons ⟨_, rfl⟩ (.cons ⟨_, rfl⟩ .nil))⟩, fun _ => .inr ⟨_, _, _, lB, rfl, rfl, (by show 3 ≤ sizeLine; decide), .cons ⟨_, rfl⟩ (.cons ⟨_, rfl⟩ (.cons ⟨_, rfl⟩ .nil))⟩, fun _ => .inr ⟨_, _, _, lP, rfl, rfl, (by show 2 ≤ sizeLine; decide), .cons ⟨_, rfl⟩ (.cons ⟨_, rfl⟩ .nil)⟩, fun _ => .inr ⟨_, _, _, lR, rfl, rfl, (by show 2 ≤ sizeLine; decide), .cons ⟨_, rfl⟩ (.cons ⟨_, rfl⟩ .nil)⟩, fun _ => .inr ⟨_, _, _, lL, rfl, rfl, (by show 2 ≤ sizeLine; decide), .cons ⟨_, rfl⟩ (.cons ⟨_, rfl⟩ .nil)⟩⟩ (PySem.W.mg_of X G gJ) (PySem.W.mg_of X G gB) (PySem.W.mg_of X G gP) (PySem.W.mg_of X G gR) (PySem.W.mg_of X G gL) (PySem.W.mg_of X G gG) (PySem.W.mg_of X G gD) (PySem.W.mg_none_of X G nisi) (PySem.W.mg_none_of X G nint) (PySem.W.mg_none_of X G nbool) (PySem.W.mg_none_of X G ntup) (PySem.W.mg_none_of X G nstr) (PySem.W.mg_none_of X G nlen) (PySem.W.mg_none_of X G nall) (PySem.W.mg_none_of X G nrange) (PySem.W.mg_none_of X G nlst) (PySem.W.mg_none_of X G nmax)
theorem walk {l : PySem.W.OpenLaw} {q : Program} {loose : List Str} {XP : (Str → Option Value) → Heap → Prop} {YP : World → Heap → Prop} {d : DefRec} {K : Params → PySem.W.Frag} (hn : l.most = some 63) (hdf : d.params.defaults = [])
    (hY : ∀ (w : World) (h : Heap), YP w h → (K w.params).In h)
    (F : ∀ (w : World) (mg : Str → Option Value) (fa : Addr) (h : Heap), (K w.params).In h → h.Ns mainGlobals mg → mg d.name = some (.ref fa) →
      ∃ fd : FuncData, (∀ (s : Shared) (u : Value), BindsTo s fd ⟨[u], []⟩ [("script", u)]) ∧ ∀ base : Heap, (K w.params).In base → base.Ns mainGlobals mg → FnOk l.prog w (K w.params) mg base CX0 22 fa fd ["script"] (spLaw (K w.params))) :
    PySem.W.WalkO q loose XP YP l.row.toRowW d [] (fun f vs => PySem.call f vs) :=
  L2.walk_of (n := 63) (k := 22) (x := "script") (CX := fun _ => CX0) (sp := fun w => spLaw (K w.params)) hn (by decide) hdf ⟨rfl, by decide, by decide⟩ hY F (fun _ _ a ns hl _ hS => ⟨a, ns, rfl, hS, hl, fun _ => rfl⟩) fun _ _ _ _ _ z => z
end M
open PySem PySem.W PyProof.Rows
set_option maxRecDepth 100000 in
set_option maxHeartbeats 0 in
theorem PySem.Challenge.cw_onceways_k75_what_is_a_wish_holds : PySem.Challenge.rw_onceways_k75_what_is_a_wish.Holds := by
  w_on; o_law; k_head; (case hw => w_witness2)
  k_fill
  refine M.walk (l := PySem.Challenge.rw_onceways_k75_what_is_a_wish) rfl rfl (fun w h Y => PySem.W.kIn_of Y) ?F
  case F =>
    intro w mg fa h KX G hmg
    refine' M.all_mk KX G hmg ?aF1 ?lF1 ?cF1 ?kF1 ?aF2 ?lF2 ?cF2 ?kF2 ?aF3 ?lF3 ?cF3 ?kF3 ?aF4 ?lF4 ?cF4 ?kF4 ?aF5 ?lF5 ?cF5 ?kF5 ?aF6 ?lF6 ?cF6 ?kF6 ?aF7 ?lF7 ?cF7 ?kF7 ?aF8 ?lF8 ?cF8 ?kF8 ?aF9 ?lF9 ?cF9 ?kF9 ?aF10 ?lF10 ?cF10 ?kF10 ?aF11 ?lF11 ?cF11 ?kF11 ?aF12 ?lF12 ?cF12 ?kF12 ?kk ?gJ ?lJ ?gB ?lB ?gP ?lP ?gR ?lR ?gL ?lL ?gG ?gD ?nisi ?nint ?nbool ?ntup ?nstr ?nlen ?nall ?nrange ?nlst ?nmax
    (case aF1 => k_is)
    (case lF1 => k_is)
    (case cF1 => k_is)
    (case kF1 => k_is)
    (case aF2 => k_is)
    (case lF2 => k_is)
    (case cF2 => k_is)
    (case kF2 => k_is)
    (case aF3 => k_is)
    (case lF3 => k_is)
    (case cF3 => k_is)
    (case kF3 => k_is)
    (case aF4 => k_is)
    (case lF4 => k_is)
    (case cF4 => k_is)
    (case kF4 => k_is)
    (case aF5 => k_is)
    (case lF5 => k_is)
    (case cF5 => k_is)
    (case kF5 => k_is)
    (case aF6 => k_is)
    (case lF6 => k_is)
    (case cF6 => k_is)
    (case kF6 => k_is)
    (case aF7 => k_is)
    (case lF7 => k_is)
    (case cF7 => k_is)
    (case kF7 => k_is)
    (case aF8 => k_is)
    (case lF8 => k_is)
    (case cF8 => k_is)
    (case kF8 => k_is)
    (case aF9 => k_is)
    (case lF9 => k_is)
    (case cF9 => k_is)
    (case kF9 => k_is)
    (case aF10 => k_is)
    (case lF10 => k_is)
    (case cF10 => k_is)
    (case kF10 => k_is)
    (case aF11 => k_is)
    (case lF11 => k_is)
    (case cF11 => k_is)
    (case kF11 => k_is)
    (case aF12 => k_is)
    (case lF12 => k_is)
    (case cF12 => k_is)
    (case kF12 => k_is)
    (case kk => (constructor <;> kit_is))
    (case gJ => k_is)
    (case lJ => k_is)
    (case gB => k_is)
    (case lB => k_is)
    (case gP => k_is)
    (case lP => k_is)
    (case gR => k_is)
    (case lR => k_is)
    (case gL => k_is)
    (case lL => k_is)
    (case gG => k_is)
    (case gD => k_is)
    (case nisi => k_is)
    (case nint => k_is)
    (case nbool => k_is)
    (case ntup => k_is)
    (case nstr => k_is)
    (case nlen => k_is)
    (case nall => k_is)
    (case nrange => k_is)
    (case nlst => k_is)
    (case nmax => k_is)
#print axioms PySem.Challenge.cw_onceways_k75_what_is_a_wish_holds
