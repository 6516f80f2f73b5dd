import PyProof.Rows.All
import Wide.All
import OpenK.AllK
import Wide.FinOn
import Lean
import PyProof.EqAt
import PyProof.EqKinds
import PyProof.TupleCall
import PySem.Challenge.RW_onceways_k83_webs_written_and_read
set_option Elab.async false
set_option linter.all false
set_option maxRecDepth 100000
set_option maxHeartbeats 4000000
/-! THE HAND LAYER, for ints, bools, texts, own classes, LISTS and tuples (index, slices, in, append, pop ..), calls, loops. Paste it whole ahead of your own text; what your proof does not reach may be deleted. -/
namespace L2
open PySem PySem.Spec PyProof.Rows

/-- a key: an int or a str -/
abbrev Key := Sum Int Str
def keyIs : Key → Value → Bool
  | .inl k, v => Value.isInt k v
  | .inr x, v => Value.isStrOf x v
def keyH (w : World) : Key → Int
  | .inl k => hashInt k
  | .inr x => hashStr w x
theorem keyIs_shape : ∀ {k : Key} {v : Value}, keyIs k v = true → (∃ i t, k = Sum.inl i ∧ v = Value.int i t) ∨ (∃ x t, k = Sum.inr x ∧ v = Value.str x t)
  | .inl i, v, h => by
    obtain ⟨t, e⟩ := Value.isInt_shape (k := i) (v := v) h
    exact .inl ⟨i, t, rfl, e⟩
  | .inr x, v, h => by
    obtain ⟨t, e⟩ := Value.isStrOf_shape (x := x) (v := v) h
    exact .inr ⟨x, t, rfl, e⟩
theorem key_ll (a b : Int) : decide ((Sum.inl a : Key) = Sum.inl b) = (a == b) := by
  by_cases e : a = b
  · subst e; simp
  · have h : ¬ (Sum.inl a : Key) = Sum.inl b := fun q => e (Sum.inl.inj q)
    rw [decide_eq_false h]
    exact (beq_eq_false_iff_ne.mpr e).symm
theorem key_rr (a b : Str) : decide ((Sum.inr a : Key) = Sum.inr b) = decide (a = b) := by
  by_cases e : a = b
  · subst e; simp
  · have h : ¬ (Sum.inr a : Key) = Sum.inr b := fun q => e (Sum.inr.inj q)
    rw [decide_eq_false h, decide_eq_false e]
theorem key_lr (a : Int) (b : Str) : decide ((Sum.inl a : Key) = Sum.inr b) = false := decide_eq_false (fun q => nomatch q)
theorem key_rl (a : Str) (b : Int) : decide ((Sum.inr a : Key) = Sum.inl b) = false := decide_eq_false (fun q => nomatch q)

def mixKind (prog : Program) (w : World) : PySem.KeyKind prog w Key where
  is := keyIs
  hash := keyH w
  inj := fun v a b ha hb => by
    rcases keyIs_shape ha with ⟨i, t, rfl, rfl⟩ | ⟨x, t, rfl, rfl⟩
    · rcases keyIs_shape hb with ⟨j, u, rfl, e⟩ | ⟨y, u, rfl, e⟩
      · injection e with e1 _; rw [e1]
      · exact nomatch e
    · rcases keyIs_shape hb with ⟨j, u, rfl, e⟩ | ⟨y, u, rfl, e⟩
      · exact nomatch e
      · injection e with e1 _; rw [e1]
  byValue := fun k v h => by
    rcases keyIs_shape h with ⟨i, t, rfl, rfl⟩ | ⟨x, t, rfl, rfl⟩ <;> rfl
  pyHash := fun hv h => by
    rcases keyIs_shape hv with ⟨i, t, rfl, rfl⟩ | ⟨x, t, rfl, rfl⟩
    · exact wpAny_pyHash_int h
    · exact wpAny_pyHash_str h
  eqBool := fun hu hv h => by
    rcases keyIs_shape hu with ⟨i, t, rfl, rfl⟩ | ⟨x, t, rfl, rfl⟩
    · rcases keyIs_shape hv with ⟨j, u, rfl, rfl⟩ | ⟨y, u, rfl, rfl⟩
      · rw [key_ll] at h; exact wpAny_eqBool_int h
      · rw [key_lr] at h; exact SeqAt.EqAt.int_str i t y u _ _ _ _ h
    · rcases keyIs_shape hv with ⟨j, u, rfl, rfl⟩ | ⟨y, u, rfl, rfl⟩
      · rw [key_rl] at h; exact SeqAt.EqAt.str_int x t j u _ _ _ _ h
      · rw [key_rr] at h; exact wpAny_eqBool_str h
  «strs» := fun k x t v h => by
    rcases keyIs_shape h with ⟨i, u, rfl, e⟩ | ⟨y, u, rfl, e⟩
    · exact nomatch e
    · injection e with e1 _
      subst e1
      cases v <;> rfl

end L2

namespace L2
open PySem PySem.Spec PyProof.Rows

/-- a value, without the heap -/
inductive V where
  | non | bl (b : Bool) | int (i : Int) | str (x : Str) | byt (b : Array UInt8) | flt (b : UInt64) | ref (a : Addr) | ty (n : String)
  deriving DecidableEq

def RelV : V → Value → Prop
  | .non, u => u = Value.none
  | .bl b, u => u = Value.bool b
  | .int i, u => ∃ t, u = Value.int i t
  | .str x, u => ∃ t, u = Value.str x t
  | .byt b, u => ∃ t, u = Value.bytes b t
  | .flt b, u => ∃ t, u = Value.float b t
  | .ref a, u => u = Value.ref a
  | .ty n, u => u = Value.type n

abbrev Vals : List V → List Value → Prop := Paired RelV
theorem Vals.length {xs : List V} {us : List Value} (r : Vals xs us) : xs.length = us.length := Paired.length r
theorem Vals.get : ∀ {xs : List V} {us : List Value} {i : Nat} {x : V}, Vals xs us → xs[i]? = some x → ∃ u, us[i]? = some u ∧ RelV x u
  | _, _, _, _, .nil, e => by simp at e
  | _, _, 0, _, .cons r _, e => by simp at e; subst e; exact ⟨_, rfl, r⟩
  | _, _, i + 1, x, .cons _ t, e => by
    obtain ⟨u, h1, h2⟩ := Vals.get (i := i) (x := x) t (by simpa using e)
    exact ⟨u, by simpa using h1, h2⟩
theorem Vals.append : ∀ {xs ys : List V} {us ws : List Value}, Vals xs us → Vals ys ws → Vals (xs ++ ys) (us ++ ws)
  | _, _, _, _, .nil, s => s
  | _, _, _, _, .cons r t, s => .cons r (Vals.append t s)
theorem Vals.take : ∀ {xs : List V} {us : List Value} (n : Nat), Vals xs us → Vals (xs.take n) (us.take n)
  | _, _, 0, _ => .nil
  | _, _, _ + 1, .nil => .nil
  | _, _, n + 1, .cons r t => .cons r (Vals.take n t)
theorem Vals.drop : ∀ {xs : List V} {us : List Value} (n : Nat), Vals xs us → Vals (xs.drop n) (us.drop n)
  | _, _, 0, r => r
  | _, _, _ + 1, .nil => .nil
  | _, _, n + 1, .cons _ t => Vals.drop n t
def RelO : Option V → Option Value → Prop
  | some v, some u => RelV v u
  | none, none => True
  | _, _ => False
def KV {κ : Type} : List (κ × V) → List (κ × Value) → Prop := Paired fun (p : κ × V) (q : κ × Value) => p.1 = q.1 ∧ RelV p.2 q.2

/-- a key of a dict (00_mix): an int or a text -/
def kV : Key → V
  | .inl i => .int i
  | .inr x => .str x

/-- what stands at a tracked address -/
inductive HO where
  /-- a list -/
  | lst (xs : List V)
  /-- a tuple (never changes) -/
  | tup (xs : List V)
  /-- a dict whose keys are ints and texts; one whose keys are tuples of ints and texts (the empty one is both) -/
  | dK (kvs : List (Key × V)) | dT (kvs : List (List Key × V))
  /-- a set of ints: its members, its size -/
  | set (S : Int → Bool) (n : Nat)
  /-- an instance of the class at C, its dict at dx, its attributes -/
  | ins (C dx : Addr) (fs : List (Str × V))
  /-- the dict of the instance at x -/
  | own (x : Addr)
  /-- the dict of an exception -/
  | xd (fs : List (Str × V))
  /-- a bound method, f of x -/
  | met (f x : Addr)
  /-- a range object lo, lo + 1, .. below hi -/
  | rng (lo hi : Int)
  /-- a thing that is known to the object (the script; a dict while a loop walks it): read, never written while it is so -/
  | frz (o : Obj) (u : HO)
  /-- a code object's table -/
  | tbl (ps : Array Value)
  /-- any other thing, by what is true of its one object (a def of one's own: SetO a S n := HO.ext fun h => ..) -/
  | ext (φ : Heap → Prop)

abbrev Hp := Addr → Option HO
def upd (H : Hp) (a : Addr) (o : HO) : Hp := fun b => if b = a then some o else H b
theorem upd_same {H : Hp} {a : Addr} {o : HO} : upd H a o a = some o := by unfold upd; rw [if_pos rfl]
theorem upd_ne {H : Hp} {a b : Addr} {o : HO} (h : b ≠ a) : upd H a o b = H b := by unfold upd; rw [if_neg h]
/-- two objects of different content stand apart -/
theorem ne_of {H : Hp} {a b : Addr} {o u : HO} (h : H a = some o) (h' : H b = some u) (d : o ≠ u) : a ≠ b := by
  intro e; subst e; rw [h] at h'; exact d (Option.some.inj h')
theorem ne_of_none {H : Hp} {a b : Addr} {o : HO} (h : H a = some o) (h' : H b = none) : a ≠ b := by
  intro e; subst e; rw [h] at h'; cases h'

section
variable (P : Program) (w : World)
def ObjOk (H : Hp) (h : Heap) (a : Addr) : HO → Prop
  | .lst xs => xs.length ≤ sizeLine ∧ ∃ (its : List Value) (n : Nat), Vals xs its ∧ h.get? a = some { cls := .type "list", data := .seq its.toArray n }
  | .tup xs => xs.length ≤ sizeLine ∧ ∃ its : List Value, Vals xs its ∧ IsTup h a its.toArray
  | .dK kvs => kvs.length ≤ sizeLine ∧ (a == sysModules) = false ∧ ∃ vs, KV kvs vs ∧ h.DictOf (mixKind P w) a vs
  | .dT kvs => kvs.length ≤ sizeLine ∧ (a == sysModules) = false ∧ ∃ xs : List (List Key × Addr × Value),
      Paired (fun (p : List Key × V) (q : List Key × Addr × Value) => p.1 = q.1 ∧ H q.2.1 = some (.tup (p.1.map kV)) ∧ RelV p.2 q.2.2) kvs xs ∧
      ∃ o es ep, h.get? a = some o ∧ o.ExactDict ∧ o.data = .dict es ep ∧ es.toList = xs.map (entryOfKey (tupleKind (mixKind P w))) ∧ (xs.map (·.1)).Nodup
  | .set S n => h.SetOf (intKind P w) a S n
  | .ins C dx fs => H dx = some (.own a) ∧ fs.length ≤ 1000 ∧ dx ≠ a ∧ h.get? a = some (PySem.W.instObj C dx) ∧
      ∃ mA, h.Ns1 dx mA ∧ (∀ f, RelO (fs.lookup f) (mA f)) ∧ PySem.Within mA (fs.map (·.1))
  | .own _ => ∃ o, h.get? a = some o
  | .xd fs => ∃ mA, h.Ns1 a mA ∧ ∀ f, RelO (fs.lookup f) (mA f)
  | .rng lo hi => ∃ t u v, h.get? a = some { cls := .type "range", data := .fields #[.int lo t, .int hi u, .int 1 v] }
  | .frz o u => h.get? a = some o ∧ ObjOk H h a u
  | .tbl ps => h.get? a = some { cls := .none, data := .fields ps }
  | .met f x => h.get? a = some (PySem.W.methodObj (.ref f) (.ref x))
  | .ext φ => φ h ∧ (∃ o, h.get? a = some o) ∧ ∀ h1 h2 : Heap, φ h1 → (∀ o, h1.get? a = some o → h2.get? a = some o) → φ h2
/-- the abstract heap is held -/
def HOk (H : Hp) (h : Heap) : Prop := ∀ a o, H a = some o → ObjOk P w H h a o
end

section
variable {P : Program} {w : World} {H H' : Hp} {h h' : Heap} {a : Addr} {o : HO}
theorem ObjOk.lt (x : ObjOk P w H h a o) : a < h.objs.size := by
  cases o with
  | lst xs => obtain ⟨_, _, _, _, e⟩ := x; exact Heap.lt_size e
  | tup xs => obtain ⟨_, _, _, p⟩ := x; exact p.lt
  | dK kvs => obtain ⟨_, _, _, _, o, _, _, e, _⟩ := x; exact Heap.lt_size e
  | dT kvs => obtain ⟨_, _, _, _, o, _, _, e, _⟩ := x; exact Heap.lt_size e
  | set S n => obtain ⟨o, _, _, _, e, _⟩ := x; exact Heap.lt_size e
  | ins C dx fs => obtain ⟨_, _, _, e, _⟩ := x; exact Heap.lt_size e
  | own y => obtain ⟨_, e⟩ := x; exact Heap.lt_size e
  | xd fs => obtain ⟨_, ⟨_, _, _, e, _⟩, _⟩ := x; exact Heap.lt_size e
  | rng lo hi => obtain ⟨_, _, _, e⟩ := x; exact Heap.lt_size e
  | frz ob u => obtain ⟨e, _⟩ := x; exact Heap.lt_size e
  | tbl ps => exact Heap.lt_size (show h.get? a = some _ from x)
  | met f y => exact Heap.lt_size (show h.get? a = some _ from x)
  | ext φ => obtain ⟨_, ⟨_, e⟩, _⟩ := x; exact Heap.lt_size e
theorem Paired.mapP {α β : Type} {F G : α → β → Prop} : ∀ {l₁ : List α} {l₂ : List β}, Paired F l₁ l₂ → (∀ a b, F a b → G a b) → Paired G l₁ l₂
  | _, _, .nil, _ => .nil
  | _, _, .cons r t, f => .cons (f _ _ r) (Paired.mapP t f)
/-- what an object's description leans on: its own object, its own dict, the tuples -/
theorem ObjOk.stay (x : ObjOk P w H h a o) (k : ∀ b u, (b = a ∨ H b = some (.own a)) → h.get? b = some u → h'.get? b = some u)
    (ho : ∀ b, H b = some (.own a) → H' b = some (.own a)) (ht : ∀ b xs, H b = some (.tup xs) → H' b = some (.tup xs)) : ObjOk P w H' h' a o := by
  induction o with
  | lst xs => obtain ⟨z, its, n, r, e⟩ := x; exact ⟨z, its, n, r, k _ _ (.inl rfl) e⟩
  | tup xs => obtain ⟨z, its, r, ob, e, c⟩ := x; exact ⟨z, its, r, ob, k _ _ (.inl rfl) e, c⟩
  | dK kvs => obtain ⟨z, y, vs, r, ob, es, ep, e, c⟩ := x; exact ⟨z, y, vs, r, ob, es, ep, k _ _ (.inl rfl) e, c⟩
  | dT kvs =>
    obtain ⟨z, y, xs, r, ob, es, ep, e, c⟩ := x
    exact ⟨z, y, xs, Paired.mapP r fun p q z => ⟨z.1, ht _ _ z.2.1, z.2.2⟩, ob, es, ep, k _ _ (.inl rfl) e, c⟩
  | set S n => obtain ⟨ob, es, ep, t, e, c⟩ := x; exact ⟨ob, es, ep, t, k _ _ (.inl rfl) e, c⟩
  | ins C dx fs =>
    obtain ⟨d, z, ne, e, mA, ⟨od, es, ep, e2, c⟩, r⟩ := x
    exact ⟨ho _ d, z, ne, k _ _ (.inl rfl) e, mA, ⟨od, es, ep, k _ _ (.inr d) e2, c⟩, r⟩
  | own y => obtain ⟨ob, e⟩ := x; exact ⟨ob, k _ _ (.inl rfl) e⟩
  | xd fs => obtain ⟨mA, ⟨od, es, ep, e, c⟩, r⟩ := x; exact ⟨mA, ⟨od, es, ep, k _ _ (.inl rfl) e, c⟩, r⟩
  | rng lo hi => obtain ⟨t, u, v, e⟩ := x; exact ⟨t, u, v, k _ _ (.inl rfl) e⟩
  | frz ob u ih => obtain ⟨e, q⟩ := x; exact ⟨k _ _ (.inl rfl) e, ih q⟩
  | tbl ps =>
    have e : h.get? a = some { cls := .none, data := .fields ps } := x
    show h'.get? a = some { cls := .none, data := .fields ps }
    exact k a _ (.inl rfl) e
  | met f y =>
    have e : h.get? a = some (PySem.W.methodObj (.ref f) (.ref y)) := x
    show h'.get? a = some (PySem.W.methodObj (.ref f) (.ref y))
    exact k a _ (.inl rfl) e
  | ext φ => obtain ⟨p, ⟨o, e⟩, st⟩ := x; exact ⟨st _ _ p fun o q => k _ _ (.inl rfl) q, ⟨o, k _ _ (.inl rfl) e⟩, st⟩
theorem HOk.lt (x : HOk P w H h) (e : H a = some o) : a < h.objs.size := (x a o e).lt
theorem HOk.fresh (x : HOk P w H h) (e : h.objs.size ≤ a) : H a = none := by
  cases q : H a with
  | none => rfl
  | some u => exact absurd (Nat.lt_of_lt_of_le (x.lt q) e) (Nat.lt_irrefl _)
/-- every object of the heap is kept -/
theorem HOk.kept (x : HOk P w H h) (k : ∀ b u, h.get? b = some u → h'.get? b = some u) : HOk P w H h' := fun a o e =>
  (x a o e).stay (fun b u _ q => k b u q) (fun _ q => q) fun _ _ q => q
/-- a new object is laid and tracked -/
theorem HOk.laid (x : HOk P w H h) (k : ∀ b u, h.get? b = some u → h'.get? b = some u) (hp : h.objs.size ≤ a) (new : ObjOk P w (upd H a o) h' a o) : HOk P w (upd H a o) h' := fun b u e => by
  have hn := x.fresh hp
  by_cases hb : b = a
  · subst hb; rw [upd_same] at e; cases e; exact new
  · rw [upd_ne hb] at e
    exact (x b u e).stay (fun c v _ q => k c v q) (fun c q => by rw [upd_ne (ne_of_none q hn)]; exact q) fun c xs q => by rw [upd_ne (ne_of_none q hn)]; exact q
end

/-- what may be read as u: it is u, or a known u -/
def Rd (H : Hp) (a : Addr) (u : HO) : Prop := H a = some u ∨ ∃ o, H a = some (.frz o u)
theorem Rd.ok {P : Program} {w : World} {H : Hp} {h : Heap} {a : Addr} {u : HO} (r : Rd H a u) (x : HOk P w H h) : ObjOk P w H h a u := by
  rcases r with r | ⟨o, r⟩
  · exact x a u r
  · obtain ⟨_, q⟩ := x a _ r
    exact q
/-- what may be written -/
def Mut : Option HO → Prop
  | some (.lst _) => True
  | some (.dK _) => True
  | some (.dT _) => True
  | some (.set _ _) => True
  | some (.ins _ _ _) => True
  | some (.ext _) => True
  | _ => False
section
variable {P : Program} {w : World} {H : Hp} {h h' : Heap} {x e : Addr} {o' : HO}
/-- the object at e is changed: x itself, or the dict of the instance x -/
theorem HOk.write (ok : HOk P w H h) (mu : Mut (H x)) (he : e = x ∨ H e = some (.own x)) (k : ∀ b u, b ≠ e → h.get? b = some u → h'.get? b = some u) (heo : ∃ u, h'.get? e = some u)
    (new : ObjOk P w (upd H x o') h' x o') : HOk P w (upd H x o') h' := fun b u q => by
  have nown : ∀ c y, H c = some (.own y) → c ≠ x := fun c y r z => by subst z; rw [r] at mu; exact mu
  have ntup : ∀ c xs, H c = some (.tup xs) → c ≠ x := fun c xs r z => by subst z; rw [r] at mu; exact mu
  by_cases hb : b = x
  · subst hb; rw [upd_same] at q; cases q; exact new
  · rw [upd_ne hb] at q
    by_cases hbe : b = e
    · have q' : H b = some (.own x) := by
        rcases he with z | z
        · exact absurd (hbe.trans z) hb
        · rw [hbe]; exact z
      rw [q] at q'; cases q'
      obtain ⟨v, hv⟩ := heo
      exact ⟨v, by rw [hbe]; exact hv⟩
    · refine (ok b u q).stay (fun c v hc r => k c v ?_ r) (fun c r => by rw [upd_ne (nown c b r)]; exact r) fun c xs r => by rw [upd_ne (ntup c xs r)]; exact r
      rcases hc with rfl | hc
      · exact hbe
      · rintro rfl
        rcases he with z | z
        · exact nown c b hc z
        · rw [hc] at z; cases z; exact hb rfl
end

/-! ### kept unless tracked; of the frames at fs (the callers') the slots may change (an exception that passes writes there); of the records at ex (iterators) nothing is said -/
structure Un (fs ex : List Addr) (H H' : Hp) (h h' : Heap) : Prop where
  keep : ∀ b o, h.get? b = some o → H b = none → b ∉ fs → b ∉ ex → h'.get? b = some o
  slot : ∀ b o, h.get? b = some o → H b = none → b ∈ fs → b ∉ ex → ∃ sl, h'.get? b = some { o with slots := sl }
  free : ∀ b o, h.get? b = some o → H b = none → b ∉ ex → H' b = none
  there : ∀ b o, h.get? b = some o → b ∉ ex → ∃ o', h'.get? b = some o'
  tups : ∀ b xs, H b = some (.tup xs) → H' b = some (.tup xs)
  frzs : ∀ b o u, H b = some (.frz o u) → H' b = some (.frz o u)
  tbls : ∀ b ps, H b = some (.tbl ps) → ∃ more, H' b = some (.tbl (ps ++ more))
section
variable {fs fs' ex ex' : List Addr} {H H1 H2 : Hp} {h h1 h2 h' : Heap} {a x e : Addr} {o : HO}
theorem Un.any (u : Un fs ex H H1 h h1) {b : Addr} {ob : Obj} (q : h.get? b = some ob) (n : H b = none) (hx : b ∉ ex) : ∃ sl, h1.get? b = some { ob with slots := sl } := by
  by_cases hb : b ∈ fs
  · exact u.slot b ob q n hb hx
  · exact ⟨ob.slots, u.keep b ob q n hb hx⟩
theorem Un.kept (k : ∀ b u, h.get? b = some u → h'.get? b = some u) : Un fs ex H H h h' :=
  ⟨fun b ob q _ _ _ => k b ob q, fun b ob q _ _ _ => ⟨ob.slots, k b ob q⟩, fun _ _ _ n _ => n, fun b ob q _ => ⟨ob, k b ob q⟩, fun _ _ q => q, fun _ _ _ q => q, fun _ ps q => ⟨#[], by rw [q]; simp⟩⟩
theorem Un.refl : Un fs ex H H h h := Un.kept fun _ _ q => q
theorem Un.laid (k : ∀ b u, h.get? b = some u → h'.get? b = some u) (hp : h.objs.size ≤ a) (hn : H a = none) : Un fs ex H (upd H a o) h h' where
  keep := fun b u q _ _ _ => k b u q
  slot := fun b u q _ _ _ => ⟨u.slots, k b u q⟩
  free := fun b u q n _ => by rw [upd_ne (Nat.ne_of_lt (Nat.lt_of_lt_of_le (Heap.lt_size q) hp))]; exact n
  there := fun b u q _ => ⟨u, k b u q⟩
  tups := fun b xs q => by rw [upd_ne (ne_of_none q hn)]; exact q
  frzs := fun b u xs q => by rw [upd_ne (ne_of_none q hn)]; exact q
  tbls := fun b ps q => ⟨#[], by rw [upd_ne (ne_of_none q hn), q]; simp⟩
theorem Un.write (mu : Mut (H x)) (he : e = x ∨ H e = some (.own x)) (k : ∀ b u, b ≠ e → h.get? b = some u → h'.get? b = some u) (heo : ∃ u, h'.get? e = some u) : Un fs ex H (upd H x o) h h' := by
  have hx : ∀ b, H b = none → b ≠ x := fun b n z => by subst z; rw [n] at mu; exact mu
  have hb : ∀ b, H b = none → b ≠ e := fun b n z => by
    subst z
    rcases he with r | r
    · exact hx b n r
    · rw [n] at r; cases r
  have hm : ∀ b u, H b = some u → ¬ Mut (some u) → b ≠ x := fun b u q nm z => by subst z; rw [q] at mu; exact nm mu
  refine ⟨fun b u q n _ _ => k b u (hb b n) q, fun b u q n _ _ => ⟨u.slots, k b u (hb b n) q⟩, fun b u q n _ => by rw [upd_ne (hx b n)]; exact n, fun b u q _ => ?_,
    fun b xs q => by rw [upd_ne (hm b _ q fun z => z)]; exact q, fun b u xs q => by rw [upd_ne (hm b _ q fun z => z)]; exact q, fun b ps q => ⟨#[], by rw [upd_ne (hm b _ q fun z => z), q]; simp⟩⟩
  by_cases hbe : b = e
  · subst hbe; exact heo
  · exact ⟨u, k b u hbe q⟩
end

/-! ### the heap without what is tracked -/
def trk (h : Heap) (H : Hp) : List Addr := (List.range h.objs.size).filter fun a => (H a).isSome
def hidT (h : Heap) (H : Hp) : Heap := PySem.W.hideAll h (trk h H)
theorem hidT_size (h : Heap) (H : Hp) : (hidT h H).objs.size = h.objs.size := PySem.W.hideAll_size _ _
theorem hidT_get {h : Heap} {H : Hp} {b : Addr} {o : Obj} (e : h.get? b = some o) (n : H b = none) : (hidT h H).get? b = some o :=
  PySem.W.hideAll_get _ e fun hm => by
    have q : (H b).isSome = true := (List.mem_filter.mp hm).2
    rw [n] at q; simp at q
theorem of_hidT {h : Heap} {H : Hp} {b : Addr} {o : Obj} (e : (hidT h H).get? b = some o) : h.get? b = some o ∧ H b = none := by
  have e' : h.get? b = some o := PySem.W.of_hideAll (trk h H) e
  refine ⟨e', ?_⟩
  cases q : H b with
  | none => rfl
  | some x =>
    have hm : b ∈ trk h H := List.mem_filter.mpr ⟨List.mem_range.mpr (Heap.lt_size e'), by simp [q]⟩
    have z : (hidT h H).get? b = none := PySem.W.hideAll_none (trk h H) hm
    rw [z] at e; cases e

/-! ### OpenK's ledger, filled with every new object but one -/
def allNews (g h : Heap) (L : Addr) : List (Addr × Obj) := (List.range h.objs.size).filterMap fun a => if a = L ∨ (g.get? a).isSome = true then none else (h.get? a).map fun o => (a, o)
def rest (g h : Heap) (L d : Addr) : List (Addr × Obj) := (allNews g h L).filter fun p => decide (p.1 ≠ d)
end L2

namespace L2
open PySem PySem.Spec PyProof.Rows

/-- the module's facts, over the base: the heap at the law's entry without what is tracked there -/
structure Mod (K : PySem.W.Frag) (mg : Str → Option Value) (base : Heap) : Prop where
  kin : K.In base
  glob : base.Ns mainGlobals mg
  blt : ∃ mb, base.Ns builtinsNs mb ∧ ∀ x : Str, x ≠ "__name__" → mb x = bootBuiltins x
  nolimit : base.NoLimit

/-- the context: a def's body (or a comprehension's block) running. base: fixed through the whole law; s₀, H₀: the entry; outer: the frames whose slots others may change (a def's callers); stack: all frames that run;
   ex: iterators that were made ahead of the entry and are walked here (a comprehension's); fn: the names whose cells were made at the entry (a def: all; a comprehension's block: its own); calm: not within an except suite; pn: pins that every state bears; xe: what is wanted of an exception that leaves the code -/
structure Cx where
  prog : Program
  w : World
  K : PySem.W.Frag
  mg : Str → Option Value
  base : Heap
  A : Around
  N : List Str
  s₀ : Shared
  H₀ : Hp
  env : Env
  outer : List Env
  stack : List Env
  ex : List Addr
  fn : Str → Bool
  calm : Bool
  pn : List (Addr × Obj)
  xe : Value → Shared → Prop
/-- the callers' frames -/
def frs (l : List Env) : List Addr := l.filterMap (·.frame)
abbrev Cx.fs (X : Cx) : List Addr := frs X.outer

def Vis (sc : Scope) (x : Str) : Prop := sc.names.lookup x = some .local ∨ sc.names.lookup x = some .cell ∨ sc.names.lookup x = some .free
def Loc (sc : Scope) (x : Str) : Prop := sc.names.lookup x = some .local ∨ sc.names.lookup x = some .cell
def Look (env : Env) (h : Heap) (m : Str → Option Value) (x : Str) (u : Value) : Prop :=
  (env.kindOf x = some .local ∧ m x = some u) ∨ ((env.kindOf x = some .cell ∨ env.kindOf x = some .free) ∧ ∃ c, env.cells.lookup x = some c ∧ h.IsCell c (some u))

structure Cx.Ok (X : Cx) : Prop where
  mod : Mod X.K X.mg X.base
  kind : X.env.scope.kind = .function
  glob : X.env.globals = mainGlobals
  blt : X.env.builtins = builtinsNs
  above : X.s₀.heap.objs.size ≤ X.env.locals
  inj : ∀ x y c, X.env.cells.lookup x = some c → X.env.cells.lookup y = some c → x = y
  has : ∀ x, (X.env.kindOf x = some .cell ∨ X.env.kindOf x = some .free) → ∃ c, X.env.cells.lookup x = some c
  cab : ∀ x c, X.fn x = true → X.env.cells.lookup x = some c → X.s₀.heap.objs.size ≤ c
  hd : X.calm = true → X.A.handled = none
  frames : X.A.frames = some X.stack
  stk : X.stack = X.outer ∨ (X.stack = X.env :: X.outer ∧ X.env.frame = some X.env.locals)
  exf : ∀ b ∈ X.ex, b ≠ X.env.locals ∧ ∀ x c, X.env.cells.lookup x = some c → c ≠ b
  bs : ∀ b o, X.base.get? b = some o → X.s₀.heap.get? b = some o ∧ X.H₀ b = none
  bsz : X.base.objs.size ≤ X.s₀.heap.objs.size
  noex : ∀ b o, X.base.get? b = some o → b ∉ X.ex
  exfs : ∀ b ∈ X.ex, b ∉ X.fs
  funs : X.s₀.heap.FunFrames X.base X.outer
  frf : ∀ b ∈ X.fs, X.H₀ b = none

structure Inv (X : Cx) (pins : List (Addr × Obj)) (σ : List (Option V)) (H : Hp) (s : Shared) : Prop where
  ok : X.Ok
  os : s.os = X.s₀.os
  bare : AllBare s.gens
  base : Un X.fs X.ex X.H₀ H X.s₀.heap s.heap
  loc : ∃ m, s.heap.Ns X.env.locals m ∧ ∀ (i : Nat) (x : Str) (v : V), X.N[i]? = some x → σ[i]? = some (some v) → Vis X.env.scope x → ∃ u, RelV v u ∧ Look X.env s.heap m x u
  cell : ∀ x c, X.env.cells.lookup x = some c → ∃ v, s.heap.IsCell c v
  free : H X.env.locals = none
  freeC : ∀ x c, X.env.cells.lookup x = some c → H c = none
  pin : ∀ p ∈ X.pn ++ pins, s.heap.get? p.1 = some p.2 ∧ H p.1 = none ∧ p.1 ≠ X.env.locals ∧ p.1 ∉ X.fs ∧ ∀ v, p.2.data ≠ .cell v
  hok : HOk X.prog X.w H s.heap
  len : σ.length = X.N.length

section
variable {X : Cx} {pins : List (Addr × Obj)} {σ : List (Option V)} {H H' : Hp} {s : Shared} {h' : Heap}

theorem Cx.Ok.nofr (ok : X.Ok) {b : Addr} {o : Obj} (e : X.base.get? b = some o) : b ∉ X.fs := fun hb => by
  have := (ok.funs.mem hb).1
  rw [e] at this; cases this
theorem Inv.bs (I : Inv X pins σ H s) : ∀ b o, X.base.get? b = some o → s.heap.get? b = some o ∧ H b = none := fun b o e =>
  ⟨I.base.keep b o (I.ok.bs b o e).1 (I.ok.bs b o e).2 (I.ok.nofr e) (I.ok.noex b o e), I.base.free b o (I.ok.bs b o e).1 (I.ok.bs b o e).2 (I.ok.noex b o e)⟩
theorem Inv.bk (I : Inv X pins σ H s) : ∀ b o, X.base.get? b = some o → s.heap.get? b = some o := fun b o e => (I.bs b o e).1
theorem Inv.mod (I : Inv X pins σ H s) : Mod X.K X.mg X.base := I.ok.mod
theorem Inv.kIn (I : Inv X pins σ H s) : X.K.In s.heap := I.ok.mod.kin.keeps I.bk
theorem Inv.lt (I : Inv X pins σ H s) : X.env.locals < s.heap.objs.size := let ⟨_, hn, _⟩ := I.loc; hn.lt
theorem Inv.sz (I : Inv X pins σ H s) : X.s₀.heap.objs.size ≤ s.heap.objs.size := Nat.le_trans I.ok.above (Nat.le_of_lt I.lt)
theorem Inv.nofs (I : Inv X pins σ H s) {a : Addr} (h : s.heap.objs.size ≤ a) : a ∉ X.fs := fun hb => by
  obtain ⟨_, o, ho, _⟩ := I.ok.funs.mem hb
  exact absurd (Nat.lt_of_lt_of_le (Heap.lt_size ho) (Nat.le_trans I.sz h)) (Nat.lt_irrefl _)
theorem Inv.cne (I : Inv X pins σ H s) : ∀ x c, X.env.cells.lookup x = some c → c ≠ X.env.locals := fun x c e z => by
  obtain ⟨v, o, ho, hd⟩ := I.cell x c e
  obtain ⟨m, ⟨o', es, ep, ho', hd', _⟩, _⟩ := I.loc
  rw [z, ho'] at ho; cases ho; rw [hd'] at hd; cases hd
theorem Inv.funs (I : Inv X pins σ H s) : s.heap.FunFrames X.base X.outer := by
  have all : ∀ (l : List Env), (∀ b ∈ frs l, b ∈ X.fs) → X.s₀.heap.FunFrames X.base l → s.heap.FunFrames X.base l := by
    intro l
    induction l with
    | nil => intro _ _; trivial
    | cons env r ih =>
      intro hs hl
      obtain ⟨hk, ⟨L, o, hf, hn, ho, hd⟩, hr⟩ := hl
      have hL : L ∈ X.fs := hs L (by unfold frs; rw [List.filterMap_cons, hf]; exact List.mem_cons_self)
      obtain ⟨sl, e⟩ := I.base.slot L o ho (I.ok.frf L hL) hL fun z => I.ok.exfs L z hL
      exact ⟨hk, ⟨L, _, hf, hn, e, hd⟩, ih (fun b hb => hs b (by unfold frs; rw [List.filterMap_cons, hf]; exact List.mem_cons_of_mem _ hb)) hr⟩
  exact all X.outer (fun _ hb => hb) I.ok.funs

/-- the frames that run, for a call -/
theorem Inv.stack (I : Inv X pins σ H s) : s.heap.FunFrames X.base X.stack := by
  rcases I.ok.stk with e | ⟨e, hf⟩
  · rw [e]; exact I.funs
  · rw [e]
    obtain ⟨m, hn, _⟩ := I.loc
    refine .cons (by rw [I.ok.kind]; decide) hf hn ?_ I.funs
    exact Heap.get?_none_of_le (Nat.le_trans I.ok.bsz I.ok.above)
theorem Inv.stkSub (I : Inv X pins σ H s) : ∀ b ∈ frs X.stack, b ∈ X.env.locals :: X.fs := fun b hb => by
  rcases I.ok.stk with e | ⟨e, hf⟩
  · rw [e] at hb; exact List.mem_cons_of_mem _ hb
  · rw [e] at hb
    unfold frs at hb
    rw [List.filterMap_cons, hf] at hb
    exact hb
theorem Inv.stkFree (I : Inv X pins σ H s) : ∀ b ∈ frs X.stack, H b = none := fun b hb => by
  rcases List.mem_cons.mp (I.stkSub b hb) with e | hb
  · rw [e]; exact I.free
  · obtain ⟨_, o, ho, _⟩ := I.ok.funs.mem hb
    exact I.base.free b o ho (I.ok.frf b hb) fun z => I.ok.exfs b z hb

/-- THE STEP: the untracked objects but the frame and the records at ch are kept (the callers' frames up to slots), the frame's map is kept, the new abstract heap is held -/
theorem Inv.step {g' : Array GenState} {t' : Nat} {d' : Drawn} {ch : List Addr} (I : Inv X pins σ H s)
    (hch : ∀ b ∈ ch, (b ∈ X.ex ∨ X.s₀.heap.objs.size ≤ b) ∧ b ≠ X.env.locals ∧ (∀ x c, X.env.cells.lookup x = some c → c ≠ b) ∧ ∀ p ∈ X.pn ++ pins, p.1 ≠ b)
    (keep : ∀ b o, b ≠ X.env.locals → b ∉ X.fs → b ∉ ch → s.heap.get? b = some o → H b = none → h'.get? b = some o)
    (slot : ∀ b o, b ≠ X.env.locals → b ∈ X.fs → b ∉ ch → s.heap.get? b = some o → H b = none → ∃ sl, h'.get? b = some { o with slots := sl }) (free : ∀ b o, b ∉ ch → s.heap.get? b = some o → H b = none → H' b = none)
    (there : ∀ b o, b ∉ ch → s.heap.get? b = some o → ∃ o', h'.get? b = some o')
    (tups : ∀ b xs, H b = some (.tup xs) → H' b = some (.tup xs)) (frzs : ∀ b o u, H b = some (.frz o u) → H' b = some (.frz o u)) (tbls : ∀ b ps, H b = some (.tbl ps) → ∃ more, H' b = some (.tbl (ps ++ more)))
    (ns : ∀ m, s.heap.Ns X.env.locals m → h'.Ns X.env.locals m) (hok : HOk X.prog X.w H' h') (hg : AllBare g') :
    Inv X pins σ H' { s with heap := h', gens := g', drawn := d', toks := t' } := by
  have neL : ∀ b o, X.s₀.heap.get? b = some o → b ≠ X.env.locals := fun b o e => Nat.ne_of_lt (Nat.lt_of_lt_of_le (Heap.lt_size e) I.ok.above)
  have neC : ∀ b o, X.s₀.heap.get? b = some o → b ∉ X.ex → b ∉ ch := fun b o e hx hb => by
    rcases (hch b hb).1 with z | z
    · exact hx z
    · exact absurd (Nat.lt_of_lt_of_le (Heap.lt_size e) z) (Nat.lt_irrefl _)
  have cellK : ∀ x c, X.env.cells.lookup x = some c → ∀ v, s.heap.IsCell c v → h'.IsCell c v := fun x c e v ⟨o, ho, hd⟩ => by
    have nch : c ∉ ch := fun z => (hch c z).2.2.1 x c e rfl
    by_cases hc : c ∈ X.fs
    · obtain ⟨sl, q⟩ := slot c o (I.cne x c e) hc nch ho (I.freeC x c e)
      exact ⟨_, q, hd⟩
    · exact ⟨o, keep c o (I.cne x c e) hc nch ho (I.freeC x c e), hd⟩
  refine ⟨I.ok, I.os, hg, ⟨fun b o e n hb hx => ?_, fun b o e n hb hx => ?_, fun b o e n hx => ?_, fun b o e hx => ?_, fun b xs e => tups b xs (I.base.tups b xs e), fun b o xs e => frzs b o xs (I.base.frzs b o xs e), fun b ps e => ?_⟩, ?_, fun x c e => ?_, ?_, fun x c e => ?_, fun p hp => ?_, hok, I.len⟩
  · exact keep b o (neL b o e) hb (neC b o e hx) (I.base.keep b o e n hb hx) (I.base.free b o e n hx)
  · obtain ⟨sl, e1⟩ := I.base.slot b o e n hb hx
    obtain ⟨sl', e2⟩ := slot b _ (neL b o e) hb (neC b o e hx) e1 (I.base.free b o e n hx)
    exact ⟨sl', e2⟩
  · obtain ⟨o', e1⟩ := I.base.there b o e hx
    exact free b o' (neC b o e hx) e1 (I.base.free b o e n hx)
  · obtain ⟨o', e1⟩ := I.base.there b o e hx
    exact there b o' (neC b o e hx) e1
  · obtain ⟨m1, e1⟩ := I.base.tbls b ps e
    obtain ⟨m2, e2⟩ := tbls b _ e1
    exact ⟨m1 ++ m2, by rw [e2, Array.append_assoc]⟩
  · obtain ⟨m, hn, hl⟩ := I.loc
    refine ⟨m, ns m hn, fun i x v e1 e2 e3 => ?_⟩
    obtain ⟨u, r, l⟩ := hl i x v e1 e2 e3
    refine ⟨u, r, ?_⟩
    rcases l with l | ⟨k, c, e, z⟩
    · exact .inl l
    · exact .inr ⟨k, c, e, cellK x c e _ z⟩
  · obtain ⟨v, z⟩ := I.cell x c e
    exact ⟨v, cellK x c e v z⟩
  · obtain ⟨m, ⟨o, _, _, ho, _⟩, _⟩ := I.loc
    exact free _ o (fun z => (hch _ z).2.1 rfl) ho I.free
  · obtain ⟨v, o, ho, hd⟩ := I.cell x c e
    exact free c o (fun z => (hch c z).2.2.1 x c e rfl) ho (I.freeC x c e)
  · obtain ⟨e, n, ne, nf, d⟩ := I.pin p hp
    have nch : p.1 ∉ ch := fun z => (hch p.1 z).2.2.2 p hp rfl
    exact ⟨keep p.1 p.2 ne nf nch e n, free p.1 p.2 nch e n, ne, nf, d⟩
/-- .. where the frame's own object is kept too -/
theorem Inv.un {t' : Nat} (I : Inv X pins σ H s) (u : Un X.fs [] H H' s.heap h') (hok : HOk X.prog X.w H' h') : Inv X pins σ H' { s with heap := h', toks := t' } := by
  obtain ⟨m, ⟨o, es, ep, ho, r⟩, _⟩ := id I.loc
  obtain ⟨sl, hL⟩ := u.any ho I.free (by simp)
  exact I.step (g' := s.gens) (d' := s.drawn) (ch := []) (fun _ z => nomatch z) (fun b o _ hb _ e n => u.keep b o e n hb (by simp)) (fun b o _ hb _ e n => u.slot b o e n hb (by simp)) (fun b o _ e n => u.free b o e n (by simp)) (fun b o _ e => u.there b o e (by simp)) u.tups u.frzs u.tbls (fun m' hm => by
    obtain ⟨o', es', ep', ho', r'⟩ := hm
    rw [ho] at ho'; cases ho'
    exact ⟨_, es', ep', hL, r'⟩) hok I.bare
/-- behind a call (or a comprehension's block): the slots of this frame may have changed too, the records at ch may have turned -/
theorem Inv.call {g' : Array GenState} {t' : Nat} {d' : Drawn} {ch : List Addr} (I : Inv X pins σ H s) (u : Un (frs X.stack) ch H H' s.heap h') (hok : HOk X.prog X.w H' h') (hg : AllBare g')
    (hch : ∀ b ∈ ch, (b ∈ X.ex ∨ X.s₀.heap.objs.size ≤ b) ∧ b ≠ X.env.locals ∧ (∀ x c, X.env.cells.lookup x = some c → c ≠ b) ∧ ∀ p ∈ X.pn ++ pins, p.1 ≠ b) :
    Inv X pins σ H' { s with heap := h', gens := g', drawn := d', toks := t' } := by
  obtain ⟨m, ⟨o, es, ep, ho, r⟩, _⟩ := id I.loc
  obtain ⟨sl, hL⟩ := u.any ho I.free fun z => (hch _ z).2.1 rfl
  exact I.step (ch := ch) hch (fun b o hL hb hc e n => u.keep b o e n (fun z => (List.mem_cons.mp (I.stkSub b z)).elim hL hb) hc) (fun b o _ _ hc e n => u.any e n hc) (fun b o hc e n => u.free b o e n hc) (fun b o hc e => u.there b o e hc) u.tups u.frzs u.tbls (fun m' hm => by
    obtain ⟨o', es', ep', ho', r'⟩ := hm
    rw [ho] at ho'; cases ho'
    exact ⟨_, es', ep', hL, r'⟩) hok hg
/-- an untracked record of ours (an iterator) has turned -/
theorem Inv.turned {t' : Nat} {it : Addr} (I : Inv X pins σ H s) (k : ∀ b o, b ≠ it → s.heap.get? b = some o → h'.get? b = some o) (hn : H it = none) (hL : it ≠ X.env.locals)
    (h1 : it ∈ X.ex ∨ X.s₀.heap.objs.size ≤ it) (h2 : ∀ x c, X.env.cells.lookup x = some c → c ≠ it) (h3 : ∀ p ∈ X.pn ++ pins, p.1 ≠ it) : Inv X pins σ H { s with heap := h', toks := t' } := by
  have nit : ∀ b u, H b = some u → b ≠ it := fun b u e z => by rw [z, hn] at e; cases e
  refine I.step (g' := s.gens) (d' := s.drawn) (ch := [it]) (fun b hb => ?_) (fun b o _ _ hc e _ => k b o (fun z => hc (by simp [z])) e) (fun b o _ _ hc e _ => ⟨o.slots, k b o (fun z => hc (by simp [z])) e⟩) (fun _ _ _ _ n => n)
    (fun b o hc e => ⟨o, k b o (fun z => hc (by simp [z])) e⟩) (fun _ _ e => e) (fun _ _ _ e => e) (fun b ps e => ⟨#[], by rw [e]; simp⟩) (fun m hm => ?_) (fun b u e => ?_) I.bare
  · have e : b = it := by simpa using hb
    subst e
    exact ⟨h1, hL, h2, h3⟩
  · obtain ⟨o, es, ep, ho, r⟩ := hm
    exact ⟨o, es, ep, k _ o (Ne.symm hL) ho, r⟩
  · refine (I.hok b u e).stay (fun c v hc q => k c v ?_ q) (fun _ q => q) fun _ _ q => q
    rcases hc with z | z
    · rw [z]; exact nit b u e
    · exact nit c _ z
theorem Inv.tok (I : Inv X pins σ H s) (t : Nat) : Inv X pins σ H { s with toks := t } := I.un (h' := s.heap) (t' := t) Un.refl I.hok
/-- all objects kept -/
theorem Inv.kept {t' : Nat} (I : Inv X pins σ H s) (k : ∀ b u, s.heap.get? b = some u → h'.get? b = some u) : Inv X pins σ H { s with heap := h', toks := t' } := I.un (Un.kept k) (I.hok.kept k)
/-- a new object laid and tracked -/
theorem Inv.laid {a : Addr} {o : HO} {t' : Nat} (I : Inv X pins σ H s) (k : ∀ b u, s.heap.get? b = some u → h'.get? b = some u) (hp : s.heap.objs.size ≤ a) (new : ObjOk X.prog X.w (upd H a o) h' a o) :
    Inv X pins σ (upd H a o) { s with heap := h', toks := t' } := I.un (Un.laid k hp (I.hok.fresh hp)) (I.hok.laid k hp new)
/-- an object written -/
theorem Inv.write {x e : Addr} {o : HO} {t' : Nat} (I : Inv X pins σ H s) (mu : Mut (H x)) (he : e = x ∨ H e = some (.own x)) (k : ∀ b u, b ≠ e → s.heap.get? b = some u → h'.get? b = some u) (heo : ∃ u, h'.get? e = some u)
    (new : ObjOk X.prog X.w (upd H x o) h' x o) : Inv X pins σ (upd H x o) { s with heap := h', toks := t' } := I.un (Un.write mu he k heo) (I.hok.write mu he k heo new)
/-- forgetting slots, pins -/
theorem Inv.weak {σ' : List (Option V)} (I : Inv X pins σ H s) (hl : σ'.length = σ.length) (w : ∀ (i : Nat) v, σ'[i]? = some (some v) → σ[i]? = some (some v)) : Inv X pins σ' H s :=
  ⟨I.ok, I.os, I.bare, I.base, let ⟨m, hn, hl'⟩ := I.loc; ⟨m, hn, fun i x v e1 e2 e3 => hl' i x v e1 (w i v e2) e3⟩, I.cell, I.free, I.freeC, I.pin, I.hok, hl.trans I.len⟩
theorem Inv.pins_of {pins' : List (Addr × Obj)} (I : Inv X pins σ H s) (h : ∀ p ∈ pins', s.heap.get? p.1 = some p.2 ∧ H p.1 = none ∧ p.1 ≠ X.env.locals ∧ p.1 ∉ X.fs ∧ ∀ v, p.2.data ≠ .cell v) : Inv X pins' σ H s :=
  ⟨I.ok, I.os, I.bare, I.base, I.loc, I.cell, I.free, I.freeC, fun p hp => (List.mem_append.mp hp).elim (fun z => I.pin p (List.mem_append_left _ z)) (h p), I.hok, I.len⟩

theorem nodup_ix {N : List Str} (hN : N.Nodup) {i j : Nat} {x : Str} (a : N[i]? = some x) (b : N[j]? = some x) : i = j := by
  obtain ⟨h1, e1⟩ := List.getElem?_eq_some_iff.mp a
  obtain ⟨h2, e2⟩ := List.getElem?_eq_some_iff.mp b
  exact (List.getElem_inj hN).mp (e1.trans e2.symm)

/-- a name is stored; what changed -/
theorem store_ok2 {M : Model} {A : Around} {E : Value → Shared → Prop} {i : Nat} {x : Str} {v : V} {u : Value} {Q : Unit → Shared → Prop} (I : Inv X pins σ H s) (hN : X.N.Nodup) (hi : X.N[i]? = some x) (hx : Loc X.env.scope x) (r : RelV v u)
    (h : ∀ s', Inv X pins (σ.set i (some v)) H s' → (∃ a, Heap.SameBut a s.heap s'.heap ∧ (a = X.env.locals ∨ X.env.cells.lookup x = some a)) → Q () s') (hf : X.fn x = true ∨ X.env.scope.names.lookup x = some .local := by first | exact .inl rfl | exact .inr rfl | assumption) : wpAny M A (storeName X.env x u) Q E s := by
  obtain ⟨m, hn, hl⟩ := id I.loc
  have hcls : (X.env.scope.kind == .class || (X.env.scope.kind == .module && X.env.locals != X.env.globals)) = false := by rw [I.ok.kind]; rfl
  have hiσ : i < σ.length := by rw [I.len]; exact (List.getElem?_eq_some_iff.mp hi).1
  have cne := I.cne
  have tracked : ∀ {a : Addr} {h' : Heap}, (∃ o, s.heap.get? a = some o ∧ H a = none) → Heap.SameBut a s.heap h' → HOk X.prog X.w H h' := fun {a h'} ha hs b ob e => by
    obtain ⟨_, _, hfree⟩ := ha
    refine (I.hok b ob e).stay (fun c w' hc q => (hs.2 c ?_).trans q) (fun _ q => q) fun _ _ q => q
    rintro rfl
    rcases hc with rfl | hc
    · rw [hfree] at e; cases e
    · rw [hfree] at hc; cases hc
  rcases hx with hk | hk
  · refine wpAny_storeName_local hk hn (fun h' hn' hs => ?_) hcls
    obtain ⟨oL, _, _, hoL, _⟩ := id hn
    refine h _ ⟨I.ok, I.os, I.bare, ⟨fun b o e n hb hx => ?_, fun b o e n hb hx => ?_, I.base.free, fun b o e hx => ?_, I.base.tups, I.base.frzs, I.base.tbls⟩, ⟨_, hn', fun j y v' e1 e2 e3 => ?_⟩, fun y c e => ?_, I.free, I.freeC, fun p hp => ?_, tracked ⟨oL, hoL, I.free⟩ hs, by simpa using I.len⟩ ⟨_, hs, .inl rfl⟩
    · exact (hs.2 b (Nat.ne_of_lt (Nat.lt_of_lt_of_le (Heap.lt_size e) I.ok.above))).trans (I.base.keep b o e n hb hx)
    · obtain ⟨sl, e1⟩ := I.base.slot b o e n hb hx
      exact ⟨sl, (hs.2 b (Nat.ne_of_lt (Nat.lt_of_lt_of_le (Heap.lt_size e) I.ok.above))).trans e1⟩
    · obtain ⟨o', e1⟩ := I.base.there b o e hx
      exact ⟨o', (hs.2 b (Nat.ne_of_lt (Nat.lt_of_lt_of_le (Heap.lt_size e) I.ok.above))).trans e1⟩
    · by_cases hj : j = i
      · subst hj
        rw [hi] at e1; cases e1
        rw [List.getElem?_set_self hiσ] at e2
        cases e2
        exact ⟨u, r, .inl ⟨hk, by simp⟩⟩
      · rw [List.getElem?_set_ne (Ne.symm hj)] at e2
        obtain ⟨u', r', q⟩ := hl j y v' e1 e2 e3
        refine ⟨u', r', ?_⟩
        rcases q with ⟨k, e⟩ | ⟨k, c, e, z⟩
        · refine .inl ⟨k, ?_⟩
          have : y ≠ x := fun e => hj (nodup_ix hN e1 (e ▸ hi))
          simp [this, e]
        · exact .inr ⟨k, c, e, z.sameBut hs (cne y c e)⟩
    · obtain ⟨w', z⟩ := I.cell y c e
      exact ⟨w', z.sameBut hs (cne y c e)⟩
    · obtain ⟨e, n, ne, nf, d⟩ := I.pin p hp
      exact ⟨(hs.2 p.1 ne).trans e, n, ne, nf, d⟩
  · have hfn : X.fn x = true := by
      rcases hf with z | z
      · exact z
      · rw [z] at hk; cases hk
    obtain ⟨c, hc⟩ := I.ok.has x (.inl hk)
    obtain ⟨w', z⟩ := I.cell x c hc
    refine wpAny_storeName_cell I.ok.kind hk hc z (fun h' hc' hs => ?_)
    obtain ⟨oc, hoc, hocd⟩ := id z
    refine h { s with heap := h' } ⟨I.ok, I.os, I.bare, ⟨fun b o e n hb hx => ?_, fun b o e n hb hx => ?_, I.base.free, fun b o e hx => ?_, I.base.tups, I.base.frzs, I.base.tbls⟩, ⟨m, hn.sameBut hs (Ne.symm (cne x c hc)), fun j y v' e1 e2 e3 => ?_⟩, fun y c' e => ?_, I.free, I.freeC, fun p hp => ?_, tracked ⟨oc, hoc, I.freeC x c hc⟩ hs, by simpa using I.len⟩ ⟨c, hs, .inr hc⟩
    · exact (hs.2 b (Nat.ne_of_lt (Nat.lt_of_lt_of_le (Heap.lt_size e) (I.ok.cab x c hfn hc)))).trans (I.base.keep b o e n hb hx)
    · obtain ⟨sl, e1⟩ := I.base.slot b o e n hb hx
      exact ⟨sl, (hs.2 b (Nat.ne_of_lt (Nat.lt_of_lt_of_le (Heap.lt_size e) (I.ok.cab x c hfn hc)))).trans e1⟩
    · obtain ⟨o', e1⟩ := I.base.there b o e hx
      exact ⟨o', (hs.2 b (Nat.ne_of_lt (Nat.lt_of_lt_of_le (Heap.lt_size e) (I.ok.cab x c hfn hc)))).trans e1⟩
    · by_cases hj : j = i
      · subst hj
        rw [hi] at e1; cases e1
        rw [List.getElem?_set_self hiσ] at e2
        cases e2
        exact ⟨u, r, .inr ⟨.inl hk, c, hc, hc'⟩⟩
      · rw [List.getElem?_set_ne (Ne.symm hj)] at e2
        obtain ⟨u', r', q⟩ := hl j y v' e1 e2 e3
        refine ⟨u', r', ?_⟩
        rcases q with q | ⟨k, c', e, z'⟩
        · exact .inl q
        · refine .inr ⟨k, c', e, z'.sameBut hs ?_⟩
          rintro rfl
          exact hj (nodup_ix hN e1 (I.ok.inj _ _ _ e hc ▸ hi))
    · by_cases hcc : c' = c
      · subst hcc; exact ⟨_, hc'⟩
      · obtain ⟨w2, z2⟩ := I.cell y c' e
        exact ⟨w2, z2.sameBut hs hcc⟩
    · obtain ⟨e, n, ne, nf, d⟩ := I.pin p hp
      refine ⟨(hs.2 p.1 ?_).trans e, n, ne, nf, d⟩
      intro q
      rw [q, hoc] at e
      have q' : oc = p.2 := Option.some.inj e
      exact d w' (by rw [← q']; exact hocd)
theorem store_ok {M : Model} {A : Around} {E : Value → Shared → Prop} {i : Nat} {x : Str} {v : V} {u : Value} {Q : Unit → Shared → Prop} (I : Inv X pins σ H s) (hN : X.N.Nodup) (hi : X.N[i]? = some x) (hx : Loc X.env.scope x) (r : RelV v u)
    (h : ∀ s', Inv X pins (σ.set i (some v)) H s' → Q () s') (hf : X.fn x = true ∨ X.env.scope.names.lookup x = some .local := by first | exact .inl rfl | exact .inr rfl | assumption) : wpAny M A (storeName X.env x u) Q E s :=
  store_ok2 I hN hi hx r (fun s' I' _ => h s' I') hf
/-- behind a call or a block, the state as it is -/
theorem Inv.call' {s' : Shared} {ch : List Addr} (I : Inv X pins σ H s) (ho : s'.os = s.os) (u : Un (frs X.stack) ch H H' s.heap s'.heap) (hok : HOk X.prog X.w H' s'.heap) (hg : AllBare s'.gens)
    (hch : ∀ b ∈ ch, (b ∈ X.ex ∨ X.s₀.heap.objs.size ≤ b) ∧ b ≠ X.env.locals ∧ (∀ x c, X.env.cells.lookup x = some c → c ≠ b) ∧ ∀ p ∈ X.pn ++ pins, p.1 ≠ b) : Inv X pins σ H' s' := by
  obtain ⟨h', g', d', t', o'⟩ := s'
  have e : o' = s.os := ho
  subst e
  exact I.call (g' := g') (t' := t') (d' := d') u hok hg hch
end

/-! ### the judgements -/
/-- an exception: its class, its own dict's address (where it has one), the abstract heap behind it -/
abbrev XK := Value → Option Addr → Hp → Prop
abbrev St := List (Option V)
abbrev VK := V → Hp → Prop
/-- an expression's reading; a test's; an argument list's -/
abbrev TE := St → Hp → VK → Prop
abbrev TT := St → Hp → (Bool → Hp → Prop) → Prop
abbrev TA := St → Hp → (List V → Hp → Prop) → Prop
/-- what is wanted behind a statement -/
structure Ends where
  nx : St → Hp → Prop
  rt : VK
  bk : St → Hp → Prop := fun _ _ => False
  ct : St → Hp → Prop := fun _ _ => False
abbrev TS := Ends → St → Hp → Prop

def EP (X : Cx) (pins : List (Addr × Obj)) (σ : St) (Q : VK) (u : Value) (s' : Shared) : Prop := ∃ v H', Inv X pins σ H' s' ∧ RelV v u ∧ Q v H'
def TP (X : Cx) (pins : List (Addr × Obj)) (σ : St) (Q : Bool → Hp → Prop) (b : Bool) (s' : Shared) : Prop := ∃ H', Inv X pins σ H' s' ∧ Q b H'
def AP (X : Cx) (pins : List (Addr × Obj)) (σ : St) (Q : List V → Hp → Prop) (us : List Value) (s' : Shared) : Prop := ∃ vs H', Inv X pins σ H' s' ∧ Vals vs us ∧ Q vs H'
def SP (X : Cx) (pins : List (Addr × Obj)) (D : Ends) (f : Flow) (s' : Shared) : Prop :=
  match f with
  | .next => ∃ σ' H', Inv X pins σ' H' s' ∧ D.nx σ' H'
  | .brk => ∃ σ' H', Inv X pins σ' H' s' ∧ D.bk σ' H'
  | .cont => ∃ σ' H', Inv X pins σ' H' s' ∧ D.ct σ' H'
  | .ret u => ∃ v σ' H', Inv X pins σ' H' s' ∧ RelV v u ∧ D.rt v H'

def PE (X : Cx) (e : Expr) (t : TE) : Prop :=
  ∀ (pins : List (Addr × Obj)) (s : Shared) (σ : St) (H : Hp) (Q : VK), Inv X pins σ H s → t σ H Q → wpAny (model X.prog X.w) X.A (eval e X.env) (EP X pins σ Q) X.xe s
def PT (X : Cx) (e : Expr) (t : TT) : Prop :=
  ∀ (pins : List (Addr × Obj)) (s : Shared) (σ : St) (H : Hp) (Q : Bool → Hp → Prop), Inv X pins σ H s → t σ H Q → wpAny (model X.prog X.w) X.A (isTrue e X.env (eval e X.env)) (TP X pins σ Q) X.xe s
/-- a test whatever its 'whole' is (and, or) -/
def PW (X : Cx) (e : Expr) (t : TT) : Prop :=
  ∀ (whole : Sem Value) (pins : List (Addr × Obj)) (s : Shared) (σ : St) (H : Hp) (Q : Bool → Hp → Prop), Inv X pins σ H s → t σ H Q → wpAny (model X.prog X.w) X.A (isTrue e X.env whole) (TP X pins σ Q) X.xe s
theorem PW.pt {X : Cx} {e : Expr} {t : TT} (h : PW X e t) : PT X e t := h _
/-- an argument list (no star), from the left -/
def PA (X : Cx) (es : List Expr) (t : TA) : Prop :=
  ∀ (pos : Pos) (pins : List (Addr × Obj)) (s : Shared) (σ : St) (H : Hp) (Q : List V → Hp → Prop), Inv X pins σ H s → t σ H Q → wpAny (model X.prog X.w) X.A (spliced (backTo pos (starEach es X.env))) (AP X pins σ Q) X.xe s
def PS (X : Cx) (st : Stmt) (t : TS) : Prop :=
  ∀ (pins : List (Addr × Obj)) (s : Shared) (σ : St) (H : Hp) (D : Ends), Inv X pins σ H s → t D σ H → wpAny (model X.prog X.w) X.A (exec st X.env) (SP X pins D) X.xe s
def PSs (X : Cx) (st : List Stmt) (t : TS) : Prop :=
  ∀ (pins : List (Addr × Obj)) (s : Shared) (σ : St) (H : Hp) (D : Ends), Inv X pins σ H s → t D σ H → wpAny (model X.prog X.w) X.A (execs st X.env) (SP X pins D) X.xe s
/-- weaken the end -/
theorem thn {α : Type} {t : Sem α} {Q Q' : α → Shared → Prop} {M : Model} {A : Around} {E : Value → Shared → Prop} {s : Shared} (h : wpAny M A t Q E s) (hQ : ∀ a s, Q a s → Q' a s) : wpAny M A t Q' E s := wpAny_mono h hQ fun _ _ x => x
end L2

namespace L2
open PySem PySem.Spec PyProof.Rows
section
variable {X : Cx}

/-- two expressions in a row -/
theorem bin {a b : Expr} {ta tb : TE} (ha : PE X a ta) (hb : PE X b tb) {pins : List (Addr × Obj)} {s : Shared} {σ : St} {H : Hp} {R : V → V → Hp → Prop} (I : Inv X pins σ H s) (h : ta σ H fun x H1 => tb σ H1 fun y H2 => R x y H2)
    {α : Type} {Q : α → Shared → Prop} {f : Value → Value → Sem α}
    (hf : ∀ v u s2 x y H2, Inv X pins σ H2 s2 → RelV x v → RelV y u → R x y H2 → wpAny (model X.prog X.w) X.A (f v u) Q X.xe s2) :
    wpAny (model X.prog X.w) X.A (eval a X.env) (fun v s₁ => wpAny (model X.prog X.w) X.A (eval b X.env) (fun u s₂ => wpAny (model X.prog X.w) X.A (f v u) Q X.xe s₂) X.xe s₁) X.xe s := by
  refine thn (ha pins s σ H _ I h) fun v s1 ⟨x, H1, I1, r1, q1⟩ => ?_
  refine thn (hb pins s1 σ H1 _ I1 q1) fun u s2 ⟨y, H2, I2, r2, q2⟩ => ?_
  exact hf v u s2 x y H2 I2 r1 r2 q2

/-! ### names and constants -/
def tVar (i : Nat) : TE := fun σ H Q => ∃ v, σ[i]? = some (some v) ∧ Q v H
def tC (v : V) : TE := fun _ H Q => Q v H
theorem pe_var {i : Nat} {x : Str} {pos : Pos} (hN : X.N[i]? = some x) (hv : Vis X.env.scope x) (hd : (x == ("__debug__" : Str)) = false := by decide) (hcd : (x == ("__classdict__" : Str)) = false := by decide) : PE X (.Name x pos) (tVar i) := by
  intro pins s σ H Q I h
  obtain ⟨v, e, h⟩ := h
  obtain ⟨m, hn, hl⟩ := I.loc
  obtain ⟨u, r, l⟩ := hl i x v hN e hv
  have fin : EP X pins σ Q u s := ⟨v, H, I, r, h⟩
  rcases l with ⟨hk, hm⟩ | ⟨hk, c, hc, hcell⟩
  · exact wpAny_Name (wpAny_loadName_local I.ok.kind hk hn hm fin) hd
  · rcases hk with hk | hk
    · exact wpAny_Name (wpAny_loadName_cell I.ok.kind hk hc hcell fin) hd
    · exact wpAny_Name (wpAny_loadName_free I.ok.kind hk hc hcell fin hcd) hd
theorem pe_int {i j pos} : PE X (.Constant (.int i) j pos) (tC (.int i)) := fun _ _ _ H _ I h => wpAny_Constant_int ⟨.int i, H, I.tok _, ⟨_, rfl⟩, h⟩
theorem pe_bl {b j pos} : PE X (.Constant (.bool b) j pos) (tC (.bl b)) := fun _ _ _ H _ I h => Constant_bool ⟨.bl b, H, I, rfl, h⟩
theorem pe_str {x j pos} : PE X (.Constant (.str x) j pos) (tC (.str x)) := fun _ _ _ H _ I h => Calls.Constant_str ⟨.str x, H, I.tok _, ⟨_, rfl⟩, h⟩

/-- a global name of the def -/
def Gl (X : Cx) (x : Str) : Prop := X.env.kindOf x = some .globalImplicit
theorem ld_glob {E : Value → Shared → Prop} {pins : List (Addr × Obj)} {s : Shared} {σ : St} {H : Hp} {x : Str} {u : Value} {pos : Pos} {Q : Value → Shared → Prop} (I : Inv X pins σ H s) (hg : Gl X x) (hm : X.mg x = some u) (h : Q u s)
    (hd : (x == ("__debug__" : Str)) = false := by decide) : wpAny (model X.prog X.w) X.A (eval (.Name x pos) X.env) Q E s :=
  Calls.Name_function_global I.ok.kind hg (Calls.loadGlobal_global (by rw [I.ok.glob]; exact I.mod.glob.keeps I.bk) hm h) hd
theorem ld_blt {E : Value → Shared → Prop} {pins : List (Addr × Obj)} {s : Shared} {σ : St} {H : Hp} {x : Str} {u : Value} {pos : Pos} {Q : Value → Shared → Prop} (I : Inv X pins σ H s) (hg : Gl X x) (hm : X.mg x = none) (hv : bootBuiltins x = some u) (h : Q u s)
    (hn : x ≠ "__name__" := by decide) (hd : (x == ("__debug__" : Str)) = false := by decide) : wpAny (model X.prog X.w) X.A (eval (.Name x pos) X.env) Q E s := by
  obtain ⟨mb, h1, h2⟩ := I.mod.blt
  exact Calls.Name_function_global I.ok.kind hg (Calls.loadGlobal_builtin (by rw [I.ok.glob]; exact I.mod.glob.keeps I.bk) hm (by rw [I.ok.blt]; exact h1.keeps I.bk) ((h2 x hn).trans hv) h) hd
/-- a module's constant, a class, a function, as a value -/
theorem pe_glob {x : Str} {v : V} {u : Value} {pos : Pos} (hg : Gl X x) (hm : X.mg x = some u) (r : RelV v u) (hd : (x == ("__debug__" : Str)) = false := by decide) : PE X (.Name x pos) (tC v) :=
  fun _ _ _ H _ I h => ld_glob I hg hm ⟨v, H, I, r, h⟩ hd
theorem pe_bltn {x : Str} {v : V} {u : Value} {pos : Pos} (hg : Gl X x) (hm : X.mg x = none) (hv : bootBuiltins x = some u) (r : RelV v u) (hn : x ≠ "__name__" := by decide) (hd : (x == ("__debug__" : Str)) = false := by decide) : PE X (.Name x pos) (tC v) :=
  fun _ _ _ H _ I h => ld_blt I hg hm hv ⟨v, H, I, r, h⟩ hn hd

/-! ### arithmetic -/
/-- two ints -/
def t2I (ta tb : TE) (k : Int → Int → Hp → Prop) : St → Hp → Prop := fun σ H => ta σ H fun x H1 => tb σ H1 fun y H2 => ∃ i j, x = .int i ∧ y = .int j ∧ k i j H2
def tAdd (ta tb : TE) : TE := fun σ H Q => t2I ta tb (fun i j H2 => Q (.int (i + j)) H2) σ H
def tSub (ta tb : TE) : TE := fun σ H Q => t2I ta tb (fun i j H2 => Q (.int (i - j)) H2) σ H
/-- the left factor below 2^64 -/
def tMul (ta tb : TE) : TE := fun σ H Q => t2I ta tb (fun i j H2 => (-(2 ^ 64) < i ∧ i < 2 ^ 64) ∧ Q (.int (i * j)) H2) σ H
variable {a b : Expr} {ta tb : TE} {pos : Pos}
/-! ### comparisons -/
def PC (X : Cx) (op : CmpOp) (a b : Expr) (t : TE) : Prop :=
  ∀ (pins : List (Addr × Obj)) (s : Shared) (σ : St) (H : Hp) (Q : VK), Inv X pins σ H s → t σ H Q →
    wpAny (model X.prog X.w) X.A (eval a X.env) (fun v s₁ => wpAny (model X.prog X.w) X.A (eval b X.env) (fun u s₂ => wpAny (model X.prog X.w) X.A (compareOp op v u) (EP X pins σ Q) X.xe s₂) X.xe s₁) X.xe s
def tCmp (p : Int → Int → Bool) (ta tb : TE) : TE := fun σ H Q => t2I ta tb (fun i j H2 => Q (.bl (p i j)) H2) σ H
abbrev tLt : TE → TE → TE := tCmp fun i j => decide (i < j)
abbrev tLe : TE → TE → TE := tCmp fun i j => decide (i ≤ j)
abbrev tGt : TE → TE → TE := tCmp fun i j => decide (j < i)
abbrev tGe : TE → TE → TE := tCmp fun i j => decide (j ≤ i)
abbrev tEqI : TE → TE → TE := tCmp fun i j => decide (i = j)
abbrev tNeI : TE → TE → TE := tCmp fun i j => !decide (i = j)
/-- is None -/
def tIsN (ta : TE) : TE := fun σ H Q => ta σ H fun x H1 => Q (.bl (decide (x = .non))) H1
def tNotN (ta : TE) : TE := fun σ H Q => ta σ H fun x H1 => Q (.bl (!decide (x = .non))) H1
/-- a comparison as a value, as a test -/
def tB (t : TE) : TT := fun σ H Q => t σ H fun x H1 => ∃ c, x = .bl c ∧ Q c H1
/-- an expression whose value is a bool, as a test -/
theorem pt_val {e : Expr} {t : TE} (h : PE X e t) (he : ∀ whole, isTrue e X.env whole = (do let v ← whole; standAt e.pos; holding [v] (truthy v)) := by intro _; rfl) : PT X e (tB t) := by
  intro pins s σ H Q I hw
  refine isTrue_plain (thn (h pins s σ H _ I hw) fun v s1 ⟨x, H1, I1, r1, q1⟩ => ?_) (he _)
  obtain ⟨d, rfl, q⟩ := q1
  cases r1
  exact wpAny_truthy_bool ⟨H1, I1, q⟩

/-! ### and, or, not -/
variable {tA tB' : TT} {rest : List Expr}
def tAnd (t u : TT) : TT := fun σ H Q => t σ H fun c H1 => if c = true then u σ H1 Q else Q false H1
def tOr (t u : TT) : TT := fun σ H Q => t σ H fun c H1 => if c = true then Q true H1 else u σ H1 Q
def tNot (t : TT) : TT := fun σ H Q => t σ H fun c H1 => Q (!c) H1
theorem pw_and1 (ha : PT X a tA) : PW X (.BoolOp .And [a] pos) tA := by
  intro wh pins s σ H Q I h
  refine isTrue_and (thn (ha pins s σ H Q I h) fun c s1 e => ?_)
  cases c with
  | true => exact isTrue_and_nil e
  | false => exact e
theorem pw_or1 (ha : PT X a tA) : PW X (.BoolOp .Or [a] pos) tA := by
  intro wh pins s σ H Q I h
  refine isTrue_or (thn (ha pins s σ H Q I h) fun c s1 e => ?_)
  cases c with
  | false => exact isTrue_or_nil e
  | true => exact e
theorem pw_and (ha : PT X a tA) (hb : PW X (.BoolOp .And (b :: rest) pos) tB') : PW X (.BoolOp .And (a :: b :: rest) pos) (tAnd tA tB') := by
  intro wh pins s σ H Q I h
  refine isTrue_and (thn (ha pins s σ H _ I h) fun c s1 ⟨H1, I1, q1⟩ => ?_)
  cases c with
  | true => exact hb wh pins s1 σ H1 Q I1 q1
  | false => exact ⟨H1, I1, q1⟩
theorem pw_or (ha : PT X a tA) (hb : PW X (.BoolOp .Or (b :: rest) pos) tB') : PW X (.BoolOp .Or (a :: b :: rest) pos) (tOr tA tB') := by
  intro wh pins s σ H Q I h
  refine isTrue_or (thn (ha pins s σ H _ I h) fun c s1 ⟨H1, I1, q1⟩ => ?_)
  cases c with
  | true => exact ⟨H1, I1, q1⟩
  | false => exact hb wh pins s1 σ H1 Q I1 q1
theorem pt_not (ha : PT X a tA) : PT X (.UnaryOp .Not a pos) (tNot tA) := by
  intro pins s σ H Q I h
  exact isTrue_not (ha pins s σ H (fun c H1 => Q (!c) H1) I h)
/-- .. as values (bools) -/
def tAndV (ta tb : TE) : TE := fun σ H Q => ta σ H fun x H1 => ∃ c, x = .bl c ∧ if c = true then tb σ H1 Q else Q (.bl false) H1
def tOrV (ta tb : TE) : TE := fun σ H Q => ta σ H fun x H1 => ∃ c, x = .bl c ∧ if c = true then Q (.bl true) H1 else tb σ H1 Q
def tNotV (ta : TE) : TE := fun σ H Q => ta σ H fun x H1 => ∃ c, x = .bl c ∧ Q (.bl (!c)) H1
theorem pe_one {op} {t : TE} (h : PE X a t) : PE X (.BoolOp op [a] pos) t := fun pins s σ H Q I hw => BoolOp_one (h pins s σ H Q I hw)
theorem pe_and (ha : PE X a ta) (hb : PE X (.BoolOp .And (b :: rest) pos) tb) : PE X (.BoolOp .And (a :: b :: rest) pos) (tAndV ta tb) := by
  intro pins s σ H Q I h
  refine BoolOp_and (thn (ha pins s σ H _ I h) fun v s1 ⟨x, H1, I1, r1, q1⟩ => ?_)
  obtain ⟨c, rfl, q1⟩ := q1
  cases r1
  refine wpAny_truthy_bool ?_
  cases c with
  | true => exact hb pins s1 σ H1 Q I1 q1
  | false => exact ⟨.bl false, H1, I1, rfl, q1⟩
theorem pe_or (ha : PE X a ta) (hb : PE X (.BoolOp .Or (b :: rest) pos) tb) : PE X (.BoolOp .Or (a :: b :: rest) pos) (tOrV ta tb) := by
  intro pins s σ H Q I h
  refine BoolOp_or (thn (ha pins s σ H _ I h) fun v s1 ⟨x, H1, I1, r1, q1⟩ => ?_)
  obtain ⟨c, rfl, q1⟩ := q1
  cases r1
  refine wpAny_truthy_bool ?_
  cases c with
  | false => exact hb pins s1 σ H1 Q I1 q1
  | true => exact ⟨.bl true, H1, I1, rfl, q1⟩
theorem pe_not (ha : PE X a ta) : PE X (.UnaryOp .Not a pos) (tNotV ta) := by
  intro pins s σ H Q I h
  refine UnaryOp_ (thn (ha pins s σ H _ I h) fun v s1 ⟨x, H1, I1, r1, q1⟩ => ?_)
  obtain ⟨c, rfl, q1⟩ := q1
  cases r1
  exact not_of (wpAny_truthy_bool ⟨.bl (!c), H1, I1, rfl, q1⟩)
/-- a if t else b -/
def tIf (t : TT) (ta tb : TE) : TE := fun σ H Q => t σ H fun c H1 => if c = true then ta σ H1 Q else tb σ H1 Q
theorem pe_ifExp {c : Expr} (hc : PT X c tA) (ha : PE X a ta) (hb : PE X b tb) : PE X (.IfExp c a b pos) (tIf tA ta tb) := by
  intro pins s σ H Q I h
  refine wpAny_IfExp (thn (hc pins s σ H _ I h) fun d s1 ⟨H1, I1, q1⟩ => ?_)
  cases d with
  | true => exact ha pins s1 σ H1 Q I1 q1
  | false => exact hb pins s1 σ H1 Q I1 q1
end
end L2

namespace L2
open PySem PySem.Spec PyProof.Rows

/-! ### a list, a tuple that is read: tracked, frozen, or an object of the module -/
def SqL (K : PySem.W.Frag) (H : Hp) (a : Addr) (xs : List V) : Prop :=
  Rd H a (.lst xs) ∨
    ∃ (o : Obj) (its : Array Value) (n : Nat), K.lookup a = some o ∧ o.cls = .type "list" ∧ o.dict = none ∧ o.data = .seq its n ∧ its.size ≤ sizeLine ∧ Vals xs its.toList
def SqT (K : PySem.W.Frag) (H : Hp) (a : Addr) (xs : List V) : Prop :=
  Rd H a (.tup xs) ∨
    ∃ (o : Obj) (its : Array Value) (n : Nat), K.lookup a = some o ∧ o.cls = .type "tuple" ∧ o.data = .seq its n ∧ its.size ≤ sizeLine ∧ Vals xs its.toList
def absV : Value → Option V
  | .none => some .non
  | .bool b => some (.bl b)
  | .int i _ => some (.int i)
  | .str x _ => some (.str x)
  | .bytes b _ => some (.byt b)
  | .float b _ => some (.flt b)
  | .ref a => some (.ref a)
  | .type n => some (.ty n)
  | _ => none
theorem RelV.abs {x : V} {u : Value} (r : RelV x u) : absV u = some x := by
  cases x with
  | non => cases r; rfl
  | bl _ => cases r; rfl
  | int _ => obtain ⟨t, rfl⟩ := r; rfl
  | str _ => obtain ⟨t, rfl⟩ := r; rfl
  | byt _ => obtain ⟨t, rfl⟩ := r; rfl
  | flt _ => obtain ⟨t, rfl⟩ := r; rfl
  | ref _ => cases r; rfl
  | ty _ => cases r; rfl
theorem RelV.inj {x y : V} {u : Value} (r : RelV x u) (q : RelV y u) : x = y := Option.some.inj (r.abs.symm.trans q.abs)
theorem Vals.inj : ∀ {xs ys : List V} {us : List Value}, Vals xs us → Vals ys us → xs = ys
  | _, _, _, .nil, .nil => rfl
  | _, _, _, .cons r t, .cons r' t' => by rw [r.inj r', Vals.inj t t']
section
variable {X : Cx} {pins : List (Addr × Obj)} {σ : St} {H : Hp} {s : Shared} {a : Addr} {xs ys : List V}
theorem SqL.of {K : PySem.W.Frag} (h : H a = some (.lst xs)) : SqL K H a xs := .inl (.inl h)
theorem SqT.of {K : PySem.W.Frag} (h : H a = some (.tup xs)) : SqT K H a xs := .inl (.inl h)
theorem Inv.list (I : Inv X pins σ H s) (h : SqL X.K H a xs) : ∃ its : List Value, Vals xs its ∧ PlainL s.heap a its.toArray ∧ xs.length ≤ sizeLine := by
  rcases h with h | ⟨o, its, n, hk, hc, hd, hs, hz, r⟩
  · obtain ⟨z, its, n, r, e⟩ := h.ok I.hok
    exact ⟨its, r, ⟨_, n, e, rfl, rfl, rfl⟩, z⟩
  · refine ⟨its.toList, r, ⟨o, n, I.kIn a o hk, hc, hd, by simpa using hs⟩, ?_⟩
    have e := r.length
    simp only [Array.length_toList] at e
    omega
theorem Inv.tuple (I : Inv X pins σ H s) (h : SqT X.K H a xs) : ∃ its : List Value, Vals xs its ∧ IsTup s.heap a its.toArray ∧ xs.length ≤ sizeLine := by
  rcases h with h | ⟨o, its, n, hk, hc, hs, hz, r⟩
  · obtain ⟨z, its, r, p⟩ := h.ok I.hok
    exact ⟨its, r, p, z⟩
  · refine ⟨its.toList, r, ⟨o, I.kIn a o hk, hc, n, by simpa using hs⟩, ?_⟩
    have e := r.length
    simp only [Array.length_toList] at e
    omega
theorem Inv.list_inj (I : Inv X pins σ H s) (h : SqL X.K H a xs) (h' : SqL X.K H a ys) : xs = ys := by
  obtain ⟨its, r, ⟨o, n, e, _, _, d⟩, _⟩ := I.list h
  obtain ⟨its', r', ⟨o', n', e', _, _, d'⟩, _⟩ := I.list h'
  rw [e] at e'; cases e'
  rw [d] at d'
  injection d' with d1 _
  have : its = its' := by simpa using congrArg Array.toList d1
  subst this
  exact r.inj r'
end

/-! ### another wish about exceptions -/
abbrev Cx.wish (X : Cx) (E : Value → Shared → Prop) : Cx := { X with xe := E }
/-- no exception leaves -/
abbrev Cx.nox (X : Cx) : Cx := X.wish fun _ _ => False
theorem Cx.Ok.wish {X : Cx} (ok : X.Ok) (E : Value → Shared → Prop) : (X.wish E).Ok :=
  ⟨ok.mod, ok.kind, ok.glob, ok.blt, ok.above, ok.inj, ok.has, ok.cab, ok.hd, ok.frames, ok.stk, ok.exf, ok.bs, ok.bsz, ok.noex, ok.exfs, ok.funs, ok.frf⟩
theorem Cx.Ok.unwish {X : Cx} {E : Value → Shared → Prop} (ok : (X.wish E).Ok) : X.Ok :=
  ⟨ok.mod, ok.kind, ok.glob, ok.blt, ok.above, ok.inj, ok.has, ok.cab, ok.hd, ok.frames, ok.stk, ok.exf, ok.bs, ok.bsz, ok.noex, ok.exfs, ok.funs, ok.frf⟩
section
variable {X : Cx} {pins : List (Addr × Obj)} {σ : St} {H : Hp} {s : Shared} {E : Value → Shared → Prop}
theorem Inv.wish (I : Inv X pins σ H s) (E : Value → Shared → Prop) : Inv (X.wish E) pins σ H s := ⟨I.ok.wish E, I.os, I.bare, I.base, I.loc, I.cell, I.free, I.freeC, I.pin, I.hok, I.len⟩
theorem Inv.unwish (I : Inv (X.wish E) pins σ H s) : Inv X pins σ H s := ⟨I.ok.unwish, I.os, I.bare, I.base, I.loc, I.cell, I.free, I.freeC, I.pin, I.hok, I.len⟩
theorem SP.unwish {D : Ends} {f : Flow} {s' : Shared} (h : SP (X.wish E) pins D f s') : SP X pins D f s' := by
  cases f with
  | next => obtain ⟨σ', H', I, q⟩ := h; exact ⟨σ', H', I.unwish, q⟩
  | brk => obtain ⟨σ', H', I, q⟩ := h; exact ⟨σ', H', I.unwish, q⟩
  | cont => obtain ⟨σ', H', I, q⟩ := h; exact ⟨σ', H', I.unwish, q⟩
  | ret u => obtain ⟨v, σ', H', I, r, q⟩ := h; exact ⟨v, σ', H', I.unwish, r, q⟩
theorem PSs.nox {st : List Stmt} {t : TS} (h : PSs X.nox st t) : PSs X st t := fun pins s σ H D I hw =>
  wpAny_mono (h pins s σ H D (I.wish _) hw) (fun _ _ q => q.unwish) fun _ _ z => False.elim z
end

/-! ### blocks and small statements -/
section
variable {X : Cx} {st : Stmt} {rest : List Stmt} {t u : TS} {e : Expr} {te : TE} {pos : Pos}
def tNext : TS := fun D σ H => D.nx σ H
def tSeq (t u : TS) : TS := fun D σ H => t { D with nx := u D } σ H
theorem pss_nil : PSs X [] tNext := fun _ _ σ H _ I h => wpAny_execs_nil ⟨σ, H, I, h⟩
theorem pss_cons (h1 : PS X st t) (h2 : PSs X rest u) : PSs X (st :: rest) (tSeq t u) := by
  intro pins s σ H D I h
  refine wpAny_execs_cons (thn (h1 pins s σ H { D with nx := u D } I h) fun f s1 q => ?_)
  cases f with
  | next =>
    obtain ⟨σ', H', I', q⟩ := q
    exact h2 pins s1 σ' H' D I' q
  | ret v => exact q
  | brk => exact q
  | cont => exact q
theorem pss_one (h1 : PS X st t) : PSs X [st] t := by
  intro pins s σ H D I h
  refine wpAny_execs_cons (thn (h1 pins s σ H D I h) fun f s1 q => ?_)
  cases f with
  | next => exact wpAny_execs_nil q
  | ret v => exact q
  | brk => exact q
  | cont => exact q
def tBreak : TS := fun D σ H => D.bk σ H
def tCont : TS := fun D σ H => D.ct σ H
/-- in a def's body nothing is shown -/
theorem Inv.quiet {pins : List (Addr × Obj)} {σ : St} {H : Hp} {s : Shared} (I : Inv X pins σ H s) : interactive X.env = false := by simp [interactive, I.ok.kind]
/-- an expression whose value is dropped -/
def tDrop (te : TE) : TS := fun D σ H => te σ H fun _ H1 => D.nx σ H1
theorem ps_expr (he : PE X e te) (hs : swapsWith e none pos.line X.env = pure false := by rfl) : PS X (.Expr e pos) (tDrop te) := by
  intro pins s σ H D I h
  exact wpAny_Expr_any (thn (he pins s σ H _ I h) fun v s1 ⟨x, H1, I1, r1, q1⟩ => ⟨σ, H1, I1, q1⟩) I.quiet hs
def tRet (te : TE) : TS := fun D σ H => te σ H D.rt
theorem ps_ret (he : PE X e te) : PS X (.Return (some e) pos) (tRet te) := by
  intro pins s σ H D I h
  exact wpAny_Return_some (thn (he pins s σ H _ I h) fun v s1 ⟨x, H1, I1, r1, q1⟩ => ⟨x, σ, H1, I1, r1, q1⟩)
def tRetN : TS := fun D _ H => D.rt .non H
def tIfS (c : TT) (t u : TS) : TS := fun D σ H => c σ H fun b H1 => if b = true then t D σ H1 else u D σ H1
theorem ps_if {c : Expr} {a b : List Stmt} {tc : TT} (hc : PT X c tc) (ha : PSs X a t) (hb : PSs X b u) : PS X (.If c a b pos) (tIfS tc t u) := by
  intro pins s σ H D I h
  refine wpAny_If (thn (hc pins s σ H _ I h) fun d s1 ⟨H1, I1, q1⟩ => ?_)
  cases d with
  | true => exact ha pins s1 σ H1 D I1 q1
  | false => exact hb pins s1 σ H1 D I1 q1
/-- code that the proof never comes to -/
def tNever : TS := fun _ _ _ => False
theorem pss_never {sts : List Stmt} : PSs X sts tNever := fun _ _ _ _ _ _ h => h.elim
end

/-! ### targets -/
abbrev TG := V → St → Hp → (St → Hp → Prop) → Prop
abbrev TGs := List V → St → Hp → (St → Hp → Prop) → Prop
def PG (X : Cx) (target : Expr) (t : TG) : Prop :=
  ∀ (pins : List (Addr × Obj)) (s : Shared) (σ : St) (H : Hp) (v : V) (u : Value) (Q : St → Hp → Prop), Inv X pins σ H s → RelV v u → t v σ H Q →
    wpAny (model X.prog X.w) X.A (assign target X.env u) (fun _ s' => ∃ σ' H', Inv X pins σ' H' s' ∧ Q σ' H') X.xe s
/-- several targets, one after another -/
def PGs (X : Cx) (ts : List Expr) (t : TGs) : Prop :=
  ∀ (pins : List (Addr × Obj)) (s : Shared) (σ : St) (H : Hp) (vs : List V) (us : List Value) (Q : St → Hp → Prop), Inv X pins σ H s → Vals vs us → t vs σ H Q →
    wpAny (model X.prog X.w) X.A (assignInOrder ((assignEach ts X.env).map (·.2)) us) (fun _ s' => ∃ σ' H', Inv X pins σ' H' s' ∧ Q σ' H') X.xe s
/-- o[i] = v, by values -/
abbrev TSet := V → V → V → Hp → (Hp → Prop) → Prop
def PSet (X : Cx) (t : TSet) : Prop :=
  ∀ (pins : List (Addr × Obj)) (s : Shared) (σ : St) (H : Hp) (o i v : V) (ov iv u : Value) (Q : Hp → Prop), Inv X pins σ H s → RelV o ov → RelV i iv → RelV v u → t o i v H Q →
    wpAny (model X.prog X.w) X.A (setItem ov iv u) (fun _ s' => ∃ H', Inv X pins σ H' s' ∧ Q H') X.xe s
/-- a op= b, by values -/
abbrev TIp := V → V → Hp → VK → Prop
def PIp (X : Cx) (op : Operator) (t : TIp) : Prop :=
  ∀ (pins : List (Addr × Obj)) (s : Shared) (σ : St) (H : Hp) (x y : V) (v u : Value) (Q : VK), Inv X pins σ H s → RelV x v → RelV y u → t x y H Q →
    wpAny (model X.prog X.w) X.A (inplaceOp op v u) (EP X pins σ Q) X.xe s
section
variable {X : Cx} {pos : Pos}
def gName (i : Nat) : TG := fun v σ H Q => Q (σ.set i (some v)) H
theorem pg_name {i : Nat} {x : Str} (hN : X.N.Nodup) (hi : X.N[i]? = some x) (hx : Loc X.env.scope x) (hf : X.fn x = true ∨ X.env.scope.names.lookup x = some .local := by first | exact .inl rfl | exact .inr rfl | assumption) : PG X (.Name x pos) (gName i) := by
  intro pins s σ H v u Q I r h
  exact wpAny_assign_Name (store_ok I hN hi hx r (fun s' I' => ⟨_, H, I', h⟩) hf)
def gNil : TGs := fun vs σ H Q => vs = [] ∧ Q σ H
def gCons (t : TG) (u : TGs) : TGs := fun vs σ H Q => ∃ v r, vs = v :: r ∧ t v σ H fun σ' H' => u r σ' H' Q
theorem pgs_nil : PGs X [] gNil := by
  intro pins s σ H vs us Q I r h
  obtain ⟨e, h⟩ := h
  subst e
  cases r
  exact assignInOrder_nil ⟨σ, H, I, h⟩
theorem pgs_cons {e : Expr} {es : List Expr} {t : TG} {u : TGs} (h1 : PG X e t) (h2 : PGs X es u)
    (hs : (assignEach (e :: es) X.env).map (·.2) = assign e X.env :: (assignEach es X.env).map (·.2) := by rfl) : PGs X (e :: es) (gCons t u) := by
  intro pins s σ H vs us Q I r h
  obtain ⟨v, vr, e1, h⟩ := h
  subst e1
  cases r with
  | cons r rr =>
    rw [hs]
    refine assignInOrder_cons (thn (h1 pins s σ H _ _ _ I r h) fun _ s1 ⟨σ1, H1, I1, q1⟩ => ?_)
    exact h2 pins s1 σ1 H1 _ _ Q I1 rr q1
/-- (a, b, ..) = a tuple of that length -/
def gTup (K : PySem.W.Frag) (n : Nat) (t : TGs) : TG := fun v σ H Q => ∃ a xs, v = .ref a ∧ SqT K H a xs ∧ xs.length = n ∧ t xs σ H Q
theorem pg_tup {es : List Expr} {k : Nat} {t : TGs} {n : Nat} (hc : X.calm = true) (h : PGs X es t)
    (hn : (assignEach es X.env).length = n := by rfl) (hst : (assignEach es X.env).findIdx? (·.1) = none := by rfl) : PG X (.Tuple es k pos) (gTup X.K n t) := by
  intro pins s σ H v u Q I r hw
  obtain ⟨a, xs, e1, hq, hl, hw⟩ := hw
  subst e1
  cases r
  obtain ⟨its, rv, ht, hz⟩ := I.tuple hq
  refine assign_Tuple_tuple (I.ok.hd hc) ht (by simp [hn, ← hl, rv.length]) hst fun h' hx => ?_
  have I1 : Inv X pins σ H { s with heap := h' } := I.kept (t' := s.toks) fun b o e => hx b o (Nat.ne_of_lt (Heap.lt_size e)) e
  exact h pins _ σ H xs _ Q I1 (by simpa using rv) hw
/-- o[i] = .. -/
def gSub (to ti : TE) (t : TSet) : TG := fun v σ H Q => to σ H fun o H1 => ti σ H1 fun i H2 => t o i v H2 fun H3 => Q σ H3
/-- target = value -/
def tAsg (te : TE) (g : TG) : TS := fun D σ H => te σ H fun x H1 => g x σ H1 D.nx
theorem ps_asg {tg e : Expr} {te : TE} {g : TG} (he : PE X e te) (hg : PG X tg g) (hs : swapsWithSole [tg] e pos.line X.env = pure false := by rfl) (hw : swappedStores [tg] e X.env = pure none := by rfl)
    (h1 : (assignEach [tg] X.env).map (·.2) = [assign tg X.env] := by rfl) : PS X (.Assign [tg] e pos) (tAsg te g) := by
  intro pins s σ H D I h
  refine wpAny_Assign_stores (thn (he pins s σ H _ I h) fun v s1 ⟨x, H1, I1, r1, q1⟩ => ?_) hs hw
  rw [h1]
  exact thn (hg pins s1 σ H1 x v _ I1 r1 q1) fun _ s2 q => q
/-- name = value -/
theorem ps_set {i : Nat} {x : Str} {e : Expr} {te : TE} {pos' : Pos} (hN : X.N.Nodup) (hi : X.N[i]? = some x) (hx : Loc X.env.scope x) (he : PE X e te) (hs : swapsWith e (some (.Name x pos')) pos.line X.env = pure false := by rfl) (hf : X.fn x = true ∨ X.env.scope.names.lookup x = some .local := by first | exact .inl rfl | exact .inr rfl | assumption) :
    PS X (.Assign [.Name x pos'] e pos) (tAsg te (gName i)) := by
  intro pins s σ H D I h
  refine wpAny_Assign_Name (thn (he pins s σ H _ I h) fun v s1 ⟨y, H1, I1, r1, q1⟩ => ?_) hs
  exact store_ok I1 hN hi hx r1 (fun s2 I2 => ⟨_, H1, I2, q1⟩) hf
/-- a, b = x, y with plain local names: stored from the right; the pair itself is not tracked (the opening rows as in PyProof/Rows/TupAssign.lean:23) -/
def tPar (i j : Nat) (ta : TA) : TS := fun D σ H => ta σ H fun vs H1 => ∃ v w, vs = [v, w] ∧ D.nx ((σ.set i (some v)).set j (some w)) H1
/-- name op= e -/
def tAug (i : Nat) (te : TE) (ti : TIp) : TS := fun D σ H => ∃ x, σ[i]? = some (some x) ∧ te σ H fun y H1 => ti x y H1 fun z H2 => D.nx (σ.set i (some z)) H2
/-- o[i] op= e -/
def tAugS (to ti te : TE) (tget : V → V → Hp → VK → Prop) (tip : TIp) (tset : TSet) : TS := fun D σ H => to σ H fun o H1 => ti σ H1 fun i H2 => tget o i H2 fun x H3 => te σ H3 fun y H4 => tip x y H4 fun z H5 => tset o i z H5 fun H6 => D.nx σ H6
/-- o[i], by values -/
def PGet (X : Cx) (t : V → V → Hp → VK → Prop) : Prop :=
  ∀ (pins : List (Addr × Obj)) (s : Shared) (σ : St) (H : Hp) (o i : V) (ov iv : Value) (Q : VK), Inv X pins σ H s → RelV o ov → RelV i iv → t o i H Q →
    wpAny (model X.prog X.w) X.A (getItem ov iv) (EP X pins σ Q) X.xe s
/-- ints -/
def ipI (f : Int → Int → Int) : TIp := fun x y H Q => ∃ i j, x = .int i ∧ y = .int j ∧ Q (.int (f i j)) H
end

/-! ### while -/
section
variable {X : Cx} {pos : Pos}
/-- the invariant W with its measure -/
def tWhile (c : TT) (tb : TS) : TS := fun D σ H => ∃ W : Nat → St → Hp → Prop, (∃ m, W m σ H) ∧ ∀ m σ H, W m σ H →
  c σ H fun b H1 => if b = true then ∃ N : St → Hp → Prop, (∀ σ' H', N σ' H' → ∃ m', m' < m ∧ W m' σ' H') ∧ tb { D with nx := N, ct := N, bk := D.nx } σ H1 else D.nx σ H1
end

/-! ### what a loop or a comprehension walks -/
/-- at turn i: it yields x (the heap may grow), or it stops -/
structure It where
  go : Nat → Hp → Prop
  yld : Nat → Hp → V → Hp → Prop
  stop : Nat → Hp → Prop
/-- the iterator's own objects may turn: they are not the frame's, not pinned, younger than the entry (or a comprehension's own) -/
def FpOk (X : Cx) (pins : List (Addr × Obj)) (H : Hp) (b : Addr) : Prop :=
  H b = none ∧ b ≠ X.env.locals ∧ b ∉ X.fs ∧ (b ∈ X.ex ∨ X.s₀.heap.objs.size ≤ b) ∧ (∀ x c, X.env.cells.lookup x = some c → c ≠ b) ∧ ∀ p ∈ X.pn ++ pins, p.1 ≠ b
theorem Inv.fpOk {X : Cx} {pins : List (Addr × Obj)} {σ : St} {H H' : Hp} {s : Shared} {b : Addr} (I : Inv X pins σ H s) (hb : s.heap.objs.size ≤ b) (hn : H' b = none) : FpOk X pins H' b := by
  refine ⟨hn, Nat.ne_of_gt (Nat.lt_of_lt_of_le I.lt hb), I.nofs hb, .inr (Nat.le_trans I.sz hb), fun x c e z => ?_, fun p hp z => ?_⟩
  · obtain ⟨v, q⟩ := I.cell x c e
    exact absurd (Nat.lt_of_lt_of_le q.lt (by rw [z]; exact hb)) (Nat.lt_irrefl _)
  · exact absurd (Nat.lt_of_lt_of_le (Heap.lt_size (I.pin p hp).1) (by rw [z]; exact hb)) (Nat.lt_irrefl _)
structure Turn (P : Program) (w : World) (K : PySem.W.Frag) (tg : Expr) (J : It) (fp : List Addr) (it : Addr) (tn : Nat → Heap → Prop) : Prop where
  mem : it ∈ fp
  obj : ∀ i h, tn i h → ∀ b ∈ fp, ∃ o, h.get? b = some o ∧ ∀ v, o.data ≠ .cell v
  keep : ∀ i h h', tn i h → (∀ b ∈ fp, ∀ o, h.get? b = some o → h'.get? b = some o) → tn i h'
  item : ∀ (X : Cx), X.prog = P → X.w = w → X.K = K → X.calm = true → ∀ (i : Nat) (pins : List (Addr × Obj)) (s : Shared) (σ : St) (H : Hp) (E : Value → Shared → Prop), Inv X pins σ H s → (∀ b ∈ fp, FpOk X pins H b) → tn i s.heap → J.go i H →
    wpAny (model P w) X.A (pyNext (.ref it)) (fun r s1 => ∃ u, r = some u ∧
      wpAny (model P w) X.A (letOwnedTupleGo tg (.ref it) u) (fun _ s2 => ∃ x H', Inv X pins σ H' s2 ∧ RelV x u ∧ J.yld i H x H' ∧ tn (i + 1) s2.heap ∧ ∀ b ∈ fp, H' b = none) E s1) E s
  done : ∀ (X : Cx), X.prog = P → X.w = w → X.K = K → X.calm = true → ∀ (i : Nat) (pins : List (Addr × Obj)) (s : Shared) (σ : St) (H : Hp) (E : Value → Shared → Prop), Inv X pins σ H s → (∀ b ∈ fp, FpOk X pins H b) → tn i s.heap → J.stop i H →
    wpAny (model P w) X.A (pyNext (.ref it)) (fun r s1 => r = none ∧ Inv X pins σ H s1) E s
  self : ∀ (A : Around) (i : Nat) (s : Shared) (Q : Value → Shared → Prop) (E : Value → Shared → Prop), tn i s.heap → Q (.ref it) s → wpAny (model P w) A (pyIter (.ref it)) Q E s
abbrev TI := St → Hp → (It → Hp → Prop) → Prop
/-- an iterator has come -/
def PIE (X : Cx) (pins : List (Addr × Obj)) (σ : St) (tg : Expr) (R : It → Hp → Prop) (itv : Value) (s2 : Shared) : Prop :=
  ∃ (it : Addr) (fp : List Addr) (tn : Nat → Heap → Prop) (J : It) (H' : Hp), itv = .ref it ∧ Inv X pins σ H' s2 ∧ Turn X.prog X.w X.K tg J fp it tn ∧ tn 0 s2.heap ∧ (∀ b ∈ fp, FpOk X pins H' b) ∧ R J H'
def PI (X : Cx) (tg iter : Expr) (wi : TI) : Prop :=
  ∀ (pins : List (Addr × Obj)) (s : Shared) (σ : St) (H : Hp) (R : It → Hp → Prop), Inv X pins σ H s → wi σ H R →
    wpAny (model X.prog X.w) X.A (eval iter X.env) (fun v s1 => wpAny (model X.prog X.w) X.A (pyIter v) (PIE X pins σ tg R) X.xe s1) X.xe s

/-- the step ahead of the store is nothing for an iterator that keeps no tuple -/
theorem go_of {M : Model} {A : Around} {E : Value → Shared → Prop} {s : Shared} {tg : Expr} {it : Addr} {u : Value} {o : Obj} {n : String} {vs : Array Value} {Q : Unit → Shared → Prop} (ho : s.heap.get? it = some o) (hc : o.cls = .type n) (hd : o.data = .fields vs)
    (hn : ["enumerate", "zip", "dict_itemiterator", "dict_reverseitemiterator", "odict_iterator", "itertools.zip_longest", "itertools.pairwise"].contains n = false) (hQ : Q () s) : wpAny M A (letOwnedTupleGo tg (.ref it) u) Q E s := by
  unfold letOwnedTupleGo
  cases tg <;> first
    | exact wpAny_pure hQ
    | (cases u <;> first
        | exact wpAny_pure hQ
        | (refine wpAny_bind (wpAny_load ho ?_)
           rw [hc, hd]
           show wpAny M A (if (["enumerate", "zip", "dict_itemiterator", "dict_reverseitemiterator", "odict_iterator", "itertools.zip_longest", "itertools.pairwise"].contains n && vs[0]? == some (rawInt _)) = true then _ else _) Q E s
           rw [if_neg (by intro h; rw [hn, Bool.false_and] at h; cases h)]
           exact wpAny_pure hQ))

/-- the list at a, as it stands at each turn (a loop may append to it) -/
def Itl (K : PySem.W.Frag) (a : Addr) : It :=
  ⟨fun i H => ∃ xs x, SqL K H a xs ∧ xs[i]? = some x, fun i H x H' => H' = H ∧ ∀ xs, SqL K H a xs → xs[i]? = some x, fun i H => ∃ xs, SqL K H a xs ∧ xs.length ≤ i⟩
def Itt (K : PySem.W.Frag) (a : Addr) : It :=
  ⟨fun i H => ∃ xs x, SqT K H a xs ∧ xs[i]? = some x, fun i H x H' => H' = H ∧ ∀ xs, SqT K H a xs → xs[i]? = some x, fun i H => ∃ xs, SqT K H a xs ∧ xs.length ≤ i⟩
/-- lo, lo + 1, .. (n of them) -/
def Itr (lo : Int) (n : Nat) : It := ⟨fun i _ => i < n, fun i H x H' => H' = H ∧ x = .int (lo + i), fun i _ => n ≤ i⟩
theorem turn_list {P : Program} {w : World} {K : PySem.W.Frag} {tg : Expr} (a it : Addr) : Turn P w K tg (Itl K a) [it] it (fun i h => h.IsListIter it a i) where
  mem := by simp
  obj := fun i h st b hb => by
    have e : b = it := by simpa using hb
    subst e
    obtain ⟨o, e, c, d⟩ := st
    exact ⟨o, e, fun v z => by rw [d] at z; cases z⟩
  keep := fun i h h' st k => st.at fun o e => k it (by simp) o e
  item := by
    intro X hP hw hK hc i pins s σ H E I hf st hg
    subst hP hw hK
    obtain ⟨xs, x, hq, hx⟩ := hg
    obtain ⟨its, rv, p, hz⟩ := I.list hq
    obtain ⟨u, hu, ru⟩ := rv.get hx
    obtain ⟨f0, f1, f2, f3, f4, f5⟩ := hf it (by simp)
    refine wpAny_pyNext_list_item st p.isList (x := u) (by simpa using hu) fun h' st' sb => ?_
    have I1 : Inv X pins σ H { s with heap := h' } := I.turned (t' := s.toks) (fun b o hb e => (sb.2 b hb).trans e) f0 f1 f3 f4 f5
    obtain ⟨o, e, c, d⟩ := id st'
    exact ⟨u, rfl, go_of (s := { s with heap := h' }) e c d (by decide) ⟨x, H, I1, ru, ⟨rfl, fun ys hy => by rw [I.list_inj hy hq]; exact hx⟩, st', fun b hb => (hf b hb).1⟩⟩
  done := by
    intro X hP hw hK hc i pins s σ H E I hf st hg
    subst hP hw hK
    obtain ⟨xs, hq, hx⟩ := hg
    obtain ⟨its, rv, p, hz⟩ := I.list hq
    obtain ⟨f0, f1, f2, f3, f4, f5⟩ := hf it (by simp)
    have hl := rv.length
    exact wpAny_pyNext_list_end (I.ok.hd hc) st p.isList (by simp; omega) fun h' eb => ⟨rfl, I.turned (t' := s.toks) (fun b o hb e => eb b o hb e) f0 f1 f3 f4 f5⟩
  self := fun _ _ _ _ _ st h => wpAny_pyIter_listiter st h
theorem turn_range {P : Program} {w : World} {K : PySem.W.Frag} {tg : Expr} (it : Addr) (lo : Int) (n : Nat) : Turn P w K tg (Itr lo n) [it] it (fun i h => IsRangeIter h it (lo + (i : Nat) * 1) ((n : Int) - (i : Nat)) 1) where
  mem := by simp
  obj := fun i h st b hb => by
    have e : b = it := by simpa using hb
    subst e
    exact ⟨_, st, fun v z => by
      have z' : Data.fields _ = Data.cell v := z
      cases z'⟩
  keep := fun i h h' st k => k it (by simp) _ st
  item := by
    intro X hP hw hK hc i pins s σ H E I hf st hg
    subst hP hw hK
    obtain ⟨f0, f1, f2, f3, f4, f5⟩ := hf it (by simp)
    have W := Walks.range (prog := X.prog) (w := X.w) (I.ok.hd hc) it lo 1 n
    refine W.item i s _ _ hg st fun v h' tk hv st' kk => ?_
    obtain ⟨t, rfl⟩ := hv
    have I1 : Inv X pins σ H { s with heap := h', toks := tk } := I.turned (fun b o hb e => kk b o (by simpa using hb) e) f0 f1 f3 f4 f5
    refine ⟨_, rfl, go_of (s := { s with heap := h', toks := tk }) (n := "range_iterator") st' rfl rfl (by decide) ⟨.int (lo + i), H, I1, ⟨t, ?_⟩, ⟨rfl, rfl⟩, st', fun b hb => (hf b hb).1⟩⟩
    rw [Int.mul_one]
  done := by
    intro X hP hw hK hc i pins s σ H E I hf st hg
    subst hP hw hK
    obtain ⟨f0, f1, f2, f3, f4, f5⟩ := hf it (by simp)
    exact wpAny_pyNext_range_end (I.ok.hd hc) st (by have : n ≤ i := hg; omega) fun h' eb => ⟨rfl, I.turned (t' := s.toks) (fun b o hb e => eb b o hb e) f0 f1 f3 f4 f5⟩
  self := fun _ _ _ _ _ st h => wpAny_pyIter_rangeiter st h
end L2

namespace L2
open PySem PySem.Spec PyProof.Rows
section
variable {X : Cx} {tg : Expr}
def iList (K : PySem.W.Frag) (tl : TE) : TI := fun σ H R => tl σ H fun x H1 => ∃ a, x = .ref a ∧ (∃ xs, SqL K H1 a xs) ∧ R (Itl K a) H1
def iTup (K : PySem.W.Frag) (tl : TE) : TI := fun σ H R => tl σ H fun x H1 => ∃ a, x = .ref a ∧ (∃ xs, SqT K H1 a xs) ∧ R (Itt K a) H1
theorem pi_list {l : Expr} {tl : TE} (hl : PE X l tl) : PI X tg l (iList X.K tl) := by
  intro pins s σ H R I h
  refine thn (hl pins s σ H _ I h) fun v s1 ⟨x, H1, I1, r1, q1⟩ => ?_
  obtain ⟨a, e, ⟨xs, hq⟩, q⟩ := q1
  subst e
  cases r1
  obtain ⟨its, rv, p, hz⟩ := I1.list hq
  refine wpAny_pyIter_list p.isList ?_
  refine ⟨s1.heap.objs.size, [s1.heap.objs.size], _, _, H1, rfl, I1.kept (t' := s1.toks) fun b o e => Heap.get?_push_of_some _ e, turn_list a _, ⟨_, Heap.get?_push_size _ rfl, rfl, rfl⟩, fun b hb => ?_, q⟩
  have e : b = s1.heap.objs.size := by simpa using hb
  subst e
  exact I1.fpOk (Nat.le_refl _) (I1.hok.fresh (Nat.le_refl _))
/-- a range object just made, walked -/
theorem range_it {pins : List (Addr × Obj)} {σ : St} {H : Hp} {s : Shared} {R : It → Hp → Prop} {E : Value → Shared → Prop} {lo hi : Int} {t u v : Tok} {tk : Nat} (I : Inv X pins σ H s) (h1 : -(2 ^ 62) ≤ lo) (h2 : lo < 2 ^ 62) (h3 : -(2 ^ 62) ≤ hi) (h4 : hi < 2 ^ 62)
    (q : R (Itr lo (hi - lo).toNat) H) : wpAny (model X.prog X.w) X.A (pyIter (.ref s.heap.objs.size)) (PIE X pins σ tg R) E { s with heap := s.heap.push { cls := .type "range", data := .fields #[.int lo t, .int hi u, .int 1 v] }, toks := tk } := by
  refine wpAny_pyIter_range (IsRange.new ..) (small_one h1 h2 h3 h4) ?_
  have I1 : Inv X pins σ H { s with heap := s.heap.push { cls := .type "range", data := .fields #[.int lo t, .int hi u, .int 1 v] }, toks := tk } := I.kept fun b o e => Heap.get?_push_of_some _ e
  refine ⟨(s.heap.push { cls := .type "range", data := .fields #[.int lo t, .int hi u, .int 1 v] }).objs.size, [(s.heap.push { cls := .type "range", data := .fields #[.int lo t, .int hi u, .int 1 v] }).objs.size], _, _, H, rfl,
    I1.kept (t' := tk) fun b o e => Heap.get?_push_of_some _ e, turn_range _ lo (hi - lo).toNat, ?_, fun b hb => ?_, q⟩
  · have e1 : lo + ((0 : Nat) : Int) * 1 = lo := by simp
    have e2 : (((hi - lo).toNat : Nat) : Int) - ((0 : Nat) : Int) = Builtin.Range.rangeSize lo hi 1 := by rw [rangeSize_one]; split <;> omega
    show IsRangeIter _ _ (lo + ((0 : Nat) : Int) * 1) ((((hi - lo).toNat : Nat) : Int) - ((0 : Nat) : Int)) 1
    rw [e1, e2]
    exact Heap.get?_push_size _ rfl
  · have e : b = (s.heap.push { cls := .type "range", data := .fields #[.int lo t, .int hi u, .int 1 v] }).objs.size := by simpa using hb
    subst e
    exact I1.fpOk (Nat.le_refl _) (I1.hok.fresh (Nat.le_refl _))
def iRng1 (ta : TA) : TI := fun σ H R => ta σ H fun vs H1 => ∃ j : Int, vs = [.int j] ∧ -(2 ^ 62) ≤ j ∧ j < 2 ^ 62 ∧ R (Itr 0 j.toNat) H1
def iRng2 (ta : TA) : TI := fun σ H R => ta σ H fun vs H1 => ∃ i j : Int, vs = [.int i, .int j] ∧ (-(2 ^ 62) ≤ i ∧ i < 2 ^ 62 ∧ -(2 ^ 62) ≤ j ∧ j < 2 ^ 62) ∧ R (Itr i (j - i).toNat) H1
theorem pi_range1 {a : Expr} {ta : TA} {p pos : Pos} (hg : Gl X "range") (hm : X.mg "range" = none) (ha : PA X [a] ta) (hs : starEach [a] X.env = [(false, eval a X.env)] := by rfl) : PI X tg (.Call (.Name "range" p) [a] [] pos) (iRng1 ta) := by
  intro pins s σ H R I h
  refine Call_ (ld_blt I hg hm boot_range (PyProof.Rows.callWith_type1 (thn (ha pos pins s σ H _ I h) fun us s1 ⟨vs, H1, I1, r1, q1⟩ => ?_) hs rfl))
  obtain ⟨j, e, q1, q2, q⟩ := q1
  subst e
  cases r1 with
  | cons r rr =>
    cases rr
    obtain ⟨t, rfl⟩ := r
    exact call_range_1 (range_it I1 (by omega) (by omega) q1 q2 (by simpa using q))
/-! ### for -/
/-- W: the invariant by the turn and a measure; N: what the body is to reach -/
def tFor (wi : TI) (g : TG) (tb : TS) : TS := fun D σ H => wi σ H fun J H1 => ∃ W : Nat → Nat → St → Hp → Prop, (∃ m, W 0 m σ H1) ∧ ∀ i m σ H, W i m σ H →
  (J.stop i H ∧ D.nx σ H) ∨ (J.go i H ∧ ∃ N : St → Hp → Prop, (∀ σ' H', N σ' H' → ∃ m', m' < m ∧ W (i + 1) m' σ' H') ∧ ∀ x H', J.yld i H x H' → g x σ H' fun σ2 H2 => tb { D with nx := N, ct := N, bk := D.nx } σ2 H2)
/-- the records at fp as they stand -/
def pinsAt (fp : List Addr) (h : Heap) : List (Addr × Obj) := fp.filterMap fun b => (h.get? b).map fun o => (b, o)
theorem mem_pinsAt {fp : List Addr} {h : Heap} {b : Addr} {o : Obj} (hb : b ∈ fp) (e : h.get? b = some o) : (b, o) ∈ pinsAt fp h := List.mem_filterMap.mpr ⟨b, hb, by rw [e]; rfl⟩
theorem of_pinsAt {fp : List Addr} {h : Heap} {p : Addr × Obj} (hp : p ∈ pinsAt fp h) : p.1 ∈ fp ∧ h.get? p.1 = some p.2 := by
  obtain ⟨b, hb, e⟩ := List.mem_filterMap.mp hp
  cases q : h.get? b with
  | none => rw [q] at e; cases e
  | some o =>
    rw [q] at e
    have e' : (b, o) = p := Option.some.inj e
    subst e'
    exact ⟨hb, q⟩
theorem Inv.pinned {pins : List (Addr × Obj)} {σ : St} {H : Hp} {s : Shared} {fp : List Addr} (I : Inv X pins σ H s) (hf : ∀ b ∈ fp, FpOk X pins H b) (ho : ∀ b ∈ fp, ∃ o, s.heap.get? b = some o ∧ ∀ v, o.data ≠ .cell v) : Inv X (pins ++ pinsAt fp s.heap) σ H s :=
  I.pins_of fun p hp => (List.mem_append.mp hp).elim (fun z => I.pin p (List.mem_append_right _ z)) fun z => by
    obtain ⟨hb, e⟩ := of_pinsAt z
    obtain ⟨f0, f1, f2, _⟩ := hf p.1 hb
    obtain ⟨o, e', d⟩ := ho p.1 hb
    rw [e] at e'; cases e'
    exact ⟨e, f0, f1, f2, d⟩
theorem Inv.unpinned {pins pl : List (Addr × Obj)} {σ : St} {H : Hp} {s : Shared} (I : Inv X (pins ++ pl) σ H s) : Inv X pins σ H s := I.pins_of fun p hp => I.pin p (List.mem_append_right _ (List.mem_append_left _ hp))
theorem ps_for {iter : Expr} {body : List Stmt} {wi : TI} {g : TG} {tb : TS} {pos : Pos} (hp : PassesOwn (model X.prog X.w) X.A X.env X.xe) (hc : X.calm = true) (hi : PI X tg iter wi) (hg : PG X tg g) (hb : PSs X body tb)
    (hs : ∀ x, foldedSetIterable iter X.env x = pure x := by intro _; rfl) : PS X (.For tg iter body [] pos) (tFor wi g tb) := by
  intro pins s σ H D I h
  refine wpAny_For (thn (hi pins s σ H _ I h) fun v s1 h1 => thn h1 fun itv s2 h2 => ?_) hs
  obtain ⟨it, fp, tn, J, H2, e, I2, T, st2, f2, W, ⟨m0, w0⟩, turn⟩ := h2
  subst e
  -- what stays true of the iterator's objects through the loop
  have stat : ∀ {H' : Hp}, (∀ b ∈ fp, H' b = none) → ∀ b ∈ fp, FpOk X pins H' b := fun hn b hb => ⟨hn b hb, (f2 b hb).2⟩
  refine codeAny_forLoop_any (fun n s' => ∃ i σ' H', Inv X pins σ' H' s' ∧ tn i s'.heap ∧ (∀ b ∈ fp, H' b = none) ∧ W i n σ' H') ?_ m0 ⟨0, σ, H2, I2, st2, fun b hb => (f2 b hb).1, w0⟩
  rintro n s3 ⟨i, σ3, H3, I3, st3, fr3, w3⟩
  rcases turn i n σ3 H3 w3 with ⟨stop, qn⟩ | ⟨go, N, hN, step⟩
  · refine wpAny_passesOwn hp (thn (T.done X rfl rfl rfl hc i pins s3 σ3 H3 X.xe I3 (stat fr3) st3 stop) fun r s4 ⟨hr, I4⟩ => ?_)
    subst hr
    exact wpAny_execs_nil ⟨σ3, H3, I4, qn⟩
  · refine wpAny_passesOwn hp (thn (T.item X rfl rfl rfl hc i pins s3 σ3 H3 X.xe I3 (stat fr3) st3 go) fun r s4 ⟨u, hr, h4⟩ => ?_)
    subst hr
    refine wpAny_passesOwn hp (thn h4 fun _ s5 ⟨x, H5, I5, r5, y5, st5, fr5⟩ => ?_)
    have I5' := I5.pinned (stat fr5) (T.obj _ _ st5)
    refine wpAny_passesOwn hp (thn (hg _ s5 σ3 H5 x u _ I5' r5 (step x H5 y5)) fun _ s6 ⟨σ6, H6, I6, q6⟩ => ?_)
    refine wpAny_passesOwn hp (thn (hb _ s6 σ6 H6 _ I6 q6) fun f s7 q7 => ?_)
    have again : ∀ {σ7 : St} {H7 : Hp}, Inv X (pins ++ pinsAt fp s5.heap) σ7 H7 s7 → N σ7 H7 → ∃ m, m < n ∧ ∃ i σ' H', Inv X pins σ' H' s7 ∧ tn i s7.heap ∧ (∀ b ∈ fp, H' b = none) ∧ W i m σ' H' := fun {σ7 H7} I7 n7 => by
      obtain ⟨m', hm, w7⟩ := hN σ7 H7 n7
      refine ⟨m', hm, i + 1, σ7, H7, I7.unpinned, T.keep _ _ _ st5 fun b hb o e => (I7.pin (b, o) (List.mem_append_right _ (List.mem_append_right _ (mem_pinsAt hb e)))).1, fun b hb => ?_, w7⟩
      obtain ⟨o, e, d⟩ := T.obj _ _ st5 b hb
      exact (I7.pin (b, o) (List.mem_append_right _ (List.mem_append_right _ (mem_pinsAt hb e)))).2.1
    cases f with
    | next => obtain ⟨σ7, H7, I7, n7⟩ := q7; exact again I7 n7
    | cont => obtain ⟨σ7, H7, I7, n7⟩ := q7; exact again I7 n7
    | brk => obtain ⟨σ7, H7, I7, q7⟩ := q7; exact ⟨σ7, H7, I7.unpinned, q7⟩
    | ret v => obtain ⟨x7, σ7, H7, I7, r7, q7⟩ := q7; exact ⟨x7, σ7, H7, I7.unpinned, r7, q7⟩
end

/-! ### the forms one uses -/
/-- over a list that the body leaves as it is -/
theorem for_list {K : PySem.W.Frag} {a : Addr} {xs : List V} {g : TG} {tb : TS} {D : Ends} {σ : St} {H : Hp} (Pv : Nat → St → Hp → Prop) (h0 : Pv 0 σ H) (hl : ∀ i σ H, i ≤ xs.length → Pv i σ H → SqL K H a xs)
    (hs : ∀ i x σ H, xs[i]? = some x → Pv i σ H → g x σ H fun σ2 H2 => tb { D with nx := Pv (i + 1), ct := Pv (i + 1), bk := D.nx } σ2 H2) (hd : ∀ σ H, Pv xs.length σ H → D.nx σ H) :
    ∃ W : Nat → Nat → St → Hp → Prop, (∃ m, W 0 m σ H) ∧ ∀ i m σ H, W i m σ H →
      ((Itl K a).stop i H ∧ D.nx σ H) ∨ ((Itl K a).go i H ∧ ∃ N : St → Hp → Prop, (∀ σ' H', N σ' H' → ∃ m', m' < m ∧ W (i + 1) m' σ' H') ∧ ∀ x H', (Itl K a).yld i H x H' → g x σ H' fun σ2 H2 => tb { D with nx := N, ct := N, bk := D.nx } σ2 H2) := by
  refine ⟨fun i m σ H => m = xs.length - i ∧ i ≤ xs.length ∧ Pv i σ H, ⟨xs.length, by simp, Nat.zero_le _, h0⟩, ?_⟩
  rintro i m σ H ⟨rfl, hi, p⟩
  have q := hl i σ H hi p
  by_cases hlt : i < xs.length
  · refine .inr ⟨⟨xs, xs[i], q, by simp [hlt]⟩, Pv (i + 1), fun σ' H' p' => ⟨xs.length - (i + 1), by omega, rfl, hlt, p'⟩, fun x H' y => ?_⟩
    obtain ⟨e, y⟩ := y
    subst e
    exact hs i x σ _ (y xs q) p
  · have e : i = xs.length := by omega
    subst e
    exact .inl ⟨⟨xs, q, Nat.le_refl _⟩, hd σ H p⟩
theorem for_range {lo : Int} {n : Nat} {g : TG} {tb : TS} {D : Ends} {σ : St} {H : Hp} (Pv : Nat → St → Hp → Prop) (h0 : Pv 0 σ H)
    (hs : ∀ i σ H, i < n → Pv i σ H → g (.int (lo + i)) σ H fun σ2 H2 => tb { D with nx := Pv (i + 1), ct := Pv (i + 1), bk := D.nx } σ2 H2) (hd : ∀ σ H, Pv n σ H → D.nx σ H) :
    ∃ W : Nat → Nat → St → Hp → Prop, (∃ m, W 0 m σ H) ∧ ∀ i m σ H, W i m σ H →
      ((Itr lo n).stop i H ∧ D.nx σ H) ∨ ((Itr lo n).go i H ∧ ∃ N : St → Hp → Prop, (∀ σ' H', N σ' H' → ∃ m', m' < m ∧ W (i + 1) m' σ' H') ∧ ∀ x H', (Itr lo n).yld i H x H' → g x σ H' fun σ2 H2 => tb { D with nx := N, ct := N, bk := D.nx } σ2 H2) := by
  refine ⟨fun i m σ H => m = n - i ∧ i ≤ n ∧ Pv i σ H, ⟨n, by simp, Nat.zero_le _, h0⟩, ?_⟩
  rintro i m σ H ⟨rfl, hi, p⟩
  by_cases hlt : i < n
  · refine .inr ⟨hlt, Pv (i + 1), fun σ' H' p' => ⟨n - (i + 1), by omega, rfl, hlt, p'⟩, fun x H' y => ?_⟩
    obtain ⟨e, y⟩ := y
    subst e y
    exact hs i σ _ hlt p
  · have e : i = n := by omega
    subst e
    exact .inl ⟨Nat.le_refl _, hd σ H p⟩
end L2

namespace L2
open PySem PySem.Spec PyProof.Rows

abbrev R2 := V → V → Hp → VK → Prop
/-- a two-place operation on values: f is binaryOp op, inplaceOp op or compareOp op -/
def OpR (X : Cx) (f : Value → Value → Sem Value) (r : R2) : Prop :=
  ∀ (pins : List (Addr × Obj)) (s : Shared) (σ : St) (H : Hp) (x y : V) (v u : Value) (Q : VK), Inv X pins σ H s → RelV x v → RelV y u → r x y H Q →
    wpAny (model X.prog X.w) X.A (f v u) (EP X pins σ Q) X.xe s
/-- a one-place operation -/
def UnR (X : Cx) (f : Value → Sem Value) (r : V → Hp → VK → Prop) : Prop :=
  ∀ (pins : List (Addr × Obj)) (s : Shared) (σ : St) (H : Hp) (x : V) (v : Value) (Q : VK), Inv X pins σ H s → RelV x v → r x H Q →
    wpAny (model X.prog X.w) X.A (f v) (EP X pins σ Q) X.xe s
/-- a call of a value that is known (a builtin, a type) with values -/
def CallR (X : Cx) (f : Value) (r : List V → Hp → VK → Prop) : Prop :=
  ∀ (pins : List (Addr × Obj)) (s : Shared) (σ : St) (H : Hp) (xs : List V) (us : List Value) (Q : VK), Inv X pins σ H s → Vals xs us → r xs H Q →
    wpAny (model X.prog X.w) X.A (call f us) (EP X pins σ Q) X.xe s
/-- a value's truth -/
def TruR (X : Cx) (r : V → Hp → (Bool → Hp → Prop) → Prop) : Prop :=
  ∀ (pins : List (Addr × Obj)) (s : Shared) (σ : St) (H : Hp) (x : V) (v : Value) (Q : Bool → Hp → Prop), Inv X pins σ H s → RelV x v → r x H Q →
    wpAny (model X.prog X.w) X.A (truthy v) (TP X pins σ Q) X.xe s

def tOp (r : R2) (ta tb : TE) : TE := fun σ H Q => ta σ H fun x H1 => tb σ H1 fun y H2 => r x y H2 Q
def tUn (r : V → Hp → VK → Prop) (ta : TE) : TE := fun σ H Q => ta σ H fun x H1 => r x H1 Q
/-- ints in, under C, and a value out -/
def rI (C : Int → Int → Prop) (g : Int → Int → V) : R2 := fun x y H Q => ∃ i j, x = .int i ∧ y = .int j ∧ C i j ∧ Q (g i j) H
def rI0 (g : Int → Int → V) : R2 := fun x y H Q => ∃ i j, x = .int i ∧ y = .int j ∧ Q (g i j) H
def rU (g : Int → V) : V → Hp → VK → Prop := fun x H Q => ∃ i, x = .int i ∧ Q (g i) H

section
variable {X : Cx} {a b c : Expr} {ta tb tc : TE} {pos : Pos}

theorem binT (ha : PE X a ta) (hb : PE X b tb) {pins : List (Addr × Obj)} {s : Shared} {σ : St} {H : Hp} {R : V → V → Hp → Prop} (I : Inv X pins σ H s)
    (h : ta σ H fun x H1 => tb σ H1 fun y H2 => R x y H2) {Q : Value → Shared → Prop} {f : Value → Value → Sem Value}
    (hf : ∀ v u s2 x y H2, Inv X pins σ H2 s2 → RelV x v → RelV y u → R x y H2 → wpAny (model X.prog X.w) X.A (f v u) Q X.xe s2) :
    wpAny (model X.prog X.w) X.A (eval a X.env) (fun v s₁ => wpAny (model X.prog X.w) X.A (eval b X.env) (fun u s₂ => wpAny (model X.prog X.w) X.A (f v u) Q X.xe s₂) X.xe s₁) X.xe s := by
  refine thn (ha pins s σ H _ I h) fun v s1 ⟨x, H1, I1, r1, q1⟩ => ?_
  refine thn (hb pins s1 σ H1 _ I1 q1) fun u s2 ⟨y, H2, I2, r2, q2⟩ => ?_
  exact hf v u s2 x y H2 I2 r1 r2 q2

theorem pe_op {op : Operator} {r : R2} (ho : OpR X (binaryOp op) r) (ha : PE X a ta) (hb : PE X b tb) : PE X (.BinOp a op b pos) (tOp r ta tb) := by
  intro pins s σ H Q I h
  exact wpAny_BinOp (binT ha hb I h fun v u s2 x y H2 I2 rx ry q => ho pins s2 σ H2 x y v u Q I2 rx ry q)
/-! ### ints -/
theorem opI {f : Value → Value → Sem Value} {C : Int → Int → Prop} {g : Int → Int → Int}
    (rule : ∀ (i j : Int) (t u : Tok) (s : Shared) (Q : Value → Shared → Prop) (E : Value → Shared → Prop), C i j → Q (.int (g i j) s.toks) { s with toks := s.toks + 1 } → wpAny (model X.prog X.w) X.A (f (.int i t) (.int j u)) Q E s) :
    OpR X f (rI C fun i j => .int (g i j)) := by
  intro pins s σ H x y v u Q I rx ry h
  obtain ⟨i, j, rfl, rfl, hc, q⟩ := h
  obtain ⟨t, rfl⟩ := rx
  obtain ⟨t', rfl⟩ := ry
  exact rule i j t t' s _ _ hc ⟨.int (g i j), H, I.tok _, ⟨_, rfl⟩, q⟩
theorem opI0 {f : Value → Value → Sem Value} {g : Int → Int → Int}
    (rule : ∀ (i j : Int) (t u : Tok) (s : Shared) (Q : Value → Shared → Prop) (E : Value → Shared → Prop), Q (.int (g i j) s.toks) { s with toks := s.toks + 1 } → wpAny (model X.prog X.w) X.A (f (.int i t) (.int j u)) Q E s) :
    OpR X f (rI0 fun i j => .int (g i j)) := by
  intro pins s σ H x y v u Q I rx ry h
  obtain ⟨i, j, rfl, rfl, q⟩ := h
  obtain ⟨t, rfl⟩ := rx
  obtain ⟨t', rfl⟩ := ry
  exact rule i j t t' s _ _ ⟨.int (g i j), H, I.tok _, ⟨_, rfl⟩, q⟩
theorem opB0 {f : Value → Value → Sem Value} {g : Int → Int → Bool}
    (rule : ∀ (i j : Int) (t u : Tok) (s : Shared) (Q : Value → Shared → Prop) (E : Value → Shared → Prop), Q (.bool (g i j)) s → wpAny (model X.prog X.w) X.A (f (.int i t) (.int j u)) Q E s) :
    OpR X f (rI0 fun i j => .bl (g i j)) := by
  intro pins s σ H x y v u Q I rx ry h
  obtain ⟨i, j, rfl, rfl, q⟩ := h
  obtain ⟨t, rfl⟩ := rx
  obtain ⟨t', rfl⟩ := ry
  exact rule i j t t' s _ _ ⟨.bl (g i j), H, I, rfl, q⟩

def CDiv (i j : Int) : Prop := 0 < j ∧ j < 1073741824
def CDivN (i j : Int) : Prop := j ≠ 0 ∧ j.natAbs < 1073741824
def CPow (i j : Int) : Prop := 0 ≤ j ∧ j ≤ 1000000 ∧ i.natAbs < 2 ^ 64
def CMul (i j : Int) : Prop := (-(2 ^ 64) < i ∧ i < 2 ^ 64) ∨ (-(2 ^ 64) < j ∧ j < 2 ^ 64)
theorem CMul.ok {i j : Int} (h : CMul i j) : IntMulOk i j := by
  rcases h with ⟨h1, h2⟩ | ⟨h1, h2⟩
  · exact .of_left (intBits_le_64 h1 h2)
  · exact .of_right (intBits_le_64 h1 h2)
theorem op_add : OpR X (binaryOp .Add) (rI0 fun i j => .int (i + j)) := opI0 fun _ _ _ _ _ _ _ q => add_int q
theorem op_sub : OpR X (binaryOp .Sub) (rI0 fun i j => .int (i - j)) := opI0 fun _ _ _ _ _ _ _ q => sub_int q
theorem op_mul : OpR X (binaryOp .Mult) (rI CMul fun i j => .int (i * j)) := opI fun _ _ _ _ _ _ _ hc q => mul_int q hc.ok
/-- % by a positive divisor of any size -/
theorem op_mod : OpR X (binaryOp .Mod) (rI (fun _ j => 0 < j) fun i j => .int (i % j)) := opI fun i j _ _ _ _ _ hc q => by
  have h1 : (0 : Int) < j := hc
  exact mod_int' (by omega) (by rw [Int.fmod_eq_emod_of_nonneg i (by omega)]; exact q)
theorem op_pow : OpR X (binaryOp .Pow) (rI CPow fun i j => .int (i ^ j.toNat)) := opI fun _ _ _ _ _ _ _ hc q => pow_int_small hc.1 hc.2.1 hc.2.2 q
/-! ### bools among ints: n += (a < b) -/
end

/-! ### comparisons -/
/-- the scalars that == tells apart as data does -/
def scal : V → V → Bool
  | .non, .non => true | .non, .int _ => true | .int _, .non => true | .non, .bl _ => true | .bl _, .non => true | .non, .str _ => true | .str _, .non => true
  | .int _, .int _ => true | .bl _, .bl _ => true | .str _, .str _ => true | .byt _, .byt _ => true
  | .int _, .str _ => true | .str _, .int _ => true | .bl _, .str _ => true | .str _, .bl _ => true
  | _, _ => false
def rEq : R2 := fun x y H Q => scal x y = true ∧ Q (.bl (decide (x = y))) H
def rNe : R2 := fun x y H Q => scal x y = true ∧ Q (.bl (!decide (x = y))) H

theorem dec_int {i j : Int} : decide (V.int i = V.int j) = (i == j) := by
  rw [Bool.eq_iff_iff]
  simp
theorem dec_bl {i j : Bool} : decide (V.bl i = V.bl j) = (i == j) := by
  rw [Bool.eq_iff_iff]
  simp
theorem dec_str {i j : Str} : decide (V.str i = V.str j) = (i == j) := by
  rw [Bool.eq_iff_iff]
  simp
theorem dec_byt {i j : Array UInt8} : decide (V.byt i = V.byt j) = (i.toList == j.toList) := by
  rw [Bool.eq_iff_iff]
  cases i
  cases j
  simp

section
variable {X : Cx} {a b c : Expr} {ta tb tc : TE} {pos : Pos}
theorem fin_bl {pins : List (Addr × Obj)} {σ : St} {H : Hp} {s : Shared} {Q : VK} {k k' : Bool} (I : Inv X pins σ H s) (q : Q (.bl k) H) (e : k = k') : EP X pins σ Q (.bool k') s := by
  subst e
  exact ⟨.bl k, H, I, rfl, q⟩
theorem op_eq : OpR X (compareOp .Eq) rEq := by
  intro pins s σ H x y v u Q I rx ry h
  obtain ⟨hs, q⟩ := h
  cases x with
  | non =>
    cases rx
    cases y with
    | non => cases ry; exact PySem.EqNone.eq_none_none (fin_bl I q (by simp))
    | bl j => cases ry; exact PySem.EqNone.eq_none_bool (fin_bl I q (by simp))
    | int j => obtain ⟨t', rfl⟩ := ry; exact PySem.EqNone.eq_none_int (fin_bl I q (by simp))
    | str j => obtain ⟨t', rfl⟩ := ry; exact PySem.EqNone.eq_none_str (fin_bl I q (by simp))
    | _ => exact absurd (show false = true from hs) Bool.false_ne_true
  | bl i =>
    cases rx
    cases y with
    | non => cases ry; exact PySem.EqNone.eq_bool_none (fin_bl I q (by simp))
    | bl j => cases ry; exact eq_bool (fin_bl I q dec_bl)
    | str j => obtain ⟨t', rfl⟩ := ry; exact PySem.EqMixed.eq_bool_str (fin_bl I q (by simp))
    | _ => exact absurd (show false = true from hs) Bool.false_ne_true
  | int i =>
    obtain ⟨t, rfl⟩ := rx
    cases y with
    | non => cases ry; exact PySem.EqNone.eq_int_none (fin_bl I q (by simp))
    | int j => obtain ⟨t', rfl⟩ := ry; exact eq_int (fin_bl I q dec_int)
    | str j => obtain ⟨t', rfl⟩ := ry; exact PySem.EqMixed.eq_int_str (fin_bl I q (by simp))
    | _ => exact absurd (show false = true from hs) Bool.false_ne_true
  | str i =>
    obtain ⟨t, rfl⟩ := rx
    cases y with
    | non => cases ry; exact PySem.EqNone.eq_str_none (fin_bl I q (by simp))
    | bl j => cases ry; exact PySem.EqMixed.eq_str_bool (fin_bl I q (by simp))
    | int j => obtain ⟨t', rfl⟩ := ry; exact PySem.EqMixed.eq_str_int (fin_bl I q (by simp))
    | str j => obtain ⟨t', rfl⟩ := ry; exact eq_str (fin_bl I q dec_str)
    | _ => exact absurd (show false = true from hs) Bool.false_ne_true
  | byt i =>
    obtain ⟨t, rfl⟩ := rx
    cases y with
    | byt j => obtain ⟨t', rfl⟩ := ry; exact PySem.W.eq_bytes (fin_bl I q dec_byt)
    | _ => exact absurd (show false = true from hs) Bool.false_ne_true
  | _ => cases y <;> exact absurd (show false = true from hs) Bool.false_ne_true
theorem op_ne : OpR X (compareOp .NotEq) rNe := by
  intro pins s σ H x y v u Q I rx ry h
  obtain ⟨hs, q⟩ := h
  cases x with
  | non =>
    cases rx
    cases y with
    | non => cases ry; exact PySem.EqNone.ne_none_none (fin_bl I q (by simp))
    | bl j => cases ry; exact PySem.EqNone.ne_none_bool (fin_bl I q (by simp))
    | int j => obtain ⟨t', rfl⟩ := ry; exact PySem.EqNone.ne_none_int (fin_bl I q (by simp))
    | str j => obtain ⟨t', rfl⟩ := ry; exact PySem.EqNone.ne_none_str (fin_bl I q (by simp))
    | _ => exact absurd (show false = true from hs) Bool.false_ne_true
  | bl i =>
    cases rx
    cases y with
    | non => cases ry; exact PySem.EqNone.ne_bool_none (fin_bl I q (by simp))
    | bl j => cases ry; exact ne_bool (fin_bl I q (congrArg not dec_bl))
    | str j => obtain ⟨t', rfl⟩ := ry; exact PySem.EqMixed.ne_bool_str (fin_bl I q (by simp))
    | _ => exact absurd (show false = true from hs) Bool.false_ne_true
  | int i =>
    obtain ⟨t, rfl⟩ := rx
    cases y with
    | non => cases ry; exact PySem.EqNone.ne_int_none (fin_bl I q (by simp))
    | int j => obtain ⟨t', rfl⟩ := ry; exact ne_int (fin_bl I q (congrArg not dec_int))
    | str j => obtain ⟨t', rfl⟩ := ry; exact PySem.EqMixed.ne_int_str (fin_bl I q (by simp))
    | _ => exact absurd (show false = true from hs) Bool.false_ne_true
  | str i =>
    obtain ⟨t, rfl⟩ := rx
    cases y with
    | non => cases ry; exact PySem.EqNone.ne_str_none (fin_bl I q (by simp))
    | bl j => cases ry; exact PySem.EqMixed.ne_str_bool (fin_bl I q (by simp))
    | int j => obtain ⟨t', rfl⟩ := ry; exact PySem.EqMixed.ne_str_int (fin_bl I q (by simp))
    | str j => obtain ⟨t', rfl⟩ := ry; exact ne_str (fin_bl I q (congrArg not dec_str))
    | _ => exact absurd (show false = true from hs) Bool.false_ne_true
  | byt i =>
    obtain ⟨t, rfl⟩ := rx
    cases y with
    | byt j => obtain ⟨t', rfl⟩ := ry; exact PySem.W.ne_bytes (fin_bl I q (congrArg not dec_byt))
    | _ => exact absurd (show false = true from hs) Bool.false_ne_true
  | _ => cases y <;> exact absurd (show false = true from hs) Bool.false_ne_true

theorem op_lt : OpR X (compareOp .Lt) (rI0 fun i j => .bl (decide (i < j))) := opB0 fun _ _ _ _ _ _ _ q => lt_int q
theorem op_le : OpR X (compareOp .LtE) (rI0 fun i j => .bl (decide (i ≤ j))) := opB0 fun _ _ _ _ _ _ _ q => le_int q
theorem op_gt : OpR X (compareOp .Gt) (rI0 fun i j => .bl (decide (j < i))) := opB0 fun _ _ _ _ _ _ _ q => gt_int q
theorem op_ge : OpR X (compareOp .GtE) (rI0 fun i j => .bl (decide (j ≤ i))) := opB0 fun _ _ _ _ _ _ _ q => ge_int q
/-- is, is not of two objects that are tracked lists or instances -/
def isObj : HO → Bool
  | .lst _ => true
  | .ins _ _ _ => true
  | _ => false
theorem nomark (b : Expr) {op : CmpOp} (h : op ≠ .In := by decide) (h2 : op ≠ .NotIn := by decide) : behindInMarks op b = false := by
  have e1 : (op == CmpOp.In) = false := by cases op <;> first | rfl | exact absurd rfl h
  have e2 : (op == CmpOp.NotIn) = false := by cases op <;> first | rfl | exact absurd rfl h2
  cases b <;> simp [behindInMarks, e1, e2]
/-- a comparison as a value; hm: nomark b, or (for in, not in) by with_unfolding_all rfl -/
theorem pe_cmpR {op : CmpOp} {r : R2} (ho : OpR X (compareOp op) r) (ha : PE X a ta) (hb : PE X b tb) (hm : behindInMarks op b = false) : PE X (.Compare a [op] [b] pos) (tOp r ta tb) := by
  intro pins s σ H Q I h
  exact wpAny_Compare1 (binT ha hb I h fun v u s2 x y H2 I2 rx ry q => ho pins s2 σ H2 x y v u Q I2 rx ry q) hm
/-- a reading of a value as a test -/
def tTest (t : TE) : TT := fun σ H Q => t σ H fun x H' => ∃ k, x = .bl k ∧ Q k H'
theorem pt_cmpR {op : CmpOp} {r : R2} (ho : OpR X (compareOp op) r) (ha : PE X a ta) (hb : PE X b tb) (hm : behindInMarks op b = false) : PT X (.Compare a [op] [b] pos) (tTest (tOp r ta tb)) := by
  intro pins s σ H Q I h
  refine wpAny_isTrue_Compare1 (thn (ha pins s σ H _ I h) fun v s1 ⟨x, H1, I1, r1, q1⟩ => thn (hb pins s1 σ H1 _ I1 q1) fun u s2 ⟨y, H2, I2, r2, q2⟩ =>
    thn (ho pins s2 σ H2 x y v u _ I2 r1 r2 q2) fun c s3 ⟨z, H3, I3, r3, k, e, q3⟩ => ?_) hm
  subst e
  cases r3
  exact wpAny_truthy_bool ⟨H3, I3, q3⟩
/-- a op1 b op2 c -/
def tChain (r r' : R2) (ta tb tc : TE) : TE := fun σ H Q => ta σ H fun x H1 => tb σ H1 fun y H2 => r x y H2 fun z H3 => ∃ k, z = .bl k ∧
  (if k = true then tc σ H3 fun w' H4 => r' y w' H4 Q else Q (.bl false) H3)
theorem pt_chain {op op' : CmpOp} {r r' : R2} (ho : OpR X (compareOp op) r) (ho' : OpR X (compareOp op') r') (ha : PE X a ta) (hb : PE X b tb) (hc : PE X c tc)
    (hm : lastMarks [op, op'] [b, c] = false := by with_unfolding_all rfl) : PT X (.Compare a [op, op'] [b, c] pos) (tTest (tChain r r' ta tb tc)) := by
  intro pins s σ H Q I h
  refine isTrue_chain (thn (ha pins s σ H _ I h) fun v s1 ⟨x, H1, I1, r1, q1⟩ => test_link (thn (hb pins s1 σ H1 _ I1 q1) fun u s2 ⟨y, H2, I2, r2, q2⟩ =>
    thn (ho pins s2 σ H2 x y v u _ I2 r1 r2 q2) fun d s3 ⟨z, H3, I3, r3, k, e, q3⟩ => ?_)) hm
  subst e
  cases r3
  refine wpAny_truthy_bool ?_
  cases k with
  | false =>
    obtain ⟨k', e', q'⟩ := q3
    cases e'
    exact ite_ff ⟨H3, I3, q'⟩
  | true =>
    refine ite_tt (test_last (thn (hc pins s3 σ H3 _ I3 q3) fun w' s4 ⟨z', H4, I4, r4, q4⟩ => thn (ho' pins s4 σ H4 y z' u w' _ I4 r2 r4 q4) fun d' s5 ⟨z2, H5, I5, r5, k2, e2, q5⟩ => ?_))
    subst e2
    cases r5
    exact wpAny_truthy_bool ⟨H5, I5, q5⟩

/-! ### truth -/
/-- a value's truth by the abstract heap -/
def TruV (K : PySem.W.Frag) (x : V) (H : Hp) (k : Bool) : Prop :=
  match x with
  | .non => k = false
  | .bl b => k = b
  | .int i => k = (i != 0)
  | .str y => y.length ≤ sizeLine ∧ k = ((y.length : Int) != 0)
  | .byt y => y.size ≤ sizeLine ∧ k = ((y.size : Int) != 0)
  | .ref p => (∃ xs, SqL K H p xs ∧ k = !xs.isEmpty) ∨ (∃ xs, SqT K H p xs ∧ k = !xs.isEmpty) ∨ ∃ kvs, H p = some (.dK kvs) ∧ k = !kvs.isEmpty
  | _ => False
theorem line63 : (sizeLine : Nat) < 2 ^ 63 := by rw [sizeLine_eq]; decide
/-! ### strs and bytes -/
def PlainIxT (b : Expr) : Prop := ∀ o i, subscripted b false o i = operate [o, i] (getItem o i)
/-! ### scalar builtins, by CallR -/
theorem vals1 {x : V} {us : List Value} (r : Vals [x] us) : ∃ u, us = [u] ∧ RelV x u := by
  cases r with
  | cons r1 r2 => cases r2; exact ⟨_, rfl, r1⟩
theorem vals2 {x y : V} {us : List Value} (r : Vals [x, y] us) : ∃ u w', us = [u, w'] ∧ RelV x u ∧ RelV y w' := by
  cases r with
  | cons r1 r2 =>
    cases r2 with
    | cons r3 r4 => cases r4; exact ⟨_, _, rfl, r1, r3⟩
theorem call_max2 (hc : X.calm = true) : CallR X (.builtin "max") (fun xs H Q => ∃ i j, xs = [.int i, .int j] ∧ Q (.int (if j > i then j else i)) H) := by
  intro pins s σ H xs us Q I r h
  obtain ⟨i, j, rfl, q⟩ := h
  obtain ⟨u, w', rfl, ⟨t, rfl⟩, ⟨t', rfl⟩⟩ := vals2 r
  refine max_two_ints (I.ok.hd hc) fun h' tk k => ⟨_, H, I.kept k, ?_, q⟩
  by_cases hj : j > i
  · rw [if_pos hj, if_pos hj]; exact ⟨_, rfl⟩
  · rw [if_neg hj, if_neg hj]; exact ⟨_, rfl⟩
theorem call_min2 (hc : X.calm = true) : CallR X (.builtin "min") (fun xs H Q => ∃ i j, xs = [.int i, .int j] ∧ Q (.int (if j < i then j else i)) H) := by
  intro pins s σ H xs us Q I r h
  obtain ⟨i, j, rfl, q⟩ := h
  obtain ⟨u, w', rfl, ⟨t, rfl⟩, ⟨t', rfl⟩⟩ := vals2 r
  refine min_two_ints (I.ok.hd hc) fun h' tk k => ⟨_, H, I.kept k, ?_, q⟩
  by_cases hj : j < i
  · rw [if_pos hj, if_pos hj]; exact ⟨_, rfl⟩
  · rw [if_neg hj, if_neg hj]; exact ⟨_, rfl⟩
/-- len of a str, a bytes, a list, a tuple -/
def LenV (K : PySem.W.Frag) (x : V) (H : Hp) (n : Nat) : Prop :=
  match x with
  | .str y => y.length ≤ sizeLine ∧ n = y.length
  | .byt y => y.size ≤ sizeLine ∧ n = y.size
  | .ref p => (∃ xs, SqL K H p xs ∧ n = xs.length) ∨ ∃ xs, SqT K H p xs ∧ n = xs.length
  | _ => False
end
end L2

namespace L2
open PySem PySem.Spec PyProof.Rows

/-! ### an instance, its attributes a map -/
structure ObjM (h : Heap) (x dx C : Addr) (mA : Str → Option Value) : Prop where
  obj : h.get? x = some (PySem.W.instObj C dx)
  ns : h.Ns1 dx mA
  ne : dx ≠ x

theorem lookIn_ns {h : Heap} {dx : Addr} {mA : Str → Option Value} (n : h.Ns1 dx mA) : ∃ od, h.get? dx = some od ∧ ∀ name, PySem.W.lookIn name od = some (mA name) := by
  obtain ⟨o, es, ep, ho, hd, hk, _, hm⟩ := n
  refine ⟨o, ho, fun name => ?_⟩
  have e := hm name
  unfold nsFind findBy at e
  rw [← Array.find?_toList] at e
  unfold PySem.W.lookIn
  rw [hd]
  dsimp only
  split
  · rename_i y q
    rw [q] at e
    exact congrArg some e
  · rename_i q
    rw [q] at e
    have a : es.toList.any (·.refKey) = false := by
      rw [List.any_eq_false]
      intro y hy
      obtain ⟨z, t, hkey⟩ := hk y (Array.mem_toList_iff.mp hy)
      simp [DictEntry.refKey, hkey]
    have a' : ¬ es.toList.any (·.refKey) = true := by rw [a]; exact Bool.false_ne_true
    rw [if_neg a']
    exact congrArg some e

theorem ObjM.look {h : Heap} {x dx C : Addr} {mA : Str → Option Value} (I : ObjM h x dx C mA) : ∃ od, PySem.W.InstAt h x (PySem.W.instObj C dx) C (some od) ∧ ∀ name, PySem.W.lookIn name od = some (mA name) :=
  let ⟨od, ho, hl⟩ := lookIn_ns I.ns
  ⟨od, ⟨I.obj, rfl, rfl, ho⟩, hl⟩

section
variable {prog : Program} {w : World} {A : Around} {E : Value → Shared → Prop} {s : Shared} {K : PySem.W.Frag} {x dx C f : Addr} {mA : Str → Option Value} {name : Str} {v : Value}

end

/-! ### the attributes as a list of pairs -/
def putF (f : Str) (v : V) : List (Str × V) → List (Str × V)
  | [] => [(f, v)]
  | (g, x) :: r => if g = f then (g, v) :: r else (g, x) :: putF f v r
section
variable {P : Program} {w : World} {H H' : Hp} {h h' : Heap} {a C dx : Addr} {fs fs' : List (Str × V)}
theorem ins_get (hok : HOk P w H h) (e : H a = some (.ins C dx fs)) : ∃ mA, ObjM h a dx C mA ∧ (∀ f, RelO (fs.lookup f) (mA f)) ∧ PySem.Within mA (fs.map (·.1)) ∧ fs.length ≤ 1000 ∧ H dx = some (.own a) := by
  obtain ⟨d, z, ne, ob, mA, n, r, q⟩ := (show ObjOk P w H h a (.ins C dx fs) from hok a _ e)
  exact ⟨mA, ⟨ob, n, ne⟩, r, q, z, d⟩
end

/-! ### what of the text a class must have -/
structure Cls (K : PySem.W.Frag) (C : Addr) : Prop where
  pg : PySem.W.plainGet K C Str.empty = true
  hd : PySem.W.hasDictIn K C = true
  po : PySem.W.plainOver K C = true
  sa : PySem.W.findIn K (.ref C) "__setattr__" = some (some (.builtin "object.__setattr__"))
theorem Cls.get {K : PySem.W.Frag} {C : Addr} (c : Cls K C) (f : Str) : PySem.W.plainGet K C f = true := c.pg
/-- no class of it has the name -/
def NoAttr (K : PySem.W.Frag) (C : Addr) (f : Str) : Prop := PySem.W.findIn K (.ref C) f = some none
/-- a constant of the class -/
structure Con (K : PySem.W.Frag) (C : Addr) (f : Str) (v : V) (u : Value) : Prop where
  at_ : PySem.W.findIn K (.ref C) f = some (some u)
  rel : RelV v u
  get : PySem.W.specialIn K u "__get__" = some none
  cp : PySem.W.copiedNames.contains f = false
/-- a method: a plain def of the class or of one above it -/
structure Meth (K : PySem.W.Frag) (C : Addr) (m : Str) (f : Addr) : Prop where
  at_ : PySem.W.findIn K (.ref C) m = some (some (.ref f))
  fn : PySem.W.isFn K (.ref f) = true
  kp : PySem.W.keepIn K (.ref f) = true

section
variable {X : Cx} {pins : List (Addr × Obj)} {σ : St} {H : Hp} {s : Shared} {a C dx : Addr} {fs : List (Str × V)} {f : Str} {v : V} {A : Around} {E : Value → Shared → Prop}

end

/-! ### readings and rules -/
/-- e.f, an attribute of the instance -/
def tFld (K : PySem.W.Frag) (ta : TE) (f : Str) : TE := fun σ H Q => ta σ H fun x H1 => ∃ a C dx fs v, x = .ref a ∧ H1 a = some (.ins C dx fs) ∧ Cls K C ∧ NoAttr K C f ∧ fs.lookup f = some v ∧ Q v H1
/-- e.f, a constant of the class -/
def tCon (K : PySem.W.Frag) (ta : TE) (f : Str) : TE := fun σ H Q => ta σ H fun x H1 => ∃ a C dx fs v u, x = .ref a ∧ H1 a = some (.ins C dx fs) ∧ Cls K C ∧ Con K C f v u ∧ fs.lookup f = none ∧ Q v H1
/-- e.f = value -/
def sFld (K : PySem.W.Frag) (ta tv : TE) (f : Str) : TS := fun D σ H => tv σ H fun y H1 => ta σ H1 fun x H2 => ∃ a C dx fs, x = .ref a ∧ H2 a = some (.ins C dx fs) ∧ Cls K C ∧ NoAttr K C f ∧ fs.length < 1000 ∧
  D.nx σ (upd H2 a (.ins C dx (putF f y fs)))
/-- an augmented operator on two values -/
def InOp (X : Cx) (op : Operator) (rd : V → V → Hp → VK → Prop) : Prop :=
  ∀ (pins : List (Addr × Obj)) (s : Shared) (σ : St) (H : Hp) (x y : V) (u v : Value) (Q : VK), Inv X pins σ H s → RelV x u → RelV y v → rd x y H Q → wpAny (model X.prog X.w) X.A (inplaceOp op u v) (EP X pins σ Q) X.xe s
/-- e.f op= value -/
def sFldAug (K : PySem.W.Frag) (ta tv : TE) (rd : V → V → Hp → VK → Prop) (f : Str) : TS := fun D σ H => ta σ H fun x H1 => ∃ a C dx fs v, x = .ref a ∧ H1 a = some (.ins C dx fs) ∧ Cls K C ∧ NoAttr K C f ∧ fs.lookup f = some v ∧
  tv σ H1 fun y H2 => rd v y H2 fun z H3 => ∃ dx' fs', H3 a = some (.ins C dx' fs') ∧ fs'.length < 1000 ∧ D.nx σ (upd H3 a (.ins C dx' (putF f z fs')))

section
variable {X : Cx} {o e value : Expr} {f : Str} {pos pos' tpos : Pos} {ta tv : TE}
def rAdd : V → V → Hp → VK → Prop := fun x y H Q => ∃ i j, x = .int i ∧ y = .int j ∧ Q (.int (i + j)) H
def rSub : V → V → Hp → VK → Prop := fun x y H Q => ∃ i j, x = .int i ∧ y = .int j ∧ Q (.int (i - j)) H
end

/-! ### isinstance -/
section
variable {X : Cx} {pins : List (Addr × Obj)} {σ : St} {H : Hp} {s : Shared} {A : Around} {E : Value → Shared → Prop} {Q : Value → Shared → Prop} {c : Value} {b : Bool}
/-- the type of a value, as the fragment's deciders take it; for an instance its class -/
inductive TyOf (K : PySem.W.Frag) (H : Hp) : V → Value → Prop where
  | non : TyOf K H .non (.type "NoneType")
  | bl (x : Bool) : TyOf K H (.bl x) (.type "bool")
  | int (i : Int) : TyOf K H (.int i) (.type "int")
  | str (x : Str) : TyOf K H (.str x) (.type "str")
  | flt (x : UInt64) : TyOf K H (.flt x) (.type "float")
  | lst {a : Addr} {xs : List V} (e : H a = some (.lst xs)) : TyOf K H (.ref a) (.type "list")
  | frz {a : Addr} {o : Obj} {xs : List V} (e : H a = some (.frz o (.lst xs))) : TyOf K H (.ref a) (.type "list")
  | tup {a : Addr} {xs : List V} (e : H a = some (.tup xs)) : TyOf K H (.ref a) (.type "tuple")
  | dK {a : Addr} {kvs : List (Key × V)} (e : H a = some (.dK kvs)) : TyOf K H (.ref a) (.type "dict")
  | dT {a : Addr} {kvs : List (List Key × V)} (e : H a = some (.dT kvs)) : TyOf K H (.ref a) (.type "dict")
  | ins {a C dx : Addr} {fs : List (Str × V)} (e : H a = some (.ins C dx fs)) (cl : Cls K C) (ha : PySem.W.findIn K (.ref C) "__class__" = some (some (.builtin "object.__class__")))
      (hn : PySem.W.specialIn K (.builtin "object.__class__") "__get__" = some (some (.builtin "getset_descriptor.__get__"))) (htk : PySem.W.takesIn K (.builtin "object.__class__") = some true)
      (hm : PySem.W.mroIn K C (.type "object") = some true) : TyOf K H (.ref a) (.ref C)
/-- isinstance(x, c) for one class c, a built-in or an own one: kitOne's answer -/
theorem isinst_ok {x : V} {u t : Value} (I : Inv X pins σ H s) (rx : RelV x u) (ty : TyOf X.K H x t) (e : PySem.W.kitOne X.K t c = some b) (h : ∀ tk, Q (.bool b) { s with toks := tk }) :
    wpAny (model X.prog X.w) A (call (.builtin "isinstance") [u, c]) Q E s := by
  cases ty with
  | non => cases (show u = Value.none from rx); exact PySem.W.kia_one PySem.W.kitx_none I.kIn True.intro e (fun z => nomatch z) h
  | bl y => cases (show u = Value.bool y from rx); exact PySem.W.kia_one PySem.W.kitx_bool I.kIn True.intro e (fun z => nomatch z) h
  | int i => obtain ⟨t, q⟩ := (show ∃ t, u = Value.int i t from rx); cases q; exact PySem.W.kia_one PySem.W.kitx_int I.kIn True.intro e (fun z => nomatch z) h
  | str y => obtain ⟨t, q⟩ := (show ∃ t, u = Value.str y t from rx); cases q; exact PySem.W.kia_one PySem.W.kitx_str I.kIn True.intro e (fun z => nomatch z) h
  | flt y => obtain ⟨t, q⟩ := (show ∃ t, u = Value.float y t from rx); cases q; exact PySem.W.kia_one PySem.W.kitx_float I.kIn True.intro e (fun z => nomatch z) h
  | @lst a xs ea =>
    cases (show u = Value.ref a from rx)
    obtain ⟨_, _, n, _, h1⟩ := (show ObjOk X.prog X.w H s.heap a (.lst xs) from I.hok a _ ea)
    exact PySem.W.kia_one PySem.W.kitx_list I.kIn ⟨_, h1, rfl⟩ e (fun z => nomatch z) h
  | @frz a ob xs ea =>
    cases (show u = Value.ref a from rx)
    obtain ⟨_, _, _, n, _, h1⟩ := (show ObjOk X.prog X.w H s.heap a (.frz ob (.lst xs)) from I.hok a _ ea)
    exact PySem.W.kia_one PySem.W.kitx_list I.kIn ⟨_, h1, rfl⟩ e (fun z => nomatch z) h
  | @tup a xs ea =>
    cases (show u = Value.ref a from rx)
    obtain ⟨_, _, _, p⟩ := (show ObjOk X.prog X.w H s.heap a (.tup xs) from I.hok a _ ea)
    obtain ⟨o, h1, h2, _⟩ := p
    exact PySem.W.kia_one PySem.W.kitx_tuple I.kIn ⟨o, h1, h2⟩ e (fun z => nomatch z) h
  | @dK a kvs ea =>
    cases (show u = Value.ref a from rx)
    obtain ⟨_, _, vs, _, p⟩ := (show ObjOk X.prog X.w H s.heap a (.dK kvs) from I.hok a _ ea)
    obtain ⟨o, es, ep, h1, h2, _⟩ := p
    exact PySem.W.kia_one PySem.W.kitx_dict I.kIn ⟨o, h1, h2.1⟩ e (fun z => nomatch z) h
  | @dT a kvs ea =>
    cases (show u = Value.ref a from rx)
    obtain ⟨_, _, xs, _, o, es, ep, h1, h2, _⟩ := (show ObjOk X.prog X.w H s.heap a (.dT kvs) from I.hok a _ ea)
    exact PySem.W.kia_one PySem.W.kitx_dict I.kIn ⟨o, h1, h2.1⟩ e (fun z => nomatch z) h
  | @ins a C dx fs ea cl ha hn htk hm =>
    cases (show u = Value.ref a from rx)
    obtain ⟨mA, O, _⟩ := ins_get I.hok ea
    obtain ⟨od, J, _⟩ := O.look
    exact PySem.W.kia_one (PySem.W.kitx_own (cl.get _) cl.hd ha hn htk hm) I.kIn J e (fun z => nomatch z) h
end
end L2

namespace L2
open PySem PySem.Spec PyProof.Rows

/-! ### room -/
structure Room (k : Nat) (A : Around) : Prop where
  hd : A.handled = none
  dp : A.depth + 3 * k + 5 < recursionLimit
  un : A.units + 16 * k + 200 < cLine
theorem Room.mono {j k : Nat} {A : Around} (r : Room k A) (h : j ≤ k) : Room j A := ⟨r.hd, by have := r.dp; omega, by have := r.un; omega⟩
theorem Room.deeper {k : Nat} {A : Around} (r : Room (k + 1) A) (env : Env) : Room k (A.deeper env) :=
  ⟨r.hd, by have := r.dp; show A.depth + 1 + 3 * k + 5 < _; omega, by have := r.un; show A.units + 3 + 16 * k + 200 < _; omega⟩
theorem Room.depth {k : Nat} {A : Around} (r : Room k A) : A.depth < recursionLimit := by have := r.dp; omega
theorem Room.units {k : Nat} {A : Around} (r : Room k A) : A.units + 64 < cLine := by have := r.un; omega
/-! ### argument lists and displays -/
def tNil : TA := fun _ H Q => Q [] H
def tCons (ta : TE) (tr : TA) : TA := fun σ H Q => ta σ H fun x H1 => tr σ H1 fun xs H2 => Q (x :: xs) H2
section
variable {X : Cx} {e : Expr} {es : List Expr} {te : TE} {t : TA} {pos : Pos}
theorem pa_nil : PA X [] tNil := fun _ _ _ _ H Q I h => Calls.spliced_nil ⟨[], H, I, .nil, h⟩
theorem pa_cons (ha : PE X e te) (hr : PA X es t) (hs : starEach (e :: es) X.env = (false, eval e X.env) :: starEach es X.env := by rfl) : PA X (e :: es) (tCons te t) := by
  intro pos pins s σ H Q I h
  rw [hs]
  show wpAny _ _ (spliced ((false, eval e X.env) :: backTo pos (starEach es X.env))) _ _ s
  refine Calls.spliced_cons (thn (ha pins s σ H _ I h) fun u s1 ⟨x, H1, I1, r1, q1⟩ => ?_)
  exact thn (hr pos pins s1 σ H1 _ I1 q1) fun us s2 ⟨xs, H2, I2, r2, q2⟩ => ⟨x :: xs, H2, I2, .cons r1 r2, q2⟩

/-- a tuple, a list of written items -/
def tTup (t : TA) : TE := fun σ H Q => t σ H fun xs H1 => xs.length ≤ sizeLine ∧ ∀ p, H1 p = none → Q (.ref p) (upd H1 p (.tup xs))
def tLst (t : TA) : TE := fun σ H Q => t σ H fun xs H1 => xs.length ≤ sizeLine ∧ ∀ p, H1 p = none → Q (.ref p) (upd H1 p (.lst xs))
theorem pe_tup {x1} (h : PA X es t) : PE X (.Tuple es x1 pos) (tTup t) := by
  intro pins s σ H Q I hq
  refine wpAny_Tuple_spliced (thn (h pos pins s σ H _ I hq) fun us s1 ⟨xs, H1, I1, r, z, q⟩ => ⟨by rw [← r.length]; exact z, ?_⟩)
  have hf : H1 s1.heap.objs.size = none := I1.hok.fresh (Nat.le_refl _)
  refine ⟨.ref s1.heap.objs.size, upd H1 s1.heap.objs.size (.tup xs), I1.laid (t' := s1.toks) (fun b u e => Heap.get?_push_of_some _ e) (Nat.le_refl _) ?_, rfl, q _ hf⟩
  exact ⟨z, us, r, ⟨_, Heap.get?_push_size _ rfl, rfl, _, rfl⟩⟩
theorem pe_lst (h : PA X es t) : PE X (.List es pos) (tLst t) := by
  intro pins s σ H Q I hq
  refine wpAny_List_spliced (thn (h pos pins s σ H _ I hq) fun us s1 ⟨xs, H1, I1, r, z, q⟩ => ⟨by rw [← r.length]; exact z, ?_⟩)
  have hf : H1 s1.heap.objs.size = none := I1.hok.fresh (Nat.le_refl _)
  refine ⟨.ref s1.heap.objs.size, upd H1 s1.heap.objs.size (.lst xs), I1.laid (t' := s1.toks) (fun b u e => Heap.get?_push_of_some _ e) (Nat.le_refl _) ?_, rfl, q _ hf⟩
  exact ⟨z, us, 0, r, Heap.get?_push_size _ rfl⟩
end

/-! ### what a def promises -/
/-- a def's promise: the bound arguments in the parameters' order, the heap, the wanted end, the wanted exception -/
abbrev Sp := List V → Hp → VK → XK → Prop
/-- how an exception lies behind a call (file 08 gives it): the callers' frames, abstract heap and state ahead of the call, the wish, the exception, the state -/
abbrev CXT := List Env → Hp → Shared → XK → Value → Shared → Prop

/-- the state at a call -/
structure Env0 (P : Program) (w : World) (K : PySem.W.Frag) (mg : Str → Option Value) (base : Heap) (A : Around) (outer : List Env) (s : Shared) (H : Hp) : Prop where
  frames : A.frames = some outer
  mod : Mod K mg base
  bs : ∀ b o, base.get? b = some o → s.heap.get? b = some o ∧ H b = none
  bsz : base.objs.size ≤ s.heap.objs.size
  funs : s.heap.FunFrames base outer
  frf : ∀ b ∈ frs outer, H b = none
  hok : HOk P w H s.heap
  bare : AllBare s.gens
/-- a call's end -/
def CE (outer : List Env) (P : Program) (w : World) (H : Hp) (s : Shared) (Q : VK) (u : Value) (s' : Shared) : Prop :=
  ∃ v H', s'.os = s.os ∧ AllBare s'.gens ∧ Un (frs outer) [] H H' s.heap s'.heap ∧ HOk P w H' s'.heap ∧ RelV v u ∧ Q v H'
def CR (CX : CXT) (outer : List Env) (P : Program) (w : World) (H : Hp) (s : Shared) (Q : VK) (E : XK) (r : Result) (s' : Shared) : Prop :=
  match r with
  | .ok (.ret u) => CE outer P w H s Q u s'
  | .ok _ => False
  | .error e => CX outer H s E e s'
structure FnOk (P : Program) (w : World) (K : PySem.W.Frag) (mg : Str → Option Value) (base : Heap) (CX : CXT) (k : Nat) (f : Addr) (fd : FuncData) (ps : List Str) (sp : Sp) : Prop where
  len : ∀ vs H Q E, sp vs H Q E → vs.length = ps.length
  run : ∀ (A : Around) (outer : List Env) (s : Shared) (H : Hp) (args : Args) (us : List Value) (vs : List V) (Q : VK) (E : XK), Room k A → Env0 P w K mg base A outer s H → BindsTo s fd args (ps.zip us) → Vals vs us → sp vs H Q E →
    codeAny (model P w) A (.call (.ref f) args) (CR CX outer P w H s Q E) s
section
variable {X : Cx} {pins : List (Addr × Obj)} {σ : St} {H : Hp} {s s' : Shared}
/-- from a body: what a callee wants -/
theorem Inv.env0 (I : Inv X pins σ H s) : Env0 X.prog X.w X.K X.mg X.base X.A X.stack s H :=
  ⟨I.ok.frames, I.ok.mod, I.bs, Nat.le_trans I.ok.bsz I.sz, I.stack, I.stkFree, I.hok, I.bare⟩
/-- behind a call -/
theorem Inv.after {Q : VK} {u : Value} (I : Inv X pins σ H s) (h : CE X.stack X.prog X.w H s Q u s') : EP X pins σ Q u s' := by
  obtain ⟨v, H', os, bare, un, hok, r, q⟩ := h
  obtain ⟨hh, g, d, t, os'⟩ := s'
  obtain rfl : os' = s.os := os
  exact ⟨v, H', I.call (h' := hh) (g' := g) (d' := d) (t' := t) (ch := []) un hok bare (fun b z => absurd z (by simp)), r, q⟩
end

/-! ### calls -/
/-- f(..): the written arguments, then the defaults dvs; E: what is wanted of an exception -/
def tCall (sp : Sp) (dvs : List V) (E : XK) (t : TA) : TE := fun σ H Q => t σ H fun vs H1 => sp (vs ++ dvs) H1 Q E
/-- o.m(..) of an instance of the class at C -/
def tMeth (C : Addr) (m : Str) (sp : Sp) (dvs : List V) (E : XK) (ta : TE) (t : TA) : TE := fun σ H Q => ta σ H fun x H1 => ∃ a dx fs, x = .ref a ∧ H1 a = some (.ins C dx fs) ∧ fs.lookup m = none ∧
  t σ H1 fun vs H2 => sp (x :: (vs ++ dvs)) H2 Q E
/-- C(..): a new instance and its dict, then __init__ -/
def tMake (C : Addr) (sp : Sp) (dvs : List V) (E : XK) (t : TA) : TE := fun σ H Q => t σ H fun vs H1 => ∀ x dx, H1 x = none → H1 dx = none → dx ≠ x →
  sp (.ref x :: (vs ++ dvs)) (upd (upd H1 dx (.own x)) x (.ins C dx [])) (fun v H2 => v = .non ∧ Q (.ref x) H2) E

/-- how the parameters are bound: us the positional arguments, kw the keywords' values by name, ds the defaults that fill up -/
def Binds (K : PySem.W.Frag) (fd : FuncData) (ps : List Str) (ds : List Value) : Prop :=
  ∀ (s : Shared) (us : List Value), K.In s.heap → (us ++ ds).length = ps.length → BindsTo s fd ⟨us, []⟩ (ps.zip (us ++ ds))
/-- every parameter is given -/
theorem Binds.all {K : PySem.W.Frag} {fd : FuncData} {ps : List Str} (h : ∀ us : List Value, us.length = ps.length → bindArgs fd ⟨us, []⟩ = pure (ps.zip us)) : Binds K fd ps [] := fun s us _ hl => by
  rw [List.append_nil] at hl ⊢
  exact .of_eq (h us hl)

/-- an exception of a callee reaches what this body wants of exceptions -/
def Passes (CX : CXT) (X : Cx) (E : XK) : Prop := ∀ (pins : List (Addr × Obj)) (σ : St) (H : Hp) (s : Shared) (e : Value) (s' : Shared), Inv X pins σ H s → CX X.stack H s E e s' → X.xe e s'

section
variable {X : Cx} {CX : CXT} {k : Nat} {f C : Addr} {fd : FuncData} {ps : List Str} {sp : Sp} {dvs : List V} {ds : List Value} {E : XK} {x m : Str} {p pos apos : Pos} {e o : Expr} {es : List Expr} {ta : TE} {t : TA}

/-- the callee runs -/
theorem run_fn {pins : List (Addr × Obj)} {σ : St} {H : Hp} {s : Shared} {Q : VK} {us : List Value} {vs : List V} (F : FnOk X.prog X.w X.K X.mg X.base CX k f fd ps sp) (hr : Room k X.A) (hb : Binds X.K fd ps ds) (hd : Vals dvs ds) (hx : Passes CX X E)
    (I : Inv X pins σ H s) (r : Vals vs us) (h : sp (vs ++ dvs) H Q E) : wpAny (model X.prog X.w) X.A (call (.ref f) us) (EP X pins σ Q) X.xe s := by
  have r2 : Vals (vs ++ dvs) (us ++ ds) := r.append hd
  have hl : (us ++ ds).length = ps.length := by rw [← r2.length]; exact F.len _ _ _ _ h
  refine wpAny_call (codeAny_mono (F.run X.A X.stack s H ⟨us, []⟩ (us ++ ds) (vs ++ dvs) Q E hr I.env0 (hb s us I.kIn hl) r2 h) fun r s' hq => ?_)
  cases r with
  | error e => exact hx pins σ H s e s' I hq
  | ok fl =>
    cases fl with
    | ret u => exact I.after hq
    | next => exact False.elim hq
    | brk => exact False.elim hq
    | cont => exact False.elim hq

theorem pe_call (F : FnOk X.prog X.w X.K X.mg X.base CX k f fd ps sp) (hr : Room k X.A) (hg : Gl X x) (hm : X.mg x = some (.ref f)) (hk : PySem.W.keepIn X.K (.ref f) = true) (hb : Binds X.K fd ps ds) (hd : Vals dvs ds) (hx : Passes CX X E)
    (ha : PA X (e :: es) t) (hdb : (x == ("__debug__" : Str)) = false := by decide) (he : starEach (e :: es) X.env = (false, eval e X.env) :: starEach es X.env := by rfl) (hpl : (backTo pos (starEach es X.env)).any (·.1) = false := by rfl) :
    PE X (.Call (.Name x p) (e :: es) [] pos) (tCall sp dvs E t) := by
  intro pins s σ H Q I h
  refine wpAny_Call_Name_kw (ld_glob I hg hm ?_ hdb)
  refine PySem.W.callWith_K (h₀ := X.base) I.ok.mod.kin hk (thn (ha pos pins s σ H _ I h) fun us s1 ⟨vs, H1, I1, r, q⟩ => ⟨I1.kIn, ?_⟩) he hpl
  exact run_fn F hr hb hd hx I1 r q
/-- what a class must have to be made -/
structure Mk (K : PySem.W.Frag) (C f : Addr) : Prop where
  makes : PySem.W.makesIn K C = true
  init : PySem.W.findIn K (.ref C) "__init__" = some (some (.ref f))
  fn : PySem.W.isFn K (.ref f) = true
  kp : PySem.W.keepIn K (.ref C) = true

end

/-! ### keywords -/
/-- the values of the keywords, from the left -/
def PK (X : Cx) (kws : List Keyword) (t : TA) : Prop :=
  ∀ (pos : Pos) (pins : List (Addr × Obj)) (s : Shared) (σ : St) (H : Hp) (Q : List V → Hp → Prop), Inv X pins σ H s → t σ H Q → wpAny (model X.prog X.w) X.A (evalAll ((backToKw pos (keywordEach kws X.env)).map (·.2))) (AP X pins σ Q) X.xe s
section
variable {X : Cx} {CX : CXT} {k : Nat} {f C : Addr} {fd : FuncData} {ps ks : List Str} {sp : Sp} {E : XK} {x m : Str} {p pos apos kpos : Pos} {e o : Expr} {es : List Expr} {kws : List Keyword} {te ta : TE} {t tk : TA} {nm : Option Str}
/-- how a call with keywords binds: g puts the positional values us and the keywords' values ws (names ks) in the parameters' order, defaults among them -/
structure KBinds (K : PySem.W.Frag) (fd : FuncData) (ps ks : List Str) (g : List Value → List Value → List Value) (gV : List V → List V → List V) : Prop where
  to : ∀ (s : Shared) (us ws : List Value), K.In s.heap → (g us ws).length = ps.length → BindsTo s fd ⟨us, ks.zip ws⟩ (ps.zip (g us ws))
  rel : ∀ {vs : List V} {us : List Value} {zs : List V} {ws : List Value}, Vals vs us → Vals zs ws → Vals (gV vs zs) (g us ws)
def tCallK (sp : Sp) (gV : List V → List V → List V) (E : XK) (t tk : TA) : TE := fun σ H Q => t σ H fun vs H1 => tk σ H1 fun zs H2 => sp (gV vs zs) H2 Q E
variable {g : List Value → List Value → List Value} {gV : List V → List V → List V}
end

/-! ### a def's body keeps its promise -/
/-- names: the parameters first -/
structure FnScope (N P : List Str) (sc : Scope) : Prop where
  kind : sc.kind = .function
  co : sc.isCoroutine = false
  gen : sc.isGenerator = false
  nd : N.Nodup
  pre : N.take P.length = P
  par : ∀ x ∈ P, sc.names.lookup x = some .local ∨ sc.names.lookup x = some .cell
  nofree : ∀ y ∈ sc.names, y.2 ≠ .free

theorem bindL_out {kindOf : Str → Option NameKind} {x : Str} : ∀ {binds : List (Str × Value)} {m : Str → Option Value}, (∀ v, (x, v) ∉ binds) → bindL kindOf binds m x = m x
  | [], _, _ => rfl
  | (n, v) :: r, m, h => by
    unfold bindL
    rw [bindL_out fun w hw => h w (List.mem_cons_of_mem _ hw)]
    split
    · have : x ≠ n := by rintro rfl; exact h v List.mem_cons_self
      simp [this]
    · rfl
theorem bindC_out {kindOf : Str → Option NameKind} {x : Str} : ∀ {binds : List (Str × Value)} {m : Str → Option Value}, (∀ v, (x, v) ∉ binds) → bindC kindOf binds m x = m x
  | [], _, _ => rfl
  | (n, v) :: r, m, h => by
    unfold bindC
    rw [bindC_out fun w hw => h w (List.mem_cons_of_mem _ hw)]
    split
    · rfl
    · have : x ≠ n := by rintro rfl; exact h v List.mem_cons_self
      simp [this]
theorem bindL_get {kindOf : Str → Option NameKind} {x : Str} {v : Value} : ∀ {P : List Str} {vs : List Value} {i : Nat} {m : Str → Option Value}, P.Nodup → P[i]? = some x → vs[i]? = some v → kindOf x = some .local →
    bindL kindOf (P.zip vs) m x = some v
  | [], _, _, _, _, h, _, _ => by simp at h
  | _ :: _, [], _, _, _, _, h, _ => by simp at h
  | p :: P, w :: vs, 0, m, nd, h1, h2, hk => by
    simp at h1 h2; subst h1; subst h2
    show bindL kindOf ((p, w) :: P.zip vs) m p = _
    unfold bindL
    rw [bindL_out fun v hv => (List.nodup_cons.mp nd).1 (List.of_mem_zip hv).1, if_pos hk]
    simp
  | p :: P, w :: vs, i + 1, m, nd, h1, h2, hk => by
    show bindL kindOf ((p, w) :: P.zip vs) m x = _
    unfold bindL
    exact bindL_get (i := i) (List.nodup_cons.mp nd).2 (by simpa using h1) (by simpa using h2) hk
theorem bindC_get {kindOf : Str → Option NameKind} {x : Str} {v : Value} : ∀ {P : List Str} {vs : List Value} {i : Nat} {m : Str → Option Value}, P.Nodup → P[i]? = some x → vs[i]? = some v → kindOf x ≠ some .local →
    bindC kindOf (P.zip vs) m x = some v
  | [], _, _, _, _, h, _, _ => by simp at h
  | _ :: _, [], _, _, _, _, h, _ => by simp at h
  | p :: P, w :: vs, 0, m, nd, h1, h2, hk => by
    simp at h1 h2; subst h1; subst h2
    show bindC kindOf ((p, w) :: P.zip vs) m p = _
    unfold bindC
    rw [bindC_out fun v hv => (List.nodup_cons.mp nd).1 (List.of_mem_zip hv).1, if_neg hk]
    simp
  | p :: P, w :: vs, i + 1, m, nd, h1, h2, hk => by
    show bindC kindOf ((p, w) :: P.zip vs) m x = _
    unfold bindC
    exact bindC_get (i := i) (List.nodup_cons.mp nd).2 (by simpa using h1) (by simpa using h2) hk

/-- the names' values at the entry -/
def start (N : List Str) (vs : List V) : St := vs.map some ++ List.replicate (N.length - vs.length) none

/-- the context of a def's body, at its entry; an exception leaves the frame, then lies as CX says -/
def cxOf (CX : CXT) (P : Program) (w : World) (K : PySem.W.Frag) (mg : Str → Option Value) (base : Heap) (N : List Str) (qual : Str) (scope : Scope) (f : Addr) (cd : Value) (A : Around) (outer : List Env) (s : Shared) (H : Hp) (E : XK) : Cx where
  prog := P
  w := w
  K := K
  mg := mg
  base := base
  A := A.deeper (envOfC qual scope s.heap.objs.size f cd)
  N := N
  s₀ := s
  H₀ := H
  env := envOfC qual scope s.heap.objs.size f cd
  outer := outer
  stack := envOfC qual scope s.heap.objs.size f cd :: outer
  ex := []
  calm := true
  fn := fun _ => true
  pn := []
  xe := fun e s' => wpAny (model P w) (A.deeper (envOfC qual scope s.heap.objs.size f cd)) (leaving (envOfC qual scope s.heap.objs.size f cd) e) (fun _ s'' => CX outer H s E e s'') (fun e' s'' => CX outer H s E e' s'') s'

theorem cell_has {sc : Scope} {n : Nat} {x : Str} (h : sc.names.lookup x = some .cell) : ∃ c, (cellsFrom n sc.names []).lookup x = some c := by
  have q := PySem.W.cellsFrom_some sc.names n [] (.inl h)
  exact Option.isSome_iff_exists.mp q

theorem inv_start {CX : CXT} {P : Program} {w : World} {K : PySem.W.Frag} {mg : Str → Option Value} {base : Heap} {N ps : List Str} {qual : Str} {scope : Scope} {f : Addr} {cd : Value} {A : Around} {outer : List Env} {s s1 : Shared} {H : Hp} {E : XK} {us : List Value} {vs : List V}
    (S : FnScope N ps scope) (hd : A.handled = none) (e0 : Env0 P w K mg base A outer s H) (hl : vs.length = ps.length) (r : Vals vs us)
    (x : InCallC s s.heap.objs.size (bindL (envOfC qual scope s.heap.objs.size f cd).kindOf (ps.zip us) fun _ => none) (cellsFrom (s.heap.objs.size + 1) scope.names []) (bindC (envOfC qual scope s.heap.objs.size f cd).kindOf (ps.zip us) fun _ => none) s1) :
    Inv (cxOf CX P w K mg base N qual scope f cd A outer s H E) [] (start N vs) H s1 := by
  have hpl : ps.length ≤ N.length := by have := congrArg List.length S.pre; rw [List.length_take] at this; omega
  obtain ⟨h1, tk, rfl, hk⟩ := x.done
  have noA : ∀ b : Addr, b ∉ (cxOf CX P w K mg base N qual scope f cd A outer s H E).ex := fun b z => absurd (show b ∈ ([] : List Addr) from z) (by simp)
  refine ⟨⟨e0.mod, S.kind, rfl, rfl, Nat.le_refl _, fun y z c h1 h2 => ?_, fun y hy => ?_, fun y c _ h => ?_, fun _ => hd, Around.frames_deeper e0.frames, .inr ⟨rfl, rfl⟩, fun b z => absurd z (noA b), e0.bs, e0.bsz, fun b _ _ => noA b, fun b z => absurd z (noA b), e0.funs, e0.frf⟩,
    rfl, e0.bare, Un.kept hk, ⟨_, x.toInCall.ns, fun i y v h1 h2 h3 => ?_⟩, fun y c h => ⟨_, x.cell y c h⟩, e0.hok.fresh (Nat.le_refl _), fun y c h => ?_, fun p hp => absurd (show p ∈ ([] : List (Addr × Obj)) from hp) (by simp), e0.hok.kept hk, ?_⟩
  · exact name_of_addr x.apart (PySem.mem_of_lookup h1) (PySem.mem_of_lookup h2)
  · have hy : scope.names.lookup y = some .cell ∨ scope.names.lookup y = some .free := hy
    rcases hy with hy | hy
    · exact cell_has hy
    · exact absurd rfl (S.nofree _ (PySem.mem_of_lookup hy))
  · exact Nat.le_of_lt (x.above y c (PySem.mem_of_lookup h))
  · have hi : i < vs.length := by
      unfold start at h2
      by_cases hi : i < vs.length
      · exact hi
      · rw [List.getElem?_append_right (by simpa using hi)] at h2
        rw [List.getElem?_replicate] at h2
        split at h2 <;> cases h2
    have ha : vs[i]? = some v := by
      unfold start at h2
      rw [List.getElem?_append_left (by simpa using hi), List.getElem?_map] at h2
      cases e : vs[i]? with
      | none => rw [e] at h2; cases h2
      | some a => rw [e] at h2; cases h2; rfl
    obtain ⟨u, hu, rv⟩ := r.get ha
    have hp : ps[i]? = some y := by
      rw [← S.pre, List.getElem?_take_of_lt (by omega)]; exact h1
    have ndP : ps.Nodup := by rw [← S.pre]; exact S.nd.sublist (List.take_sublist _ _)
    refine ⟨u, rv, ?_⟩
    rcases S.par y (List.mem_of_getElem? hp) with k | k
    · exact .inl ⟨k, bindL_get ndP hp hu k⟩
    · obtain ⟨c, e⟩ := cell_has (n := s.heap.objs.size + 1) k
      refine .inr ⟨.inl k, c, e, ?_⟩
      have q := x.cell y c e
      rw [bindC_get ndP hp hu (by show scope.names.lookup y ≠ _; rw [k]; decide)] at q
      exact q
  · exact e0.hok.fresh (Nat.le_of_lt (x.above y c (PySem.mem_of_lookup h)))
  · unfold start
    show _ = N.length
    rw [List.length_append, List.length_map, List.length_replicate]
    omega

/-- THE RULE: a def (or a method) of the text, by its body. The body's reading t is chosen for each entry; it is run at the parameters' values -/
theorem fn_of {CX : CXT} {P : Program} {w : World} {K : PySem.W.Frag} {mg : Str → Option Value} {base : Heap} {k : Nat} {f : Addr} {name qual : Str} {params : Arguments} {body : List Stmt} {scope : Scope} {dV kV doc pm cdv ct oc : Value} {an od : Option Addr}
    {osl : Array (Option Value)} {N ps : List Str} {sp : Sp} (lk : K.lookup f = some ⟨oc, od, .func (PySem.W.fnOf name qual params body scope dV kV doc pm an cdv ct), osl⟩) (hcd : PySem.W.codeIn K cdv qual = true) (S : FnScope N ps scope)
    (len : ∀ vs H Q E, sp vs H Q E → vs.length = ps.length)
    (hbody : ∀ (A : Around) (outer : List Env) (s : Shared) (H : Hp) (vs : List V) (Q : VK) (E : XK), Room k (A.deeper (envOfC qual scope s.heap.objs.size f cdv)) → sp vs H Q E →
      ∃ t, PSs (cxOf CX P w K mg base N qual scope f cdv A outer s H E) body t ∧ t { nx := fun _ H' => Q .non H', rt := Q } (start N vs) H) :
    FnOk P w K mg base CX (k + 1) f (PySem.W.fnOf name qual params body scope dV kV doc pm an cdv ct) ps sp := by
  refine ⟨len, fun A outer s H args us vs Q E hr e0 hb r hsp => ?_⟩
  have hl := len _ _ _ _ hsp
  have KX : K.In s.heap := e0.mod.kin.keeps fun b o e => (e0.bs b o e).1
  have lim : s.heap.NoLimit := e0.mod.nolimit.keeps fun b o e => (e0.bs b o e).1
  have hkind : ∀ y ∈ ps.zip us, scope.names.lookup y.1 = some .local ∨ (scope.names.lookup y.1 = some .cell ∧ ((cellsFrom (s.heap.objs.size + 1) scope.names []).lookup y.1).isSome = true) := fun ⟨n, v⟩ hy => by
    rcases S.par n (List.of_mem_zip hy).1 with q | q
    · exact .inl q
    · exact .inr ⟨q, PySem.W.cellsFrom_some _ _ _ (.inl q)⟩
  refine codeAny_call_function hr.depth (KX _ _ lk) rfl S.co S.gen rfl (PySem.W.codeRec_of KX hcd) (hb _ _ _ _ ?_)
  refine wpAny_newFunctionEnv_cells S.kind hkind fun env he s1 x => ?_
  subst he
  refine ⟨lim.keeps x.toInCall.keep, codeAny_func ?_⟩
  obtain ⟨t, ht, hq⟩ := hbody A outer s H vs Q E (hr.deeper _) hsp
  have I : Inv (cxOf CX P w K mg base N qual scope f cdv A outer s H E) [] (start N vs) H s1 := inv_start S hr.hd e0 hl r x
  refine wpAny_mono (ht [] s1 (start N vs) H _ I hq) (fun fl s' hs => ?_) fun e s' hs => hs
  have fin : ∀ {σ' : St} {H' : Hp} {v : V} {u : Value}, Inv (cxOf CX P w K mg base N qual scope f cdv A outer s H E) [] σ' H' s' → RelV v u → Q v H' → CE outer P w H s Q u s' :=
    fun {σ' H' v u} J rv q => ⟨v, H', J.os, J.bare, J.base, J.hok, rv, q⟩
  cases fl with
  | ret u =>
    obtain ⟨v, σ', H', J, rv, q⟩ := hs
    exact fin J rv q
  | next =>
    obtain ⟨σ', H', J, q⟩ := hs
    exact fin (v := V.non) (u := Value.none) J rfl q
  | brk =>
    obtain ⟨_, _, _, q⟩ := hs
    exact False.elim q
  | cont =>
    obtain ⟨_, _, _, q⟩ := hs
    exact False.elim q
end L2

namespace L2
open PySem PySem.Spec PyProof.Rows
section
variable {X : Cx} {x : Str} {p pos : Pos} {e : Expr} {es : List Expr} {t : TA} {id T : String} {r : List V → Hp → VK → Prop}

def tCB (r : List V → Hp → VK → Prop) (t : TA) : TE := fun σ H Q => t σ H fun vs H1 => r vs H1 Q
/-- f(e, ..), f a built-in function -/
theorem pe_callB (hc : CallR X (.builtin id) r) (hg : Gl X x) (hm : X.mg x = none) (hv : bootBuiltins x = some (.builtin id)) (ha : PA X (e :: es) t) (hn : x ≠ "__name__" := by decide) (hdb : (x == ("__debug__" : Str)) = false := by decide)
    (he : starEach (e :: es) X.env = (false, eval e X.env) :: starEach es X.env := by rfl) (hpl : (backTo pos (starEach es X.env)).any (·.1) = false := by rfl) : PE X (.Call (.Name x p) (e :: es) [] pos) (tCB r t) := by
  intro pins s σ H Q I h
  refine wpAny_Call_Name_kw (ld_blt I hg hm hv ?_ hn hdb)
  exact PyProof.Rows.callWith_builtin1 (thn (ha pos pins s σ H _ I h) fun us s1 ⟨vs, H1, I1, r1, q1⟩ => hc pins s1 σ H1 vs us Q I1 r1 q1) he hpl
/-- T(e, ..), T a built-in type -/
theorem pe_callTy (hc : CallR X (.type T) r) (hg : Gl X x) (hm : X.mg x = none) (hv : bootBuiltins x = some (.type T)) (ha : PA X (e :: es) t) (hn : x ≠ "__name__" := by decide) (hdb : (x == ("__debug__" : Str)) = false := by decide)
    (he : starEach (e :: es) X.env = (false, eval e X.env) :: starEach es X.env := by rfl) (hpl : (backTo pos (starEach es X.env)).any (·.1) = false := by rfl) : PE X (.Call (.Name x p) (e :: es) [] pos) (tCB r t) := by
  intro pins s σ H Q I h
  refine wpAny_Call_Name_kw (ld_blt I hg hm hv ?_ hn hdb)
  exact PyProof.Rows.callWith_type1 (thn (ha pos pins s σ H _ I h) fun us s1 ⟨vs, H1, I1, r1, q1⟩ => hc pins s1 σ H1 vs us Q I1 r1 q1) he hpl
end
end L2

namespace HT
open PySem PyProof.Rows

/-- t < u of tuples of ints -/
def lexLt : List Int → List Int → Bool
  | [], [] => false
  | [], _ :: _ => true
  | _ :: _, [] => false
  | x :: xs, y :: ys => if x = y then lexLt xs ys else decide (x < y)
section
open PySem.SeqAt
open PySem.AutoSeq1 (wpAny_loadPart')
open PySem.MeetsSeq PySem.MeetsSeq2 PySem.MeetsSeq3

end

section
variable {prog : Program} {w : World} {A : Around} {E : Value → Shared → Prop} {s : Shared}

/-! ### t[a:b], not the whole -/
/-- a slice's bound as a place among n (d where it is left out) -/
def sIx (n d : Nat) : Option Int → Nat
  | none => d
  | some v => if v < 0 then (v + (n : Int)).toNat else min v.toNat n
theorem sIx_none (n d : Nat) : sIx n d none = d := rfl
theorem sIx_nat (n d k : Nat) : sIx n d (some (k : Int)) = min k n := by
  show (if (k : Int) < 0 then ((k : Int) + (n : Int)).toNat else min (k : Int).toNat n) = min k n
  rw [if_neg (by omega), Int.toNat_natCast]
end
end HT

namespace L2
open PySem PySem.Spec PyProof.Rows

/-! ### the parts of a slice -/
abbrev TO := St → Hp → (Option Int → Hp → Prop) → Prop
/-- a slice's part (left out, or an int) -/
def PO (X : Cx) (e : Option Expr) (t : TO) : Prop :=
  ∀ (pins : List (Addr × Obj)) (s : Shared) (σ : St) (H : Hp) (Q : Option Int → Hp → Prop), Inv X pins σ H s → t σ H Q →
    wpAny (model X.prog X.w) X.A (evalPart e X.env) (fun u s' => ∃ o H', Inv X pins σ H' s' ∧ IsPart u o ∧ Q o H') X.xe s
def tNoPart : TO := fun _ H Q => Q none H
def tPart (t : TE) : TO := fun σ H Q => t σ H fun x H1 => ∃ i, x = .int i ∧ Q (some i) H1

section
variable {X : Cx} {e : Expr} {te : TE} {lo hi : Option Expr} {tl th : TO} {pos p2 : Pos}

theorem po_none : PO X none tNoPart := by
  intro pins s σ H Q I h
  rw [evalPart_none]
  exact wpAny_pure ⟨none, H, I, .none, h⟩
theorem po_some (h : PE X e te) : PO X (some e) (tPart te) := by
  intro pins s σ H Q I hw
  rw [evalPart_some]
  refine thn (h pins s σ H _ I hw) fun u s1 ⟨x, H1, I1, r1, q1⟩ => ?_
  obtain ⟨i, rfl, q⟩ := q1
  obtain ⟨t, rfl⟩ := r1
  exact ⟨some i, H1, I1, .int i t, q⟩

/-- what a slice of a value is, by values: the slice object stands at sl -/
def SlR (X : Cx) (r : V → Option Int → Option Int → Hp → VK → Prop) : Prop :=
  ∀ (pins : List (Addr × Obj)) (s : Shared) (σ : St) (H : Hp) (x : V) (v vl vu : Value) (lo hi : Option Int) (sl : Addr) (Q : VK), Inv X pins σ H s → RelV x v → s.heap.IsSliceOf sl vl vu .none → IsPart vl lo → IsPart vu hi → r x lo hi H Q →
    ∃ T id, typeLookup (.type T) "__getitem__" = pure (some (.builtin id)) ∧ s.TypeIs v T ∧ wpAny (model X.prog X.w) X.A (getItem v (.ref sl)) (EP X pins σ Q) X.xe s
def tSl (r : V → Option Int → Option Int → Hp → VK → Prop) (te : TE) (tl th : TO) : TE := fun σ H Q => te σ H fun x H1 => tl σ H1 fun l H2 => th σ H2 fun u H3 => r x l u H3 Q
/-- a[lo:hi], any a -/
theorem pe_slice {r : V → Option Int → Option Int → Hp → VK → Prop} (hr : SlR X r) (he : PE X e te) (hl : PO X lo tl) (hu : PO X hi th) : PE X (.Subscript e (.Slice lo hi none p2) pos) (tSl r te tl th) := by
  intro pins s σ H Q I h
  refine Subscript_ (thn (he pins s σ H _ I h) fun v s1 ⟨x, H1, I1, r1, q1⟩ => ?_)
  refine wpAny_Slice (thn (hl pins s1 σ H1 _ I1 q1) fun vl s2 ⟨l, H2, I2, pl, q2⟩ => thn (hu pins s2 σ H2 _ I2 q2) fun vu s3 ⟨u, H3, I3, pu, q3⟩ => ?_)
  rw [evalPart_none]
  refine wpAny_pure ?_
  have I4 : Inv X pins σ H3 { s3 with heap := s3.heap.push { cls := .type "slice", data := .fields #[vl, vu, .none] } } := I3.kept (t' := s3.toks) fun b ob q => Heap.get?_push_of_some _ q
  obtain ⟨T, id, hT, ht, hg⟩ := hr pins { s3 with heap := s3.heap.push { cls := .type "slice", data := .fields #[vl, vu, .none] } } σ H3 x v vl vu l u s3.heap.objs.size Q I4 r1 (Heap.IsSliceOf.new ..) pl pu q3
  show wpAny (model X.prog X.w) X.A (subscriptTail e (.Slice lo hi none p2) v (.ref s3.heap.objs.size)) (EP X pins σ Q) X.xe { s3 with heap := s3.heap.push { cls := .type "slice", data := .fields #[vl, vu, .none] } }
  exact tail_any (ops := [.ref s3.heap.objs.size, v]) ht hT hg (by with_unfolding_all rfl)

/-- the items of xs[lo:hi] -/
def cutV (xs : List V) (lo hi : Option Int) : List V := (xs.drop (HT.sIx xs.length 0 lo)).take (HT.sIx xs.length xs.length hi - HT.sIx xs.length 0 lo)
theorem cutV_length (xs : List V) (lo hi : Option Int) : (cutV xs lo hi).length ≤ xs.length := by
  unfold cutV
  rw [List.length_take, List.length_drop]
  omega
/-- t[lo:hi], not the whole of it (the whole would be t itself) -/
def rSlT (K : PySem.W.Frag) : V → Option Int → Option Int → Hp → VK → Prop := fun x lo hi H Q => ∃ a xs, x = .ref a ∧ SqT K H a xs ∧
  ¬ (HT.sIx xs.length 0 lo = 0 ∧ HT.sIx xs.length xs.length hi = xs.length) ∧ ∀ p, H p = none → Q (.ref p) (upd H p (.tup (cutV xs lo hi)))
/-! ### t < u, t + u -/
def rLtT (K : PySem.W.Frag) : R2 := fun x y H Q => ∃ a b ns ms, x = .ref a ∧ y = .ref b ∧ SqT K H a (ns.map V.int) ∧ SqT K H b (ms.map V.int) ∧ Q (.bl (HT.lexLt ns ms)) H
/-- t + u, t not empty: u empty gives t itself -/
def rCatT (K : PySem.W.Frag) : R2 := fun x y H Q => ∃ a b xs ys, x = .ref a ∧ y = .ref b ∧ SqT K H a xs ∧ SqT K H b ys ∧ xs ≠ [] ∧ xs.length + ys.length ≤ sizeLine ∧
  (ys = [] → Q (.ref a) H) ∧ (ys ≠ [] → ∀ p, H p = none → Q (.ref p) (upd H p (.tup (xs ++ ys))))
end
end L2

namespace L2
open PySem PySem.Spec PyProof.Rows

/-! ### places -/
/-- the place that an index of any sign means -/
def ixN (n : Nat) (i : Int) : Option Nat := if 0 ≤ i then (if i < n then some i.toNat else none) else if -(n : Int) ≤ i then some (i + n).toNat else none
def atI {α : Type} (xs : List α) (i : Int) : Option α := (ixN xs.length i).bind fun j => xs[j]?
theorem ixN_seq {n : Nat} {i : Int} {j : Nat} (h : ixN n i = some j) : seqIndex? i n = some j ∧ j < n ∧ -(n : Int) ≤ i ∧ i < n := by
  unfold ixN at h
  by_cases h0 : 0 ≤ i
  · rw [if_pos h0] at h
    by_cases h1 : i < n
    · rw [if_pos h1] at h
      have e : i.toNat = j := Option.some.inj h
      exact ⟨by rw [seqIndex_of h0 h1, e], by omega, by omega, h1⟩
    · rw [if_neg h1] at h; cases h
  · rw [if_neg h0] at h
    by_cases h1 : -(n : Int) ≤ i
    · rw [if_pos h1] at h
      have e : (i + n).toNat = j := Option.some.inj h
      exact ⟨by rw [seqIndex_neg (by omega) h1, e], by omega, h1, by omega⟩
    · rw [if_neg h1] at h; cases h
theorem atI_get {α : Type} {xs : List α} {i : Int} {v : α} (h : atI xs i = some v) : ∃ j, seqIndex? i xs.length = some j ∧ xs[j]? = some v ∧ j < xs.length ∧ -(xs.length : Int) ≤ i ∧ i < xs.length := by
  unfold atI at h
  cases e : ixN xs.length i with
  | none => rw [e] at h; cases h
  | some j =>
    rw [e] at h
    obtain ⟨h1, h2, h3, h4⟩ := ixN_seq e
    exact ⟨j, h1, h, h2, h3, h4⟩
theorem atI_nat {α : Type} {xs : List α} {j : Nat} {v : α} (h : xs[j]? = some v) : atI xs (j : Int) = some v := by
  have hj : j < xs.length := (List.getElem?_eq_some_iff.mp h).1
  have e : ixN xs.length (j : Int) = some j := by
    unfold ixN
    rw [if_pos (by omega), if_pos (by omega)]; simp
  unfold atI; rw [e]; exact h
/-! ### what may be subscripted -/
/-- what stands as an index of a plain subscript -/
def PlainIx (b : Expr) : Prop := ∀ o i, subscripted b false o i = operate [o, i] (getItem o i)
/-- a subscript by values -/
def IxR (X : Cx) (r : R2) : Prop :=
  ∀ (value slice : Expr) (pins : List (Addr × Obj)) (s : Shared) (σ : St) (H : Hp) (x y : V) (v u : Value) (Q : VK), Inv X pins σ H s → RelV x v → RelV y u → r x y H Q →
    subscripted slice false v u = operate [v, u] (getItem v u) → wpAny (model X.prog X.w) X.A (subscriptTail value slice v u) (EP X pins σ Q) X.xe s
/-- a call of a builtin's method by values: the receiver, the arguments -/
def MtR (X : Cx) (id : String) (r : V → List V → Hp → VK → Prop) : Prop :=
  ∀ (pins : List (Addr × Obj)) (s : Shared) (σ : St) (H : Hp) (x : V) (xs : List V) (v : Value) (us : List Value) (Q : VK), Inv X pins σ H s → RelV x v → Vals xs us → r x xs H Q →
    wpAny (model X.prog X.w) X.A (call (.builtin id) (v :: us)) (EP X pins σ Q) X.xe s
section
variable {X : Cx} {a b : Expr} {ta tb : TE} {pos : Pos}
/-- a[b] -/
theorem pe_ix {r : R2} (hr : IxR X r) (ha : PE X a ta) (hb : PE X b tb) (hs : PlainIx b) : PE X (.Subscript a b pos) (tOp r ta tb) := by
  intro pins s σ H Q I h
  exact Subscript_ (binT ha hb I h fun v u s2 x y H2 I2 rx ry q => hr a b pins s2 σ H2 x y v u Q I2 rx ry q (hs _ _))

def rIxL (K : PySem.W.Frag) : R2 := fun x y H Q => ∃ p xs i v, x = .ref p ∧ y = .int i ∧ SqL K H p xs ∧ atI xs i = some v ∧ Q v H
def rIxT (K : PySem.W.Frag) : R2 := fun x y H Q => ∃ p xs i v, x = .ref p ∧ y = .int i ∧ SqT K H p xs ∧ atI xs i = some v ∧ Q v H
def rIxS : R2 := fun x y H Q => ∃ z i c, x = .str z ∧ y = .int i ∧ z.length ≤ sizeLine ∧ atI z.cps.toList i = some c ∧ Q (.str ⟨#[c]⟩) H
theorem ix_list : IxR X (rIxL X.K) := by
  intro value slice pins s σ H x y v u Q I rx ry h hs
  obtain ⟨p, xs, i, z, rfl, rfl, hq, he, q⟩ := h
  cases rx
  obtain ⟨t, rfl⟩ := ry
  obtain ⟨its, r, pl, hz⟩ := I.list hq
  obtain ⟨j, h1, h2, h3, h4, h5⟩ := atI_get he
  obtain ⟨w, ew, rw'⟩ := r.get h2
  have hl := r.length
  have hn := line63
  have fin : EP X pins σ Q w s := ⟨z, H, I, rw', q⟩
  by_cases h0 : 0 ≤ i
  · have hj : i.toNat = j := by
      rw [seqIndex_of h0 h5] at h1
      exact Option.some.inj h1
    exact item_listR pl.isList h0 (by omega) (by rw [hj]; simpa using ew) fin hs
  · have hj : (i + (its.toArray.size : Int)).toNat = j := by
      rw [seqIndex_neg (by omega) h4] at h1
      rw [List.size_toArray, ← hl]
      exact Option.some.inj h1
    exact subscriptTail_builtinR (x := w) pl.isList.typeIs slot_list_getitem.lookup
      (wpAny_getItem_list_neg (Q := fun r s' => r = w ∧ EP X pins σ Q r s') pl.isList (by omega) (by rw [List.size_toArray] <;> omega) (by omega) (by rw [hj]; simpa using ew) ⟨rfl, fin⟩) hs
theorem ix_tup : IxR X (rIxT X.K) := by
  intro value slice pins s σ H x y v u Q I rx ry h hs
  obtain ⟨p, xs, i, z, rfl, rfl, hq, he, q⟩ := h
  cases rx
  obtain ⟨t, rfl⟩ := ry
  obtain ⟨its, r, pl, hz⟩ := I.tuple hq
  obtain ⟨j, h1, h2, h3, h4, h5⟩ := atI_get he
  obtain ⟨w, ew, rw'⟩ := r.get h2
  have hl := r.length
  have hn := line63
  have fin : EP X pins σ Q w s := ⟨z, H, I, rw', q⟩
  exact subscriptTail_builtinR (x := w) pl.typeIs slot_tuple_getitem.lookup
    (getItem_tuple (j := j) (Q := fun r s' => r = w ∧ EP X pins σ Q r s') pl (by omega) (by omega) (by rw [List.size_toArray, ← hl]; exact h1) (by simpa using ew) ⟨rfl, fin⟩) hs
/-- list, tuple or str -/
def rIx (K : PySem.W.Frag) : R2 := fun x y H Q => rIxL K x y H Q ∨ rIxT K x y H Q ∨ rIxS x y H Q
/-! ### xs[i] = v, any sign -/
def rSetL : V → V → V → Hp → (Hp → Prop) → Prop := fun o i v H Q => ∃ p xs k j, o = .ref p ∧ i = .int k ∧ H p = some (.lst xs) ∧ ixN xs.length k = some j ∧ Q (upd H p (.lst (xs.set j v)))
/-! ### slices -/
theorem slice_bounds (lo hi : Option Int) (n : Nat) : (sliceBounds lo hi none n).1 = ((HT.sIx n 0 lo : Nat) : Int) ∧ (sliceBounds lo hi none n).2.1 = ((HT.sIx n n hi : Nat) : Int) ∧ (sliceBounds lo hi none n).2.2 = 1 := by
  refine ⟨?_, ?_, rfl⟩
  · cases lo with
    | none => simp [sliceBounds, HT.sIx]
    | some i =>
      simp only [sliceBounds, HT.sIx, Option.getD_none, show (1 : Int) > 0 by decide, if_true]
      by_cases h : i < 0
      · simp only [h, if_true] <;> omega
      · simp only [h, if_false] <;> omega
  · cases hi with
    | none => simp [sliceBounds, HT.sIx]
    | some i =>
      simp only [sliceBounds, HT.sIx, Option.getD_none, show (1 : Int) > 0 by decide, if_true]
      by_cases h : i < 0
      · simp only [h, if_true] <;> omega
      · simp only [h, if_false] <;> omega
theorem slicePick_cut (its : List Value) (lo hi : Option Int) : slicePick its.toArray lo hi none = ((its.drop (HT.sIx its.length 0 lo)).take (HT.sIx its.length its.length hi - HT.sIx its.length 0 lo)).toArray := by
  obtain ⟨h1, h2, h3⟩ := slice_bounds lo hi its.toArray.size
  unfold slicePick
  rw [h1, h2, h3]
  simp only [sliceRange_one, pick_run, List.size_toArray] <;> rfl
/-- xs[lo:hi] of a list: a new list -/
def rSlL (K : PySem.W.Frag) : V → Option Int → Option Int → Hp → VK → Prop := fun x lo hi H Q => ∃ a xs, x = .ref a ∧ SqL K H a xs ∧ ∀ p, H p = none → Q (.ref p) (upd H p (.lst (cutV xs lo hi)))
theorem sl_list : SlR X (rSlL X.K) := by
  intro pins s σ H x v vl vu lo hi sl Q I rx hs pl pu h
  obtain ⟨a, xs, rfl, hx, q⟩ := h
  cases rx
  obtain ⟨its, r, ht, hz⟩ := I.list hx
  have hlen := r.length
  refine ⟨"list", _, slot_list_getitem.lookup, ht.isList.typeIs, ?_⟩
  refine wpAny_getItem_list_slice ht.isList hs pl pu .none (by simp) ?_ (by rw [List.size_toArray] <;> omega)
  rw [slicePick_cut, ← hlen]
  refine ⟨.ref s.heap.objs.size, _, I.laid (t' := s.toks) (o := .lst (cutV xs lo hi)) (fun b ob q => Heap.get?_push_of_some _ q) (Nat.le_refl _) ?_, rfl, q _ (I.hok.fresh (Nat.le_refl _))⟩
  exact ⟨Nat.le_trans (cutV_length xs lo hi) hz, _, 0, (r.drop (HT.sIx xs.length 0 lo)).take (HT.sIx xs.length xs.length hi - HT.sIx xs.length 0 lo), Heap.get?_push_size _ rfl⟩

/-! ### in, not in: flat items -/
def flatV : V → Bool
  | .non => true
  | .bl _ => true
  | .int _ => true
  | .str _ => true
  | _ => false
/-- == of flat values -/
def eqV : V → V → Bool
  | .non, .non => true
  | .bl a, .bl b => a == b
  | .bl a, .int b => (if a then 1 else 0) == b
  | .int a, .bl b => a == (if b then 1 else 0)
  | .int a, .int b => a == b
  | .str a, .str b => a == b
  | _, _ => false
/-- the items' answers, read off the values (a value's own answer does not lean on its token) -/
def eqU (x : V) (u : Value) : Bool := match u with
  | .none => eqV .non x
  | .bool b => eqV (.bl b) x
  | .int i _ => eqV (.int i) x
  | .str z _ => eqV (.str z) x
  | _ => false
def inV (x : V) (xs : List V) : Bool := xs.any fun y => eqV y x
/-- x in a list or tuple of flat items -/
def rIn (K : PySem.W.Frag) (neg : Bool) : R2 := fun x y H Q => ∃ p xs, y = .ref p ∧ (SqL K H p xs ∨ SqT K H p xs) ∧ flatV x = true ∧ xs.all flatV = true ∧ Q (.bl (if neg then !inV x xs else inV x xs)) H
/-! ### len, list(x), tuple(x) of any list or tuple that is read -/
theorem call_len_seq : CallR X (.builtin "len") (fun xs H Q => ∃ p ys, xs = [.ref p] ∧ (SqL X.K H p ys ∨ SqT X.K H p ys) ∧ Q (.int ys.length) H) := by
  intro pins s σ H xs us Q I r h
  obtain ⟨p, ys, rfl, hq, q⟩ := h
  obtain ⟨u, rfl, rx⟩ := vals1 r
  cases rx
  have hn := line63
  rcases hq with hq | hq
  · obtain ⟨its, r', pl, hz⟩ := I.list hq
    have hlen := r'.length
    exact Calls.call_len_list pl.isList (by simp only [List.size_toArray] <;> omega) ⟨.int ys.length, H, I.tok _, ⟨s.toks + 1, by rw [List.size_toArray, hlen]⟩, q⟩
  · obtain ⟨its, r', pl, hz⟩ := I.tuple hq
    have hlen := r'.length
    exact len_tuple pl (by simp only [List.size_toArray] <;> omega) ⟨.int ys.length, H, I.tok _, ⟨s.toks + 1, by rw [List.size_toArray, hlen]⟩, q⟩
theorem call_list_of : CallR X (.type "list") (fun xs H Q => ∃ p ys, xs = [.ref p] ∧ (SqL X.K H p ys ∨ SqT X.K H p ys) ∧ ∀ l, H l = none → Q (.ref l) (upd H l (.lst ys))) := by
  intro pins s σ H xs us Q I r h
  obtain ⟨p, ys, rfl, hq, q⟩ := h
  obtain ⟨u, rfl, rx⟩ := vals1 r
  cases rx
  have fin : ∀ (its : List Value), Vals ys its → ys.length ≤ sizeLine → ∀ (h' : Heap) (c' : Nat), (∀ b o', s.heap.get? b = some o' → h'.get? b = some o') →
      h'.get? s.heap.objs.size = some { cls := .type "list", dict := none, data := .seq its.toArray c', slots := #[] } → EP X pins σ Q (.ref s.heap.objs.size) { s with heap := h' } := fun its r' hz h' c' kp e =>
    ⟨.ref s.heap.objs.size, _, I.laid (t' := s.toks) kp (Nat.le_refl _) (show ObjOk X.prog X.w _ h' _ (.lst ys) from ⟨hz, its, c', r', e⟩), rfl, q _ (I.hok.fresh (Nat.le_refl _))⟩
  rcases hq with hq | hq
  · obtain ⟨its, r', pl, hz⟩ := I.list hq
    have hlen := r'.length
    obtain ⟨o, ho, hc, n, hd⟩ := pl.isList
    exact call_list_seq p (.inl rfl) ho hc hd (fun h' c' kp e => fin its r' hz h' c' kp e) (by simp only [List.size_toArray] <;> omega)
  · obtain ⟨its, r', pl, hz⟩ := I.tuple hq
    have hlen := r'.length
    obtain ⟨o, ho, hc, n, hd⟩ := pl
    exact call_list_seq p (.inr rfl) ho hc hd (fun h' c' kp e => fin its r' hz h' c' kp e) (by simp only [List.size_toArray] <;> omega)
/-! ### the call of a builtin's method: o.m(..) -/
/-- the value is of that builtin type -/
def tyV (K : PySem.W.Frag) (T : String) (x : V) (H : Hp) : Prop := match x with
  | .str _ => T = "str"
  | .int _ => T = "int"
  | .ref p => (T = "list" ∧ ∃ xs, SqL K H p xs) ∨ (T = "tuple" ∧ ∃ o, K.lookup p = some o ∧ o.cls = .type "tuple" ∧ o.dict = none) ∨
      (T = "dict" ∧ ((∃ kvs, H p = some (.dK kvs)) ∨ ∃ kvs, H p = some (.dT kvs))) ∨ (T = "set" ∧ ∃ S n, H p = some (.set S n))
  | _ => False
theorem tyV_is {pins : List (Addr × Obj)} {σ : St} {H : Hp} {s : Shared} {T : String} {x : V} {v : Value} (I : Inv X pins σ H s) (r : RelV x v) (ty : tyV X.K T x H) :
    s.TypeIs v T ∧ ∀ a, v = .ref a → ∃ ob, s.heap.get? a = some ob ∧ ob.dict = none := by
  cases x with
  | str z =>
    obtain ⟨t, rfl⟩ := r
    cases (show T = "str" from ty)
    exact ⟨typeIs_str s z t, fun _ e => nomatch e⟩
  | int i =>
    obtain ⟨t, rfl⟩ := r
    cases (show T = "int" from ty)
    exact ⟨typeIs_int s i t, fun _ e => nomatch e⟩
  | ref p =>
    cases r
    rcases ty with ⟨rfl, xs, hq⟩ | ⟨rfl, o, hk, hc, hd⟩ | ⟨rfl, hk⟩ | ⟨rfl, S, n, hk⟩
    · obtain ⟨its, _, pl, _⟩ := I.list hq
      refine ⟨pl.isList.typeIs, fun a e => ?_⟩
      cases e
      obtain ⟨o, n, e, c, hd, _⟩ := pl
      exact ⟨o, e, hd⟩
    · refine ⟨⟨o, I.kIn p o hk, hc⟩, fun a e => ?_⟩
      cases e
      exact ⟨o, I.kIn _ o hk, hd⟩
    · have z : ∃ o, s.heap.get? p = some o ∧ o.ExactDict := by
        rcases hk with ⟨kvs, hk⟩ | ⟨kvs, hk⟩
        · obtain ⟨_, _, _, _, o, _, _, e, ex, _⟩ := I.hok p _ hk
          exact ⟨o, e, ex⟩
        · obtain ⟨_, _, _, _, o, _, _, e, ex, _⟩ := I.hok p _ hk
          exact ⟨o, e, ex⟩
      obtain ⟨o, e, ex⟩ := z
      refine ⟨⟨o, e, ex.1⟩, fun a e2 => ?_⟩
      cases e2
      exact ⟨o, e, ex.2.1⟩
    · obtain ⟨o, _, _, _, e, ex, _⟩ := I.hok p _ hk
      refine ⟨⟨o, e, ex.1⟩, fun a e2 => ?_⟩
      cases e2
      exact ⟨o, e, ex.2.1⟩
  | _ => exact False.elim ty
def tBM0 (K : PySem.W.Frag) (T : String) (r : V → List V → Hp → VK → Prop) (to : TE) : TE := fun σ H Q => to σ H fun x H1 => tyV K T x H1 ∧ r x [] H1 Q
def tBM (K : PySem.W.Frag) (T : String) (r : V → List V → Hp → VK → Prop) (to : TE) (t : TA) : TE := fun σ H Q => to σ H fun x H1 => tyV K T x H1 ∧ t σ H1 fun xs H2 => r x xs H2 Q
variable {o e : Expr} {es : List Expr} {to : TE} {t : TA} {name : Str} {apos cpos : Pos} {T id : String} {r : V → List V → Hp → VK → Prop}
theorem pe_bm0 (pa : PlainAttrs T) (slot : Slot T name id) (hty : typeOf (.builtin id) = pure (.type "method_descriptor")) (hm : MtR X id r) (ho : PE X o to)
    (hbase : attributeBase o name X.env (eval o X.env) = eval o X.env := by rfl) (hline : (apos.endLine == cpos.line) = true := by rfl) : PE X (.Call (.Attribute o name apos) [] [] cpos) (tBM0 X.K T r to) := by
  intro pins s σ H Q I h
  refine wpAny_Call_method0_late hbase hline (thn (ho pins s σ H _ I h) fun v s1 ⟨x, H1, I1, r1, ty, q1⟩ => ?_)
  obtain ⟨h1, h2⟩ := tyV_is I1 r1 ty
  exact ⟨T, id, pa, slot, hty, h1, h2, Calls.callWith_builtin rfl (PySem.evalArgs_none (hm pins s1 σ H1 x [] v [] Q I1 r1 .nil q1))⟩
theorem pe_bm (pa : PlainAttrs T) (slot : Slot T name id) (hty : typeOf (.builtin id) = pure (.type "method_descriptor")) (hm : MtR X id r) (ho : PE X o to) (ha : PA X (e :: es) t)
    (hbase : attributeBase o name X.env (eval o X.env) = eval o X.env := by rfl)
    (hfew : ((backTo cpos (starEach (e :: es) X.env)).all (fun x => !x.1) && (backToKw cpos (keywordEach [] X.env)).all (fun x => x.1.isSome)
      && decide ((e :: es).length + ([] : List Keyword).length + (if ([] : List Keyword).isEmpty then 0 else 1) < 30)) = true := by rfl)
    (hline : (apos.endLine == cpos.line) = true := by rfl) (hs : starEach (e :: es) X.env = (false, eval e X.env) :: starEach es X.env := by rfl) (hplain : (backTo cpos (starEach es X.env)).any (·.1) = false := by rfl) :
    PE X (.Call (.Attribute o name apos) (e :: es) [] cpos) (tBM X.K T r to t) := by
  intro pins s σ H Q I h
  refine wpAny_Call_method_late hbase hfew hline rfl (thn (ho pins s σ H _ I h) fun v s1 ⟨x, H1, I1, r1, ty, q1⟩ => ?_)
  obtain ⟨h1, h2⟩ := tyV_is I1 r1 ty
  refine ⟨T, id, pa, slot, hty, h1, h2, ?_⟩
  have hA := ha cpos pins s1 σ H1 _ I1 q1
  rw [hs] at hA ⊢
  refine Calls.callWith_builtin (by show (false || (backTo cpos (starEach es X.env)).any (·.1)) = false; rw [hplain] <;> rfl) (Calls.evalArgs_plain ?_)
  exact thn hA fun us s2 ⟨vs, H2, I2, r2, q2⟩ => hm pins s2 σ H2 x vs v us Q I2 r1 r2 q2
/- xs.append(e), list.index on a module's tuple .. are MtR facts of 06m -/
end
end L2

namespace L2
open PySem PySem.Spec PyProof.Rows

def MtM (X : Cx) (id : String) (r : V → List V → Hp → VK → Prop) : Prop :=
  ∀ (pins : List (Addr × Obj)) (s : Shared) (σ : St) (H : Hp) (x : V) (xs : List V) (v : Value) (us : List Value) (Q : VK), Inv X pins σ H s → RelV x v → Vals xs us → r x xs H Q →
    wpAny (model X.prog X.w) X.A (call (.builtin id) (v :: us)) (EP X pins σ Q) X.xe s

/-! ### lists of values -/
theorem Vals.one : ∀ {x : V} {us : List Value}, Vals [x] us → ∃ u, us = [u] ∧ RelV x u
  | _, _, .cons r .nil => ⟨_, rfl, r⟩
theorem Vals.two : ∀ {x y : V} {us : List Value}, Vals [x, y] us → ∃ u v, us = [u, v] ∧ RelV x u ∧ RelV y v
  | _, _, _, .cons r (.cons q .nil) => ⟨_, _, rfl, r, q⟩
theorem Vals.zero : ∀ {us : List Value}, Vals [] us → us = []
  | _, .nil => rfl
section
variable {X : Cx} {pins : List (Addr × Obj)} {σ : St} {H : Hp} {s : Shared} {l b : Addr} {xs ys zs : List V}

/-! ### the two steps: a tracked list is rewritten, a new list is laid -/
theorem Inv.lset {its its' : List Value} {n : Nat} {f : Array Value → Array Value} {t' : Nat} (I : Inv X pins σ H s) (hH : H l = some (.lst xs))
    (e : s.heap.get? l = some { cls := .type "list", data := .seq its.toArray n }) (hf : f its.toArray = its'.toArray) (hv : Vals ys its') (hz : ys.length ≤ sizeLine) :
    Inv X pins σ (upd H l (.lst ys)) { s with heap := s.heap.update l (Obj.mapSeq f), toks := t' } := by
  have q := PySem.IsL.update e f
  rw [hf] at q
  refine I.write (x := l) (e := l) (by rw [hH]; exact trivial) (.inl rfl) (fun b' u hb hu => (Heap.get?_update_other s.heap (Obj.mapSeq f) (Ne.symm hb)).trans hu) ⟨_, q⟩ ?_
  exact ⟨hz, its', _, hv, q⟩
theorem Inv.lnew {its : List Value} {t' : Nat} (I : Inv X pins σ H s) (hv : Vals ys its) (hz : ys.length ≤ sizeLine) :
    Inv X pins σ (upd H s.heap.objs.size (.lst ys)) { s with heap := s.heap.push { cls := .type "list", data := .seq its.toArray }, toks := t' } :=
  I.laid (fun _ _ q => Heap.get?_push_of_some _ q) (Nat.le_refl _) ⟨hz, its, 0, hv, Heap.get?_push_size _ rfl⟩
theorem Inv.fresh (I : Inv X pins σ H s) : H s.heap.objs.size = none := I.hok.fresh (Nat.le_refl _)
theorem Inv.lstM (I : Inv X pins σ H s) (hH : H l = some (.lst xs)) : xs.length ≤ sizeLine ∧ ∃ (its : List Value) (n : Nat), Vals xs its ∧ xs.length = its.length ∧ s.heap.get? l = some { cls := .type "list", data := .seq its.toArray n } := by
  obtain ⟨z, its, n, r, e⟩ := I.hok l _ hH
  exact ⟨z, its, n, r, r.length, e⟩

end

section
variable {X : Cx}

/-! ### methods -/
def rAppend : V → List V → Hp → VK → Prop := fun x vs H Q => ∃ l xs y, x = .ref l ∧ vs = [y] ∧ H l = some (.lst xs) ∧ xs.length < sizeLine ∧ Q .non (upd H l (.lst (xs ++ [y])))
theorem mt_append : MtM X "list.append" rAppend := by
  intro pins s σ H x vs v us Q I rx rv h
  obtain ⟨l, xs, y, rfl, rfl, hH, hz, q⟩ := h
  cases rx
  obtain ⟨u, rfl, ru⟩ := rv.one
  obtain ⟨z, its, n, r, hl, e⟩ := I.lstM hH
  refine call_meets F.slot_list_append ⟨_, e, rfl⟩ F.entry_list_append (F.args_list_append_2 _ _) (PySem.list_append l its.toArray n u (by rw [List.size_toArray]; omega)) ⟨e, ?_⟩
  refine ⟨.non, _, I.lset (its' := its ++ [u]) hH e (by simp) (r.append (.cons ru .nil)) ?_, rfl, q⟩
  rw [List.length_append, List.length_singleton]
  omega

def rExtend : V → List V → Hp → VK → Prop := fun x vs H Q => ∃ l b xs zs, x = .ref l ∧ vs = [.ref b] ∧ H l = some (.lst xs) ∧ H b = some (.lst zs) ∧ xs.length + zs.length ≤ sizeLine ∧ Q .non (upd H l (.lst (xs ++ zs)))
def rPop : V → List V → Hp → VK → Prop := fun x vs H Q => ∃ l xs y, x = .ref l ∧ vs = [] ∧ H l = some (.lst xs) ∧ xs[xs.length - 1]? = some y ∧ Q y (upd H l (.lst xs.dropLast))
def rPopAt : V → List V → Hp → VK → Prop := fun x vs H Q => ∃ l xs i k y, x = .ref l ∧ vs = [.int i] ∧ H l = some (.lst xs) ∧ -(2 ^ 63) ≤ i ∧ i < 2 ^ 63 ∧ seqIndex? i xs.length = some k ∧ xs[k]? = some y ∧ Q y (upd H l (.lst (xs.eraseIdx k)))
def rReverse : V → List V → Hp → VK → Prop := fun x vs H Q => ∃ l xs, x = .ref l ∧ vs = [] ∧ H l = some (.lst xs) ∧ Q .non (upd H l (.lst xs.reverse))
def rClear : V → List V → Hp → VK → Prop := fun x vs H Q => ∃ l xs, x = .ref l ∧ vs = [] ∧ H l = some (.lst xs) ∧ Q .non (upd H l (.lst []))
theorem mt_clear : MtM X "list.clear" rClear := by
  intro pins s σ H x vs v us Q I rx rv h
  obtain ⟨l, xs, rfl, rfl, hH, q⟩ := h
  cases rx
  have hus := rv.zero
  subst hus
  obtain ⟨z, its, n, r, hl, e⟩ := I.lstM hH
  refine call_meets F.slot_list_clear ⟨_, e, rfl⟩ F.entry_list_clear (F.args_list_clear_1 _) (AutoSeq1.list_clear_list_0 l its.toArray n (by rw [List.size_toArray]; omega)) ⟨e, ?_⟩
  exact ⟨.non, _, I.lset (its' := []) (ys := []) hH e rfl .nil (Nat.zero_le _), rfl, q⟩

/-! ### list + list, list += list, list * int -/
def rCat : R2 := fun x y H Q => ∃ l b xs zs, x = .ref l ∧ y = .ref b ∧ H l = some (.lst xs) ∧ H b = some (.lst zs) ∧ xs.length + zs.length ≤ sizeLine ∧ ∀ p, H p = none → Q (.ref p) (upd H p (.lst (xs ++ zs)))
theorem op_cat : OpR X (binaryOp .Add) rCat := by
  intro pins s σ H x y v u Q I rx ry h
  obtain ⟨l, b, xs, zs, rfl, rfl, hH, hB, hz, q⟩ := h
  cases rx
  cases ry
  obtain ⟨z, its, n, r, hl, e⟩ := I.lstM hH
  obtain ⟨z2, its2, n2, r2, hl2, e2⟩ := I.lstM hB
  refine PySem.P.add_list e e2 ?_ (by rw [List.size_toArray, List.size_toArray]; omega)
  have ea : its.toArray ++ its2.toArray = (its ++ its2).toArray := by simp
  rw [ea]
  exact ⟨.ref _, _, I.lnew (t' := s.toks) (r.append r2) (by rw [List.length_append]; omega), rfl, q _ I.fresh⟩
/-- a list times an int (a negative one is nothing) -/
def rRep : R2 := fun x y H Q => ∃ l k xs, x = .ref l ∧ y = .int k ∧ H l = some (.lst xs) ∧ -(2 ^ 63) ≤ k ∧ k < 2 ^ 63 ∧ xs.length * k.toNat ≤ sizeLine ∧
  ∀ p, H p = none → Q (.ref p) (upd H p (.lst (List.replicate k.toNat xs).flatten))
/-! ### del xs[i] -/
end

/-! ### xs[a:b] = ys -/
section
variable {prog : Program} {w : World} {A : Around} {E : Value → Shared → Prop} {s : Shared}
end

section
variable {X : Cx}
end
end L2

namespace Att
open PySem PySem.W PySem.Calls PyProof.Rows

/-! ### the script -/
theorem ints_of_wellAll {P : Params} {h : Heap} : ∀ (ns : List Int) (vs : List Value), WellAll P h vs (ns.map WData.int) → IntsAre vs ns := by
  intro ns
  induction ns with
  | nil =>
    intro vs w
    rw [List.map_nil] at w
    cases w
    exact .nil
  | cons n ns ih =>
    intro vs w
    rw [List.map_cons] at w
    cases w with
    | cons a b =>
      cases a
      exact .cons _ _ (ih _ b)

theorem script_of {l : OpenLaw} {n : Nat} (hn : l.most = some n) {P : Params} {h : Heap} {args : List WData} {vals : List Value}
    (hpre : l.row.toRowW.claim.pre args = true) (hwl : WellAll P h vals args) :
    ∃ a vs ns, vals = [Value.ref a] ∧ args = [WData.list (ns.map WData.int)] ∧ h.get? a = some { cls := .type "list", data := .seq vs.toArray } ∧ IntsAre vs ns ∧ ns.length ≤ n := by
  have hsh : WShape.hasAll [] args [.list .int] = true := (pre_splitW hpre).1
  have hc : l.pre.holds [] { args := args } = true := (pre_splitW hpre).2
  obtain ⟨d, r, rfl, h1, h2⟩ := hasAllW_cons hsh
  obtain rfl := hasAllW_nil h2
  obtain ⟨xs, rfl, h3⟩ := hasW_list h1
  obtain ⟨ns, rfl⟩ := items_int h3
  have hlen : ns.length ≤ n := by
    unfold OpenLaw.pre at hc
    have h4 : (WTm.not (.lt (.lit (.int (n : Int))) (.len (.arg 0)))).holds [] { args := [.list (ns.map .int)] } = true := by
      have h4 := (holds_andW hc).1
      rw [hn] at h4
      exact h4
    have h5 := condW_of h4 (w_not (w_lt w_lit (w_len_list (w_arg rfl))))
    rw [List.length_map] at h5
    refine Nat.le_of_not_lt fun q => ?_
    have q' : (n : Int) < ((ns.length : Nat) : Int) := by omega
    first
      | (rw [decide_eq_true q'] at h5; exact absurd h5 (by decide))
      | (simp at h5; omega)
  cases hwl with
  | cons w1 w2 =>
    cases w2
    cases w1 with
    | list ho hall => exact ⟨_, _, ns, rfl, rfl, ho, ints_of_wellAll ns _ hall, hlen⟩

theorem post_true (l : OpenLaw) (args : List WData) : l.row.toRowW.claim.post args (.bool true) args = true :=
  postW_of (r := l.row.toRowW) (X := (true == true))
    (show WShape.has [] (.bool true) .bool = true by first | rfl | decide | simp [WShape.has, WShape.arms, WShape.armsAll])
    (show (WTm.eq .res (.lit (.bool true))).value [] { args := args, res := some (.bool true), after := args } = some (.bool (true == true)) from w_eq_bool (w_res rfl) w_lit) rfl

/-! ### the attachment: holds_open's last premise (the goal 'hc' behind k_head) from a wpAny of the law's body -/
/-- the same from a codeAny of the CALL (for a layer whose function contracts speak of calls) -/
theorem attach_call {l : OpenLaw} {n : Nat} {q : Program} {loose : List Str} {XP : (Str → Option Value) → Heap → Prop} {YP : World → Heap → Prop} {d : DefRec}
    (hn : l.most = some n) (hdf : d.params.defaults = [])
    (call : ∀ (w : World) (s₀ s₁ : Shared) (mg mb : Str → Option Value) (fa : Addr) (o : Obj) (pm cd doc : Value) (a : Addr) (vs : List Value) (ns : List Int),
      Ground q loose [] XP w s₀ mg mb s₁.heap → YP w s₁.heap →
      s₁.heap.get? fa = some o → o.data = .func (docDef d.name d.params d.body d.scope pm cd doc) → s₁.heap.CodeRec cd d.name → mg d.name = some (.ref fa) →
      s₁.heap.get? a = some { cls := .type "list", data := .seq vs.toArray } → IntsAre vs ns → ns.length ≤ n → s₁.gens = #[] →
      codeAny (model l.prog w) callerA (.call (.ref fa) ⟨[.ref a], []⟩) (fun r s' => r = .ok (.ret (.bool true)) ∧ OldK s₁.heap s'.heap ∧ s'.os = s₁.os ∧ AllBare s'.gens) s₁) :
    WalkO q loose XP YP l.row.toRowW d [] (fun f vs => PySem.call f vs) := by
  intro w s₀ s₁ mg mb G Y fa o pm cd doc dV kV ho hd hcd hD hmg hg args vals as hpre hlay hrd hwl hlo
  obtain rfl : dV = .none := Dflts.none hD hdf
  obtain rfl : kV = .none := Dflts.noKw hD
  obtain ⟨a, vs, ns, rfl, rfl, hobj, hints, hlen⟩ := script_of hn hpre hwl
  refine enter_call (codeAny_mono (call w s₀ s₁ mg mb fa o pm cd doc a vs ns G Y ho (fd_plain hd) hcd hmg hobj hints hlen hg) fun r s' hq => ?_)
  obtain ⟨rfl, h2, h3, h4⟩ := hq
  exact ⟨.inl ⟨.bool true, .bool true, [], rfl, fun _ => rfl, .bool true, post_true l _, fun _ => ⟨List.Pairwise.nil, fun _ hm => (nomatch hm)⟩⟩, h2, h3, h4⟩

/-! ### rules over ANY heap (no ledger) from facts about the written part K: the library's own take a ledger (News) for what they write -/
section
variable {prog : Program} {w : World} {A : Around} {E : Value → Shared → Prop} {s : Shared} {K : Frag}

/-! the whole heap as the ledger: makes every rule that writes through a ledger a rule over any heap -/
def noObjs (h : Heap) : Heap := { h with objs := #[] }
def ledger (h : Heap) (L d : Addr) : List (Addr × Obj) := (List.range h.objs.size).filterMap fun a => if a = L ∨ a = d then none else (h.get? a).map fun o => (a, o)
end
end Att

namespace L2
open PySem PySem.Spec PyProof.Rows

theorem vals_ints : ∀ {vs : List Value} {ns : List Int}, IntsAre vs ns → Vals (ns.map V.int) vs
  | _, _, .nil => .nil
  | _, _, .cons n t h => .cons ⟨t, rfl⟩ (vals_ints h)

/-- nothing is tracked but the script, known to the object (or it is an object of the module) -/
def Only (H : Hp) : Prop := ∀ b, H b = none ∨ ∃ o xs, H b = some (.frz o (.lst xs))

/-- THE HEAD: the law's promise, at the heap behind the top. F, the promise of the law's def, may use that base is part of the heap (so K.In base, base.Ns mainGlobals mg stand in Mod) -/
theorem law_call {P : Program} {w : World} {K : PySem.W.Frag} {mg mb : Str → Option Value} {CX : CXT} {k : Nat} {fa a : Addr} {fd : FuncData} {x : Str} {sp : Sp} {s₁ : Shared} {vs : List Value} {ns : List Int}
    (KX : K.In s₁.heap) (hns : s₁.heap.Ns mainGlobals mg) (hb : s₁.heap.Ns builtinsNs mb) (hbb : ∀ x : Str, x ≠ "__name__" → mb x = bootBuiltins x) (hlim : s₁.heap.NoLimit) (hg : s₁.gens = #[])
    (ha : s₁.heap.get? a = some { cls := .type "list", data := .seq vs.toArray }) (hi : IntsAre vs ns) (hl : ns.length ≤ sizeLine) (hr : Room k callerA)
    (F : ∀ base : Heap, K.In base → base.Ns mainGlobals mg → FnOk P w K mg base CX k fa fd [x] sp) (hbind : ∀ (s : Shared) (u : Value), BindsTo s fd ⟨[u], []⟩ [(x, u)])
    (hsp : ∀ H : Hp, Only H → SqL K H a (ns.map V.int) → sp [.ref a] H (fun v _ => v = .bl true) fun _ _ _ => False)
    (hCX : ∀ H e s', CX [] H s₁ (fun _ _ _ => False) e s' → False) :
    codeAny (model P w) callerA (.call (.ref fa) ⟨[.ref a], []⟩) (fun r s' => r = .ok (.ret (.bool true)) ∧ OldK s₁.heap s'.heap ∧ s'.os = s₁.os ∧ AllBare s'.gens) s₁ := by
  have rv := vals_ints hi
  have lenV := hi.length
  -- from an abstract heap in which nothing but the script may be tracked
  have core : ∀ H : Hp, Only H → SqL K H a (ns.map V.int) → HOk P w H s₁.heap → (∀ b, H b ≠ none → b = a) → (H a ≠ none → K.lookup a = none) →
      codeAny (model P w) callerA (.call (.ref fa) ⟨[.ref a], []⟩) (fun r s' => r = .ok (.ret (.bool true)) ∧ OldK s₁.heap s'.heap ∧ s'.os = s₁.os ∧ AllBare s'.gens) s₁ := by
    intro H hO hS hok hA hK
    have base_of : ∀ {b : Addr} {o : Obj}, s₁.heap.get? b = some o → H b = none → (hidT s₁.heap H).get? b = some o := fun e n => hidT_get e n
    have noA : ∀ {b : Addr} {o : Obj} {es : Array DictEntry} {ep : Nat}, s₁.heap.get? b = some o → o.data = .dict es ep → H b = none := fun {b o es ep} e d => by
      cases q : H b with
      | none => rfl
      | some u =>
        have e' : b = a := hA b (by rw [q]; simp)
        subst e'
        rw [ha] at e; cases e
        have d' : Data.seq vs.toArray _ = Data.dict es ep := d
        cases d'
    have nsK : ∀ {b : Addr} {m : Str → Option Value}, s₁.heap.Ns b m → (hidT s₁.heap H).Ns b m := fun {b m} ⟨o, es, ep, e, d, r⟩ => ⟨o, es, ep, base_of e (noA e d), d, r⟩
    have hKb : K.In (hidT s₁.heap H) := fun b o e => base_of (KX b o e) (by
      cases q : H b with
      | none => rfl
      | some u =>
        have e' : b = a := hA b (by rw [q]; simp)
        subst e'
        rw [hK (by rw [q]; simp)] at e; cases e)
    have hM : Mod K mg (hidT s₁.heap H) := ⟨hKb, nsK hns, ⟨mb, nsK hb, hbb⟩, let ⟨mc, h1, h2⟩ := hlim; ⟨mc, nsK h1, h2⟩⟩
    have e0 : Env0 P w K mg (hidT s₁.heap H) callerA [] s₁ H := ⟨rfl, hM, fun b o e => of_hidT e, Nat.le_of_eq (hidT_size _ _), trivial, fun b hb => absurd (show b ∈ ([] : List Addr) from hb) (by simp), hok, .of_eq hg⟩
    refine codeAny_mono ((F _ hKb (nsK hns)).run callerA [] s₁ H ⟨[.ref a], []⟩ [.ref a] [.ref a] _ _ hr e0 (hbind s₁ (.ref a)) (.cons rfl .nil) (hsp H hO hS)) fun r s' h => ?_
    cases r with
    | error e => exact (hCX H e s' h).elim
    | ok fl =>
      cases fl with
      | next => exact False.elim h
      | brk => exact False.elim h
      | cont => exact False.elim h
      | ret u =>
        obtain ⟨v, H', os, bare, un, hok', r', q⟩ := h
        have q' : v = .bl true := q
        subst q'
        obtain rfl : u = Value.bool true := r'
        refine ⟨rfl, OldK.of_keep fun b o e => ?_, os, bare⟩
        cases q : H b with
        | none => exact un.keep b o e q (by intro z; exact absurd (show b ∈ ([] : List Addr) from z) (by simp)) (by simp)
        | some u =>
          rcases hO b with z | ⟨ob, xs, z⟩
          · rw [q] at z; cases z
          · have z2 := un.frzs b ob _ z
            obtain ⟨e1, _⟩ := hok b _ z
            obtain ⟨e2, _⟩ := hok' b _ z2
            rw [e] at e1; cases e1
            exact e2
  cases hk : K.lookup a with
  | some o =>
    -- the script is one of the module's own objects
    have e := KX a o hk
    rw [ha] at e
    cases e
    refine core (fun _ => none) (fun _ => .inl rfl) (.inr ⟨_, vs.toArray, _, hk, rfl, rfl, rfl, by rw [List.size_toArray, lenV]; exact hl, by simpa using rv⟩) (fun b u z => by have z' : (none : Option HO) = some u := z; cases z') (fun b z => absurd rfl z) fun z => absurd rfl z
  | none =>
    refine core (fun b => if b = a then some (.frz { cls := .type "list", data := .seq vs.toArray } (.lst (ns.map V.int))) else none) (fun b => ?_) (.inl (.inr ⟨{ cls := .type "list", data := .seq vs.toArray }, if_pos rfl⟩)) (fun b u z => ?_) (fun b z => ?_) fun _ => hk
    · by_cases hb : b = a
      · exact .inr ⟨_, _, if_pos hb⟩
      · exact .inl (if_neg hb)
    · by_cases hb : b = a
      · have z' := (if_pos hb).symm.trans z
        cases z'
        subst hb
        exact ⟨ha, by rw [List.length_map]; exact hl, vs, _, rv, ha⟩
      · have z' := (if_neg hb).symm.trans z
        cases z'
    · by_cases hb : b = a
      · exact hb
      · exact absurd (if_neg hb) z
end L2

namespace L2
open PySem PySem.Spec PyProof.Rows

abbrev KOf {K : PySem.W.Frag} {h : Heap} (_ : K.In h) : PySem.W.Frag := K

/-- the goal that k_head leaves (case hc), from the law's promise. F gives the function object fd (K's own) once, then the promise over every base -/
theorem walk_of {l : PySem.W.OpenLaw} {n k : Nat} {q : Program} {loose : List Str} {XP : (Str → Option Value) → Heap → Prop} {YP : World → Heap → Prop} {d : DefRec} {K : Params → PySem.W.Frag} {CX : World → CXT} {sp : World → Sp} {x : Str}
    (hn : l.most = some n) (hn2 : n ≤ sizeLine) (hdf : d.params.defaults = []) (hr : Room k callerA)
    (hY : ∀ (w : World) (h : Heap), YP w h → (K w.params).In h)
    (F : ∀ (w : World) (mg : Str → Option Value) (fa : Addr) (h : Heap), (K w.params).In h → h.Ns mainGlobals mg → mg d.name = some (.ref fa) →
      ∃ fd : FuncData, (∀ (s : Shared) (u : Value), BindsTo s fd ⟨[u], []⟩ [(x, u)]) ∧
        ∀ base : Heap, (K w.params).In base → base.Ns mainGlobals mg → FnOk l.prog w (K w.params) mg base (CX w) k fa fd [x] (sp w))
    (hsp : ∀ (w : World) (H : Hp) (a : Addr) (ns : List Int), ns.length ≤ n → Only H → SqL (K w.params) H a (ns.map V.int) → sp w [.ref a] H (fun v _ => v = .bl true) fun _ _ _ => False)
    (hCX : ∀ (w : World) (H : Hp) (s : Shared) (e : Value) (s' : Shared), CX w [] H s (fun _ _ _ => False) e s' → False) :
    PySem.W.WalkO q loose XP YP l.row.toRowW d [] (fun f vs => PySem.call f vs) := by
  refine Att.attach_call hn hdf fun w s₀ s₁ mg mb fa o pm cd doc a vs ns G Y ho hd hcd hmg hobj hints hlen hg => ?_
  have KX := hY w _ Y
  obtain ⟨fd, hb, hF⟩ := F w mg fa _ KX G.T.g hmg
  exact law_call KX G.T.g G.T.b G.T.builtins G.T.nolimit hg hobj hints (Nat.le_trans hlen hn2) hr hF hb (fun H hO hS => hsp w H a ns hlen hO hS) fun H e s' => hCX w H s₁ e s'
end L2

/- THE LAST THEOREM (shape; LID, My.* are yours):
   My.Adr: a structure of the addresses that your layer names (classes, functions); My.Txt K t: a structure (Prop) of the equations over K;
   My.txt_mk : {K} {implicit addresses ..} (e1 : nsIn K mainGlobals "law" = some (some (.ref f))) (e2 : K.lookup f = some ⟨oc, od, .func (fnOf "law" "law" params body scope dV kV doc pm an cdv ct), sl⟩) (e3 : codeIn K cdv "law" = true) .. : ∃ t, My.Txt K t

set_option maxRecDepth 100000 in
set_option maxHeartbeats 0 in
theorem PySem.Challenge.cw_LID_holds : PySem.Challenge.rw_LID.Holds := by
  w_on; o_law; k_head; (case hw => w_witness2)
  k_fill
  refine L2.walk_of (l := PySem.Challenge.rw_LID) (n := 63) (k := 40) (x := "script") (CX := fun w => ..) (sp := fun _ => My.sp_law) rfl (by decide) rfl ⟨rfl, by decide, by decide⟩ (fun w h Y => PySem.W.kIn_of Y) ?F ?S ?C
  case F =>
    intro w mg fa h KX G hmg
    have T : ∃ t, My.Txt (L2.KOf KX) t := by
      dsimp only [L2.KOf]                          -- K must stand as «<heap const> w.params» for k_is
      refine' My.txt_mk ?e1 ?e2 ?e3 ..
      (case e1 => PySem.W.k_is)                    -- in the order: a name -> its address -> its object -> its parts
      (case e2 => PySem.W.k_is)
      ..
    obtain ⟨t, T⟩ := T
    have e0 := hmg.symm.trans (PySem.W.mg_of KX G T.law)
    cases e0                                       -- fa is the law's own address
    exact ⟨_, fun s u => .of_eq rfl, fun base kb nb => My.law_fn T kb nb⟩     -- if «.of_eq rfl» comes too early: refine' ⟨_, ?b, fun base kb nb => My.law_fn T kb nb⟩; exact fun s u => .of_eq rfl
  case S => exact fun w H a ns hl hO hS => ..
  case C => exact ..
(the tactic k_is has no namespace: write k_is) -/

/-! SHORT WORDS over the layer: a def of the text, its body, what a loop and a test want. -/
namespace L2
open PySem PySem.Spec PyProof.Rows

/-! ### the text by places -/
/-- the j-th statement of a class's body -/
def inClass (s : Stmt) (j : Nat) : Stmt := match s with
  | .ClassDef _ _ _ body _ _ _ _ _ _ _ => body.getD j (.Pass ⟨0, 0, 0, 0⟩)
  | _ => .Pass ⟨0, 0, 0, 0⟩
def defArgs (s : Stmt) : Arguments := match s with
  | .FunctionDef _ a _ _ _ _ _ _ _ _ => a
  | _ => { posonlyargs := [], args := [], vararg := none, kwonlyargs := [], kw_defaults := [], kwarg := none, defaults := [] }
def defBody (s : Stmt) : List Stmt := match s with
  | .FunctionDef _ _ b _ _ _ _ _ _ _ => b
  | _ => []
def defScope (s : Stmt) : Scope := match s with
  | .FunctionDef _ _ _ _ _ _ sc _ _ _ => sc
  | _ => { kind := .function, names := [], isGenerator := false, isCoroutine := false }

/-! ### no exception leaves a def -/
abbrev CX0 : CXT := fun _ _ _ _ _ _ => False
abbrev E0 : XK := fun _ _ _ => False
theorem pass0 {X : Cx} : Passes CX0 X E0 := fun _ _ _ _ _ _ _ h => h.elim

/-! ### a def (or method) of the text as it stands behind the top -/
structure Fun (K : PySem.W.Frag) (x qual : Str) (st : Stmt) (f : Addr) (fd : FuncData) : Prop where
  ex : ∃ (oc : Value) (od : Option Addr) (kV doc pm : Value) (an : Option Addr) (cdv ct : Value) (osl : Array (Option Value)),
    fd = PySem.W.fnOf x qual (defArgs st) (defBody st) (defScope st) .none kV doc pm an cdv ct ∧ K.lookup f = some ⟨oc, od, .func fd, osl⟩ ∧ PySem.W.codeIn K cdv qual = true
  kp : PySem.W.keepIn K (.ref f) = true
section
variable {P : Program} {w : World} {K : PySem.W.Frag} {mg : Str → Option Value} {base : Heap}
/-- THE RULE for a def: its body as a term of rules, and the reading of that term -/
theorem Fun.ok {x qual : Str} {st : Stmt} {f : Addr} {fd : FuncData} {N ps : List Str} {k : Nat} {sp : Sp} (F : Fun K x qual st f fd) (S : FnScope N ps (defScope st)) (len : ∀ vs H Q E, sp vs H Q E → vs.length = ps.length)
    (hbody : ∀ (cdv : Value) (A : Around) (outer : List Env) (s : Shared) (H : Hp) (vs : List V) (Q : VK) (E : XK), Room k (A.deeper (envOfC qual (defScope st) s.heap.objs.size f cdv)) → sp vs H Q E →
      ∃ t, PSs (cxOf CX0 P w K mg base N qual (defScope st) f cdv A outer s H E).nox (defBody st) t ∧ t { nx := fun _ H' => Q .non H', rt := Q } (start N vs) H) : FnOk P w K mg base CX0 (k + 1) f fd ps sp := by
  obtain ⟨oc, od, kV, doc, pm, an, cdv, ct, osl, rfl, lk, hcd⟩ := F.ex
  refine fn_of lk hcd S len fun A outer s H vs Q E hr hsp => ?_
  obtain ⟨t, h, q⟩ := hbody cdv A outer s H vs Q E hr hsp
  exact ⟨t, h.nox, q⟩
/-- how its arguments bind (no defaults): h is «fun _ _ _ _ _ _ us hl => match us, hl with | [_, _], _ => rfl», one _ a parameter -/
theorem Fun.binds {x qual : Str} {st : Stmt} {f : Addr} {fd : FuncData} {ps : List Str} (F : Fun K x qual st f fd)
    (h : ∀ (kV doc pm : Value) (an : Option Addr) (cdv ct : Value) (us : List Value), us.length = ps.length → bindArgs (PySem.W.fnOf x qual (defArgs st) (defBody st) (defScope st) .none kV doc pm an cdv ct) ⟨us, []⟩ = pure (ps.zip us)) : Binds K fd ps [] := by
  obtain ⟨oc, od, kV, doc, pm, an, cdv, ct, osl, rfl, lk, hcd⟩ := F.ex
  exact .all (h kV doc pm an cdv ct)
theorem fun_mk {x qual : Str} {st : Stmt} {f : Addr} {oc : Value} {od an : Option Addr} {osl : Array (Option Value)} {kV doc pm cdv ct : Value} (l : K.lookup f = some ⟨oc, od, .func (PySem.W.fnOf x qual (defArgs st) (defBody st) (defScope st) .none kV doc pm an cdv ct), osl⟩)
    (c : PySem.W.codeIn K cdv qual = true) (k : PySem.W.keepIn K (.ref f) = true) : Fun K x qual st f (PySem.W.fnOf x qual (defArgs st) (defBody st) (defScope st) .none kV doc pm an cdv ct) := ⟨⟨oc, od, kV, doc, pm, an, cdv, ct, osl, rfl, l, c⟩, k⟩
end
/-! ### expressions in short: the name that stands in the i-th slot -/
section
variable {X : Cx}
theorem pv (i : Nat) {x : Str} {pos : Pos} (hN : X.N[i]? = some x := by rfl) (hv : Vis X.env.scope x := by first | exact Or.inl rfl | exact Or.inr (Or.inl rfl) | exact Or.inr (Or.inr rfl)) (hd : (x == ("__debug__" : Str)) = false := by decide)
    (hcd : (x == ("__classdict__" : Str)) = false := by decide) : PE X (.Name x pos) (tVar i) := pe_var hN hv hd hcd
end

/-! ### tests -/
theorem iteF {A B : Prop} (h : B) : if false = true then A else B := by
  rw [if_neg Bool.false_ne_true]
  exact h
theorem iteT {A B : Prop} (h : A) : if true = true then A else B := by
  rw [if_pos rfl]
  exact h
theorem ite2 {c A B : Prop} [Decidable c] (h1 : c → A) (h2 : ¬ c → B) : if c then A else B := by
  by_cases h : c
  · rw [if_pos h]
    exact h1 h
  · rw [if_neg h]
    exact h2 h
/-! ### heaps -/
/-- all that was tracked is as it was -/
def Same (H H' : Hp) : Prop := ∀ b o, H b = some o → H' b = some o
theorem Same.refl (H : Hp) : Same H H := fun _ _ h => h
theorem Same.trans {H H1 H2 : Hp} (a : Same H H1) (b : Same H1 H2) : Same H H2 := fun c o h => b c o (a c o h)
theorem Same.free {H H' : Hp} (e : Same H H') {l : Addr} (h : H' l = Option.none) : H l = Option.none := by
  cases q : H l with
  | none => rfl
  | some o =>
    rw [e l o q] at h
    cases h
theorem Same.seq {K : PySem.W.Frag} {H H' : Hp} {a : Addr} {xs : List V} (e : Same H H') (h : SqL K H a xs) : SqL K H' a xs := by
  rcases h with (h | ⟨o, h⟩) | h
  · exact .inl (.inl (e _ _ h))
  · exact .inl (.inr ⟨o, e _ _ h⟩)
  · exact .inr h

end L2
namespace L2
open PySem PySem.Spec PyProof.Rows

/-! ### a list comprehension with one clause, as a block of its own -/
section
variable {prog : Program} {w : World} {A : Around} {R : Result → Shared → Prop} {s : Shared}
theorem compLoop_own {elt target iter : Expr} {ifs : List Expr} {scope : Scope} {pos : Pos} {it acc : Value} {env : Env} (I : Nat → Shared → Prop)
    (turn : ∀ n s, I n s → wpAny (model prog w) A (pyNext it) (fun r s1 => match r with
      | none => R (.ok .next) s1
      | some v => wpAny (model prog w) A (letOwnedTupleGo target it v) (fun _ s1' => wpAny (model prog w) A (assign target env v) (fun _ s2 =>
          wpAny (model prog w) A (forIn ifs true fun c r => if r = true then do let ok ← isTrue c env (eval c env); pure (ForInStep.yield ok) else pure (ForInStep.yield r)) (fun ok s3 =>
            if ok = true then wpAny (model prog w) A (eval elt env) (fun x s4 =>
              wpAny (model prog w) A (call (.builtin "list.append") [acc, x]) (fun _ s5 => ∃ m, m < n ∧ I m s5) (fun _ _ => False) s4) (fun _ _ => False) s3
            else ∃ m, m < n ∧ I m s3) (fun _ _ => False) s2) (fun _ _ => False) s1') (fun _ _ => False) s1) (fun _ _ => False) s)
    (n : Nat) (h : I n s) :
    codeAny (model prog w) A (.compLoop (.ListComp elt [⟨target, iter, ifs, 0⟩] scope pos) 0 it acc env) R s := by
  have ff : ∀ {E : Value → Shared → Prop}, ∀ (x : Value) (s : Shared), (fun (_ : Value) (_ : Shared) => False) x s → E x s := fun _ _ z => False.elim z
  refine codeAny_loop rfl I (fun n s hI => ?_) n h
  show wpAny _ A ((compTurn (.ListComp elt [⟨target, iter, ifs, 0⟩] scope pos) 0 it acc env).onRaise (fun x => do noteFrame x env; theTreesLotGoes x)) _ _ s
  refine wpAny_noted ?_
  rw [compTurn_list]
  refine wpAny_bind (wpAny_standAt (wpAny_bind (wpAny_mono (turn n s hI) (fun r s1 h1 => ?_) ff)))
  cases r with
  | none => exact wpAny_pure h1
  | some v =>
    refine wpAny_bind (wpAny_mono h1 (fun _ s1' h1' => ?_) ff)
    refine wpAny_bind (wpAny_mono h1' (fun _ s2 h2 => wpAny_bind (wpAny_mono h2 (fun ok s3 h3 => ?_) ff)) ff)
    cases ok with
    | false => exact wpAny_pure ⟨rfl, h3⟩
    | true =>
      exact wpAny_bind (wpAny_bind (wpAny_mono h3 (fun x s4 h4 => wpAny_bind (wpAny_mono h4 (fun _ s5 h5 => wpAny_pure (wpAny_pure ⟨rfl, h5⟩)) ff)) ff))
end

/-- the block's context: own names first, then the free ones; fp: the iterator's records -/
def Cx.comp (X : Cx) (scope : Scope) (cl : List (Str × Addr)) (N : List Str) (C : Addr) (s : Shared) (H : Hp) (fp : List Addr) : Cx :=
  { X with N := N, s₀ := s, H₀ := H, env := compEnvC scope cl C X.env, outer := X.stack, ex := fp, fn := fun _ => false, pn := [], xe := fun _ _ => False }

/-- the tests of a clause -/
def PIfs (X : Cx) (ifs : List Expr) (t : TT) : Prop :=
  ∀ (pins : List (Addr × Obj)) (s : Shared) (σ : St) (H : Hp) (Q : Bool → Hp → Prop), Inv X pins σ H s → t σ H Q →
    wpAny (model X.prog X.w) X.A (forIn ifs true fun c r => if r = true then do let ok ← isTrue c X.env (eval c X.env); pure (ForInStep.yield ok) else pure (ForInStep.yield r)) (TP X pins σ Q) X.xe s
def tYes : TT := fun _ H Q => Q true H
theorem pifs_nil {X : Cx} : PIfs X [] tYes := fun _ _ _ H _ I h => wpAny_tests_nil ⟨H, I, h⟩
theorem pifs_one {X : Cx} {c : Expr} {t : TT} (h : PT X c t) : PIfs X [c] t := fun pins s σ H Q I hw => wpAny_tests_one (h pins s σ H Q I hw)

/-- the free names: y stands at place j of the outer names -/
structure CompScope (X : Cx) (scope : Scope) (cl : List (Str × Addr)) (own : List Str) (fr : List (Str × Nat)) : Prop where
  clos : closureFor scope X.env = pure cl
  nocell : ∀ y ∈ scope.names, y.2 ≠ .cell
  kind : scope.kind = .function
  names : ∀ y ∈ scope.names, y.2 = .local → scope.names.lookup y.1 = some .local
  cls : ∀ y c, cl.lookup y = some c → X.env.cells.lookup y = some c
  has : ∀ y, ((relabel scope X.env).names.lookup y = some .cell ∨ (relabel scope X.env).names.lookup y = some .free) → ∃ c, cl.lookup y = some c
  free : ∀ p ∈ fr, X.N[p.2]? = some p.1 ∧ (X.env.kindOf p.1 = some .cell ∨ X.env.kindOf p.1 = some .free) ∧ ((relabel scope X.env).names.lookup p.1 = some .cell ∨ (relabel scope X.env).names.lookup p.1 = some .free)

/-- the block's names ahead of a turn -/
def compSt (own : List Str) (fr : List (Str × Nat)) (σ : St) : St := own.map (fun _ => none) ++ fr.map fun p => (σ[p.2]?).join

/-- what stood stands (the slots of the free names) -/
def keepSt : St → St → Prop
  | [], [] => True
  | none :: r, _ :: r' => keepSt r r'
  | some v :: r, some v' :: r' => v = v' ∧ keepSt r r'
  | _, _ => False
theorem keepSt_get : ∀ {a b : St}, keepSt a b → ∀ (i : Nat) (v : V), a[i]? = some (some v) → b[i]? = some (some v)
  | [], [], _, i, v, h => by simp at h
  | [], _ :: _, z, _, _, _ => z.elim
  | none :: r, [], z, _, _, _ => z.elim
  | some _ :: r, [], z, _, _, _ => z.elim
  | some _ :: r, none :: _, z, _, _, _ => z.elim
  | none :: r, _ :: r', z, 0, v, h => by simp at h
  | none :: r, _ :: r', z, i + 1, v, h => by
    have := keepSt_get (a := r) (b := r') z i v (by simpa using h)
    simpa using this
  | some x :: r, some x' :: r', z, 0, v, h => by
    obtain ⟨e, _⟩ := z
    subst e
    simpa using h
  | some x :: r, some x' :: r', z, i + 1, v, h => by
    have := keepSt_get (a := r) (b := r') z.2 i v (by simpa using h)
    simpa using this
/-- the reading: W by the turn, a measure, the items so far, the heap -/
def CompTurns (J : It) (D : Addr) (g : TG) (tc : TT) (te : TE) (σ0 : St) (W : Nat → Nat → List V → Hp → Prop) (R : Hp → Prop) : Prop :=
  ∀ i m ys H2, W i m ys H2 → (J.stop i H2 ∧ R H2) ∨ (J.go i H2 ∧ ∃ N : List V → Hp → Prop, (∀ ys' H', N ys' H' → ∃ m', m' < m ∧ W (i + 1) m' ys' H') ∧ ∀ x H3, J.yld i H2 x H3 → g x σ0 H3 fun σ4 H4 => keepSt σ0 σ4 ∧ tc σ4 H4 fun b H5 =>
    if b = true then te σ4 H5 fun y H6 => H6 D = some (.lst ys) ∧ ys.length < sizeLine ∧ N (ys ++ [y]) (upd H6 D (.lst (ys ++ [y])))
    else N ys H5)
def tComp (wi : TI) (g : TG) (tc : TT) (te : TE) (own : List Str) (fr : List (Str × Nat)) : TE := fun σ H Q => wi σ H fun J H1 => ∀ D, H1 D = none →
  ∃ W : Nat → Nat → List V → Hp → Prop, (∃ m, W 0 m [] (upd H1 D (.lst []))) ∧ CompTurns J D g tc te (compSt own fr σ) W fun H2 => Q (.ref D) H2

section
variable {X : Cx} {target iter elt : Expr} {ifs : List Expr} {scope : Scope} {cl : List (Str × Addr)} {own : List Str} {fr : List (Str × Nat)} {pos : Pos} {wi : TI} {g : TG} {tc : TT} {te : TE}

theorem Inv.sub_pins {pins pins' : List (Addr × Obj)} {σ : St} {H : Hp} {s : Shared} (I : Inv X pins σ H s) (h : ∀ p ∈ pins', p ∈ pins) : Inv X pins' σ H s := I.pins_of fun p hp => I.pin p (List.mem_append_right _ (h p hp))

theorem comp_ok {pins : List (Addr × Obj)} {σ : St} {H : Hp} {s : Shared} {C : Addr} {fp : List Addr} (S : CompScope X scope cl own fr) (I : Inv X pins σ H s) (hf : ∀ b ∈ fp, FpOk X pins H b) (hC : s.heap.objs.size ≤ C) (hfl : ∀ b ∈ fp, b < s.heap.objs.size) :
    (X.comp scope cl (own ++ fr.map (·.1)) C s H fp).Ok := by
  refine ⟨I.ok.mod, ?_, I.ok.glob, I.ok.blt, hC, fun x y c h1 h2 => I.ok.inj x y c (S.cls x c h1) (S.cls y c h2), S.has, fun x c z => absurd z (by simp [Cx.comp]), I.ok.hd, I.ok.frames, .inl rfl,
    fun b hb => ⟨Nat.ne_of_lt (Nat.lt_of_lt_of_le (hfl b hb) hC), fun x c h => (hf b hb).2.2.2.2.1 x c (S.cls x c h)⟩, I.bs, Nat.le_trans I.ok.bsz I.sz, fun b o e hb => ?_, fun b hb z => ?_, I.stack, I.stkFree⟩
  · show (relabel scope X.env).kind = .function
    exact S.kind
  · rcases (hf b hb).2.2.2.1 with z | z
    · exact I.ok.noex b o e z
    · exact absurd (Nat.lt_of_lt_of_le (Heap.lt_size e) (Nat.le_trans I.ok.bsz z)) (Nat.lt_irrefl _)
  · rcases List.mem_cons.mp (I.stkSub b z) with q | q
    · exact (hf b hb).2.1 q
    · exact (hf b hb).2.2.1 q

theorem compSt_len (own : List Str) (fr : List (Str × Nat)) (σ : St) : (compSt own fr σ).length = (own ++ fr.map (·.1)).length := by
  unfold compSt
  simp

/-- the block, from the iterator on -/
theorem comp_block {pins : List (Addr × Obj)} {σ : St} {H : Hp} {s : Shared} {it : Addr} {fp : List Addr} {tn : Nat → Heap → Prop} {J : It} {E : Value → Shared → Prop} {RR : Value → Addr → Result → Shared → Prop} {Rf : Addr → Hp → Prop}
    (hc : X.calm = true) (S : CompScope X scope cl own fr) (I : Inv X pins σ H s) (T : Turn X.prog X.w X.K target J fp it tn) (st : tn 0 s.heap) (hf : ∀ b ∈ fp, FpOk X pins H b)
    (hg : ∀ C s H fp, PG (X.comp scope cl (own ++ fr.map (·.1)) C s H fp) target g) (ht : ∀ C s H fp, PIfs (X.comp scope cl (own ++ fr.map (·.1)) C s H fp) ifs tc) (he : ∀ C s H fp, PE (X.comp scope cl (own ++ fr.map (·.1)) C s H fp) elt te)
    (hw : ∀ D, H D = none → ∃ W : Nat → Nat → List V → Hp → Prop, (∃ m, W 0 m [] (upd H D (.lst []))) ∧ CompTurns J D g tc te (compSt own fr σ) W (Rf D))
    (hRR : ∀ D C s' H', s.heap.objs.size ≤ C → C ≠ D → (∃ m, s'.heap.Ns C m) → H' C = none → Un (frs X.stack) fp H H' s.heap s'.heap → HOk X.prog X.w H' s'.heap → AllBare s'.gens → s'.os = s.os → Rf D H' → RR (.ref D) C (.ok .next) s') :
    wpAny (model X.prog X.w) X.A (newList []) (fun acc s3 => wpAny (model X.prog X.w) X.A (newFunctionEnv scope X.env.globals cl [] X.env.qual none .none (some X.env)) (fun cenv s4 =>
      codeAny (model X.prog X.w) X.A (.compStart (.ListComp elt [⟨target, iter, ifs, 0⟩] scope pos) 0 (.ref it) acc { cenv with scope := relabel scope X.env }) (RR acc cenv.locals) s4) E s3) E s := by
  have hfl : ∀ b ∈ fp, b < s.heap.objs.size := fun b hb => by
    obtain ⟨o, e, _⟩ := T.obj 0 s.heap st b hb
    exact Heap.lt_size e
  have hD : H s.heap.objs.size = none := I.fresh
  obtain ⟨W, ⟨m0, w0⟩, turns⟩ := hw s.heap.objs.size hD
  have I1 : Inv X pins σ (upd H s.heap.objs.size (.lst [])) { s with heap := s.heap.push { cls := .type "list", data := .seq ([] : List Value).toArray }, toks := s.toks } := I.lnew .nil (Nat.zero_le _)
  refine wpAny_newObj_type (wpAny_newFunctionEnv S.nocell (by intro y hy; simp at hy) (fun h1 hns1 hsb1 => ?_) S.kind)
  dsimp only at hns1 hsb1 ⊢
  generalize hH2 : s.heap.push { cls := .type "list", dict := none, data := .seq ([] : List Value).toArray } = H2 at hns1 hsb1 ⊢ I1
  have hCs : H2.objs.size = s.heap.objs.size + 1 := by rw [← hH2, Heap.size_push]
  have hCle : s.heap.objs.size ≤ H2.objs.size := by omega
  have hDC : s.heap.objs.size ≠ H2.objs.size := by omega
  have up1 : ∀ b o, H2.get? b = some o → h1.get? b = some o := fun b o e => hsb1.extBut b o (Nat.ne_of_lt (Heap.lt_size e)) (Heap.get?_push_of_some _ e)
  have up : ∀ b o, s.heap.get? b = some o → h1.get? b = some o := fun b o e => up1 b o (hH2 ▸ Heap.get?_push_of_some _ e)
  have okY := comp_ok (C := H2.objs.size) S I hf hCle hfl
  -- the block's invariant at the start
  have I0 : ∀ tk, Inv (X.comp scope cl (own ++ fr.map (·.1)) H2.objs.size s H fp) [] (compSt own fr σ) (upd H s.heap.objs.size (.lst [])) { s with heap := h1, toks := tk } := by
    intro tk
    have hok1 : HOk X.prog X.w (upd H s.heap.objs.size (.lst [])) h1 := I1.hok.kept up1
    refine ⟨okY, rfl, I.bare, ⟨fun b o e n _ _ => up b o e, fun b o e n _ _ => ⟨o.slots, up b o e⟩, fun b o e n _ => ?_, fun b o e _ => ⟨o, up b o e⟩, fun b xs q => ?_, fun b o u q => ?_, fun b ps q => ⟨#[], ?_⟩⟩,
      ⟨_, hns1, fun i x v e1 e2 e3 => ?_⟩, fun x c e => ?_, ?_, fun x c e => ?_, fun p hp => ?_, hok1, compSt_len own fr σ⟩
    · have e' : s.heap.get? b = some o := e
      show upd H s.heap.objs.size (.lst []) b = none
      rw [upd_ne (Nat.ne_of_lt (Heap.lt_size e'))]; exact n
    · rw [upd_ne (ne_of_none q hD)]; exact q
    · rw [upd_ne (ne_of_none q hD)]; exact q
    · have q' : H b = some (.tbl ps) := q
      rw [upd_ne (ne_of_none q' hD), q']; simp
    · -- the free names
      have e2' : (compSt own fr σ)[i]? = some (some v) := e2
      have e1' : (own ++ fr.map (·.1))[i]? = some x := e1
      unfold compSt at e2'
      by_cases hi : i < own.length
      · rw [List.getElem?_append_left (by simpa using hi), List.getElem?_map] at e2'
        cases q : own[i]? with
        | none => rw [q] at e2'; cases e2'
        | some y => rw [q] at e2'; cases e2'
      · rw [List.getElem?_append_right (by simpa using hi), List.length_map, List.getElem?_map] at e2'
        rw [List.getElem?_append_right (by omega), List.getElem?_map] at e1'
        cases q : fr[i - own.length]? with
        | none => rw [q] at e2'; cases e2'
        | some p =>
          rw [q] at e1' e2'
          have ex : p.1 = x := Option.some.inj e1'
          have ev : (σ[p.2]?).join = some v := Option.some.inj e2'
          have ev' : σ[p.2]? = some (some v) := by
            cases z : σ[p.2]? with
            | none => rw [z] at ev; cases ev
            | some o => rw [z] at ev; cases o with
              | none => cases ev
              | some v' => have : v' = v := Option.some.inj ev; rw [this]
          obtain ⟨f1, f2, f3⟩ := S.free p (List.mem_of_getElem? q)
          subst ex
          obtain ⟨m, hn, hl⟩ := I.loc
          have vis : Vis X.env.scope p.1 := by
            rcases f2 with f2 | f2
            · exact .inr (.inl f2)
            · exact .inr (.inr f2)
          obtain ⟨u, ru, lk⟩ := hl p.2 p.1 v f1 ev' vis
          refine ⟨u, ru, ?_⟩
          rcases lk with ⟨k, _⟩ | ⟨k, c, e, z⟩
          · rcases f2 with f2 | f2 <;> (rw [f2] at k; cases k)
          · obtain ⟨c', hc'⟩ := S.has p.1 f3
            have e' := S.cls _ _ hc'
            rw [e] at e'; cases e'
            obtain ⟨oc, ho, hd⟩ := z
            exact .inr ⟨f3, c, hc', ⟨oc, up _ _ ho, hd⟩⟩
    · obtain ⟨v, oc, ho, hd⟩ := I.cell x c (S.cls x c e)
      exact ⟨v, oc, up _ _ ho, hd⟩
    · show upd H s.heap.objs.size (.lst []) H2.objs.size = none
      rw [upd_ne (Ne.symm hDC)]
      exact I.hok.fresh hCle
    · obtain ⟨v, z⟩ := I.cell x c (S.cls x c e)
      show upd H s.heap.objs.size (.lst []) c = none
      rw [upd_ne (Nat.ne_of_lt z.lt)]
      exact I.freeC x c (S.cls x c e)
    · exact absurd (show p ∈ ([] : List (Addr × Obj)) from hp) (by simp)
  have fpf : ∀ b ∈ fp, upd H s.heap.objs.size (.lst []) b = none := fun b hb => by rw [upd_ne (Nat.ne_of_lt (hfl b hb))]; exact (hf b hb).1
  have st1 : tn 0 h1 := T.keep 0 _ _ st fun b hb o e => up b o e
  have stat : ∀ {H' : Hp}, (∀ b ∈ fp, H' b = none) → ∀ b ∈ fp, FpOk (X.comp scope cl (own ++ fr.map (·.1)) H2.objs.size s H fp) [] H' b := fun hn b hb =>
    ⟨hn b hb, (okY.exf b hb).1, okY.exfs b hb, .inl hb, (okY.exf b hb).2, fun p hp => absurd (show p ∈ ([] : List (Addr × Obj)) from hp) (by simp)⟩
  have loop : ∀ s3 : Shared, (∃ tk, s3 = { s with heap := h1, toks := tk }) →
      codeAny (model X.prog X.w) X.A (.compLoop (.ListComp elt [⟨target, iter, ifs, 0⟩] scope pos) 0 (.ref it) (.ref s.heap.objs.size) (compEnvC scope cl H2.objs.size X.env)) (RR (.ref s.heap.objs.size) H2.objs.size) s3 := by
    rintro s3 ⟨tk, rfl⟩
    refine compLoop_own (fun n s' => ∃ i ys H', Inv (X.comp scope cl (own ++ fr.map (·.1)) H2.objs.size s H fp) [] (compSt own fr σ) H' s' ∧ tn i s'.heap ∧ (∀ b ∈ fp, H' b = none) ∧ W i n ys H') ?_ m0 ⟨0, [], _, I0 tk, st1, fpf, w0⟩
    rintro n s4 ⟨i, ys, H4, I4, st4, fr4, w4⟩
    rcases turns i n ys H4 w4 with ⟨stop, q⟩ | ⟨go, N, hN, step⟩
    · refine thn (T.done (X.comp scope cl (own ++ fr.map (·.1)) H2.objs.size s H fp) rfl rfl rfl hc i [] s4 _ H4 _ I4 (stat fr4) st4 stop) fun r s5 ⟨hr, I5⟩ => ?_
      subst hr
      exact hRR _ _ s5 H4 hCle (Ne.symm hDC) ⟨_, I5.loc.choose_spec.1⟩ I5.free I5.base I5.hok I5.bare I5.os q
    · refine thn (T.item (X.comp scope cl (own ++ fr.map (·.1)) H2.objs.size s H fp) rfl rfl rfl hc i [] s4 _ H4 _ I4 (stat fr4) st4 go) fun r s5 ⟨u, hr, h5⟩ => ?_
      subst hr
      refine thn h5 fun _ s6 ⟨x, H6, I6, r6, y6, st6, fr6⟩ => ?_
      have I6' := I6.pinned (stat fr6) (T.obj _ _ st6)
      refine thn (hg H2.objs.size s H fp _ s6 _ H6 x u _ I6' r6 (step x H6 y6)) fun _ s7 ⟨σ7, H7, I7, k7, q7⟩ => ?_
      refine thn (ht H2.objs.size s H fp _ s7 σ7 H7 _ I7 q7) fun ok s8 ⟨H8, I8, q8⟩ => ?_
      have again : ∀ {s9 : Shared} {σ9 : St} {H9 : Hp} {zs : List V}, Inv (X.comp scope cl (own ++ fr.map (·.1)) H2.objs.size s H fp) ([] ++ pinsAt fp s6.heap) σ9 H9 s9 → (∀ (i : Nat) v, (compSt own fr σ)[i]? = some (some v) → σ9[i]? = some (some v)) → (∃ m', m' < n ∧ W (i + 1) m' zs H9) →
          ∃ m, m < n ∧ ∃ i ys H', Inv (X.comp scope cl (own ++ fr.map (·.1)) H2.objs.size s H fp) [] (compSt own fr σ) H' s9 ∧ tn i s9.heap ∧ (∀ b ∈ fp, H' b = none) ∧ W i m ys H' := by
        intro s9 σ9 H9 zs I9 hσ ⟨m', hm, w9⟩
        refine ⟨m', hm, i + 1, zs, H9, (I9.sub_pins (fun p hp => absurd (show p ∈ ([] : List (Addr × Obj)) from hp) (by simp))).weak ?_ hσ, T.keep _ _ _ st6 fun b hb o e => (I9.pin (b, o) (List.mem_append_right _ (List.mem_append_right _ (mem_pinsAt hb e)))).1, fun b hb => ?_, w9⟩
        · rw [I9.len]; exact compSt_len own fr σ
        · obtain ⟨o, e, d⟩ := T.obj _ _ st6 b hb
          exact (I9.pin (b, o) (List.mem_append_right _ (List.mem_append_right _ (mem_pinsAt hb e)))).2.1
      cases ok with
      | false => exact (if_neg Bool.false_ne_true).mpr (again I8 (keepSt_get k7) (hN _ _ ((if_neg Bool.false_ne_true).mp q8)))
      | true =>
        refine (if_pos rfl).mpr ?_
        have q8' := (if_pos rfl).mp q8
        refine thn (he H2.objs.size s H fp _ s8 σ7 H8 _ I8 q8') fun y s9 ⟨yv, H9, I9, r9, hD9, hz, q9⟩ => ?_
        refine thn (mt_append _ s9 σ7 H9 (.ref s.heap.objs.size) [yv] (.ref s.heap.objs.size) [y] (fun _ H' => H' = upd H9 s.heap.objs.size (.lst (ys ++ [yv]))) I9 rfl (.cons r9 .nil) ⟨_, ys, yv, rfl, rfl, hD9, hz, rfl⟩) fun _ s10 ⟨_, H10, I10, _, e10⟩ => ?_
        subst e10
        exact again I10 (keepSt_get k7) (hN _ _ q9)
  exact codeAny_compStart_list (loop _ ⟨_, rfl⟩) (T.self _ 0 _ _ _ st1 (loop _ ⟨_, rfl⟩))

theorem comp_after {pins : List (Addr × Obj)} {σ : St} {H H' : Hp} {s s' : Shared} {fp : List Addr} (I : Inv X pins σ H s) (hf : ∀ b ∈ fp, FpOk X pins H b) (un : Un (frs X.stack) fp H H' s.heap s'.heap)
    (hok : HOk X.prog X.w H' s'.heap) (bare : AllBare s'.gens) (os : s'.os = s.os) : Inv X pins σ H' s' :=
  I.call' os un hok bare fun b hb => ⟨(hf b hb).2.2.2.1, (hf b hb).2.1, (hf b hb).2.2.2.2.1, (hf b hb).2.2.2.2.2⟩
theorem comp_let {pins : List (Addr × Obj)} {σ σ' : St} {H H' : Hp} {s s' : Shared} {C : Addr} {h' : Heap} (I : Inv X pins σ H s) (hC : s.heap.objs.size ≤ C) (hn : H' C = none) (I' : Inv X pins σ' H' s') (sb : Heap.SameBut C s'.heap h') :
    Inv X pins σ' H' { s' with heap := h' } := by
  obtain ⟨f0, f1, f2, f3, f4, f5⟩ := I.fpOk hC hn
  exact I'.turned (t' := s'.toks) (fun b o hb e => (sb.2 b hb).trans e) f0 f1 f3 f4 f5

/-- [elt for target in iter if ..] as a value -/
theorem pe_comp (hc : X.calm = true) (S : CompScope X scope cl own fr) (hi : PI X target iter wi)
    (hg : ∀ C s H fp, PG (X.comp scope cl (own ++ fr.map (·.1)) C s H fp) target g) (ht : ∀ C s H fp, PIfs (X.comp scope cl (own ++ fr.map (·.1)) C s H fp) ifs tc) (he : ∀ C s H fp, PE (X.comp scope cl (own ++ fr.map (·.1)) C s H fp) elt te)
    (hs : ∀ x, foldedSetIterable iter X.env x = pure x := by intro _; rfl) : PE X (.ListComp elt [⟨target, iter, ifs, 0⟩] scope pos) (tComp wi g tc te own fr) := by
  intro pins s σ H Q I h
  rw [eval_ListComp]
  refine wpAny_comprehension_free (use := none) rfl hs S.clos S.kind S.names (thn (hi pins s σ H _ I h) fun v s1 h1 => thn h1 fun itv s2 h2 => ?_)
  obtain ⟨it, fp, tn, J, H2, e, I2, T, st2, f2, hw⟩ := h2
  subst e
  refine comp_block (RR := fun acc C => compPost (model X.prog X.w) X.A X.xe none (EP X pins σ Q) acc C) hc S I2 T st2 f2 hg ht he hw ?_
  rintro D C s' H' hC hDC ⟨m, hn⟩ hCf un hok bare os q
  refine ⟨m, hn, fun h' hs' => ⟨.ref D, H', ?_, rfl, q⟩⟩
  exact comp_let (C := C) (σ := σ) I2 hC hCf (comp_after I2 f2 un hok bare os) hs'

end

/-! ### the forms one uses -/
theorem comp_list {K : PySem.W.Frag} {a D : Addr} {xs : List V} {g : TG} {tc : TT} {te : TE} {σ0 : St} {R : Hp → Prop} {H1 : Hp} (Pv : Nat → List V → Hp → Prop) (h0 : Pv 0 [] (upd H1 D (.lst []))) (hl : ∀ i ys H, i ≤ xs.length → Pv i ys H → SqL K H a xs)
    (hs : ∀ i x ys H, xs[i]? = some x → Pv i ys H → g x σ0 H fun σ4 H4 => keepSt σ0 σ4 ∧ tc σ4 H4 fun b H5 => if b = true then te σ4 H5 fun y H6 => H6 D = some (.lst ys) ∧ ys.length < sizeLine ∧ Pv (i + 1) (ys ++ [y]) (upd H6 D (.lst (ys ++ [y]))) else Pv (i + 1) ys H5)
    (hd : ∀ ys H, Pv xs.length ys H → R H) : ∃ W : Nat → Nat → List V → Hp → Prop, (∃ m, W 0 m [] (upd H1 D (.lst []))) ∧ CompTurns (Itl K a) D g tc te σ0 W R := by
  refine ⟨fun i m ys H => m = xs.length - i ∧ i ≤ xs.length ∧ Pv i ys H, ⟨_, rfl, Nat.zero_le _, h0⟩, ?_⟩
  rintro i m ys H ⟨rfl, hi, p⟩
  have q := hl i ys H hi p
  by_cases hlt : i < xs.length
  · refine .inr ⟨⟨xs, xs[i], q, by simp [hlt]⟩, Pv (i + 1), fun ys' H' p' => ⟨xs.length - (i + 1), by omega, rfl, hlt, p'⟩, fun x H' y => ?_⟩
    obtain ⟨e, y⟩ := y
    subst e
    exact hs i x ys _ (y xs q) p
  · have e : i = xs.length := by omega
    subst e
    exact .inl ⟨⟨xs, q, Nat.le_refl _⟩, hd ys H p⟩
theorem comp_range {lo : Int} {n : Nat} {D : Addr} {g : TG} {tc : TT} {te : TE} {σ0 : St} {R : Hp → Prop} {H1 : Hp} (Pv : Nat → List V → Hp → Prop) (h0 : Pv 0 [] (upd H1 D (.lst [])))
    (hs : ∀ i ys H, i < n → Pv i ys H → g (.int (lo + i)) σ0 H fun σ4 H4 => keepSt σ0 σ4 ∧ tc σ4 H4 fun b H5 => if b = true then te σ4 H5 fun y H6 => H6 D = some (.lst ys) ∧ ys.length < sizeLine ∧ Pv (i + 1) (ys ++ [y]) (upd H6 D (.lst (ys ++ [y]))) else Pv (i + 1) ys H5)
    (hd : ∀ ys H, Pv n ys H → R H) : ∃ W : Nat → Nat → List V → Hp → Prop, (∃ m, W 0 m [] (upd H1 D (.lst []))) ∧ CompTurns (Itr lo n) D g tc te σ0 W R := by
  refine ⟨fun i m ys H => m = n - i ∧ i ≤ n ∧ Pv i ys H, ⟨_, rfl, Nat.zero_le _, h0⟩, ?_⟩
  rintro i m ys H ⟨rfl, hi, p⟩
  by_cases hlt : i < n
  · refine .inr ⟨hlt, Pv (i + 1), fun ys' H' p' => ⟨n - (i + 1), by omega, rfl, hlt, p'⟩, fun x H' y => ?_⟩
    obtain ⟨e, y⟩ := y
    subst e y
    exact hs i ys _ hlt p
  · have e : i = n := by omega
    subst e
    exact .inl ⟨Nat.le_refl _, hd ys H p⟩
/-- a block without free names -/
theorem compScope_plain {X : Cx} {scope : Scope} {own : List Str} (hf : ∀ y ∈ scope.names, y.2 ≠ .free) (hc : ∀ y ∈ scope.names, y.2 ≠ .cell) (hk : scope.kind = .function) (hn : ∀ y ∈ scope.names, y.2 = .local → scope.names.lookup y.1 = some .local) : CompScope X scope [] own [] := by
  have rel : (relabel scope X.env).names = scope.names := by
    unfold relabel
    dsimp only
    refine (List.map_congr_left fun p hp => ?_).trans (List.map_id _)
    obtain ⟨n, k⟩ := p
    have : (k == NameKind.free) = false := by
      have := hf _ hp
      cases k <;> first | rfl | exact absurd rfl this
    simp [this]
  refine ⟨closureFor_none hf, hc, hk, hn, fun y c h => by simp at h, fun y h => ?_, fun p hp => by simp at hp⟩
  rw [rel] at h
  rcases h with h | h
  · exact absurd rfl (hc _ (PySem.mem_of_lookup h))
  · exact absurd rfl (hf _ (PySem.mem_of_lookup h))
end L2
namespace L2
open PySem PySem.Spec PyProof.Rows

/-! ### own exception classes -/
/-- an exception object of the class at C stands at a -/
def IsExc (a C : Addr) (h : Heap) : Prop := ∃ ob vs, h.get? a = some ob ∧ ob.cls = .ref C ∧ ob.data = .fields vs
def excO (a C : Addr) : HO := .ext (IsExc a C)
theorem ObjOk.there {P : Program} {w : World} {H : Hp} {h : Heap} {a : Addr} {u : HO} (ok : ObjOk P w H h a u) : ∃ v, h.get? a = some v := by
  cases u with
  | lst xs => obtain ⟨_, _, _, _, e⟩ := ok; exact ⟨_, e⟩
  | tup xs => obtain ⟨_, _, _, o, e, _⟩ := ok; exact ⟨_, e⟩
  | dK kvs => obtain ⟨_, _, _, _, o, _, _, e, _⟩ := ok; exact ⟨_, e⟩
  | dT kvs => obtain ⟨_, _, _, _, o, _, _, e, _⟩ := ok; exact ⟨_, e⟩
  | set S n => obtain ⟨o, _, _, _, e, _⟩ := ok; exact ⟨_, e⟩
  | ins C dx fs => obtain ⟨_, _, _, e, _⟩ := ok; exact ⟨_, e⟩
  | own y => obtain ⟨_, e⟩ := ok; exact ⟨_, e⟩
  | xd fs => obtain ⟨_, ⟨_, _, _, e, _⟩, _⟩ := ok; exact ⟨_, e⟩
  | rng lo hi => obtain ⟨_, _, _, e⟩ := ok; exact ⟨_, e⟩
  | frz ob u => obtain ⟨e, _⟩ := ok; exact ⟨_, e⟩
  | tbl ps => exact ⟨_, show h.get? a = some _ from ok⟩
  | met f y => exact ⟨_, show h.get? a = some _ from ok⟩
  | ext φ => obtain ⟨_, ⟨_, e⟩, _⟩ := ok; exact ⟨_, e⟩
/-- an exception that flies towards the frames of `outer` -/
def Flies (P : Program) (w : World) (outer : List Env) (H H' : Hp) (s : Shared) (a C : Addr) (s' : Shared) : Prop :=
  ∃ (t : Addr) (B : Heap), s'.os = s.os ∧ AllBare s'.gens ∧ Un (frs outer) [] H H' s.heap s'.heap ∧ HOk P w H' s'.heap ∧ Heap.FlyingW B outer a (.ref C) (.ref t) s'.heap ∧
    (∀ b o, s'.heap.get? b = some o → H' b ≠ none → B.get? b = some o) ∧ (∀ b o0 o, s.heap.get? b = some o0 → s'.heap.get? b = some o → b ∉ frs outer → B.get? b = some o)
def CXr (P : Program) (w : World) : CXT := fun outer H s E e s' => ∃ (a C : Addr) (H' : Hp), e = .ref a ∧ Flies P w outer H H' s a C s' ∧ E (.ref C) none H'

section
variable {X : Cx} {pins : List (Addr × Obj)} {σ : St} {H : Hp} {s : Shared}
/-- what a raise in this body comes to -/
def RaisesTo (X : Cx) (E : XK) : Prop := ∀ (pins : List (Addr × Obj)) (σ : St) (H : Hp) (s : Shared) (h' : Heap) (a C : Addr) (vs : List Value), Inv X pins σ H s → Heap.MadeExcOf s.heap h' a (.ref C) vs → E (.ref C) none H → X.xe (.ref a) { s with heap := h' }

theorem raisesTo_def {P : Program} {w : World} {K : PySem.W.Frag} {mg : Str → Option Value} {base : Heap} {N : List Str} {qual : Str} {scope : Scope} {f : Addr} {cd : Value} {A : Around} {outer : List Env} {s : Shared} {H : Hp} {E : XK} :
    RaisesTo (cxOf (CXr P w) P w K mg base N qual scope f cd A outer s H E) E := by
  intro pins σ H1 s1 h' a C vs I hx hE
  have hfr := I.ok.frames
  have hst : s1.heap.FunFrames base (envOfC qual scope s.heap.objs.size f cd :: outer) := I.stack
  have hin : ∀ env ∈ (envOfC qual scope s.heap.objs.size f cd :: outer), ∀ b, env.frame = some b → b ∈ frs (envOfC qual scope s.heap.objs.size f cd :: outer) := fun env he b hb => List.mem_filterMap.mpr ⟨env, he, hb⟩
  have inB : ∀ b o, s1.heap.get? b = some o → b ∉ frs (envOfC qual scope s.heap.objs.size f cd :: outer) → (PySem.W.hideAll s1.heap (frs (envOfC qual scope s.heap.objs.size f cd :: outer))).get? b = some o := fun b o e n => PySem.W.hideAll_get _ e n
  refine wpAny_leaves_madeW (base := PySem.W.hideAll s1.heap (frs (envOfC qual scope s.heap.objs.size f cd :: outer))) hfr rfl (fun b o q => PySem.W.of_hideAll _ q) (PySem.W.funFrames_hide hst hin) hx fun h2 t fl tu tn sm => ?_
  refine ⟨a, C, H1, rfl, ⟨t, _, I.os, I.bare, ⟨fun b o e n hb _ => ?_, fun b o e n hb _ => ?_, fun b o e n _ => ?_, fun b o e _ => ?_, I.base.tups, I.base.frzs, I.base.tbls⟩, fun b u e => ?_, fl, fun b o e n => ?_, fun b o0 o e0 e nb => ?_⟩, hE⟩
  · have e1 : s1.heap.get? b = some o := I.base.keep b o e n hb (by intro z; exact absurd (show b ∈ ([] : List Addr) from z) (by simp))
    refine fl.1 b o (inB b o e1 fun z => ?_)
    rcases List.mem_cons.mp (I.stkSub b z) with q | q
    · exact absurd (Nat.lt_of_lt_of_le (Heap.lt_size e) I.ok.above) (by rw [q]; exact Nat.lt_irrefl _)
    · exact hb q
  · obtain ⟨sl, e1⟩ := I.base.slot b o e n hb (by intro z; exact absurd (show b ∈ ([] : List Addr) from z) (by simp))
    have nf : ∀ vs, o.data ≠ .fields vs := by
      obtain ⟨_, o', ho', hnf⟩ := I.funs.mem (show b ∈ (outer.filterMap (·.frame)) from hb)
      rw [e1] at ho'; cases ho'
      exact hnf
    obtain ⟨sl', e2⟩ := sm b { o with slots := sl } (hx.keeps b _ e1) nf
    exact ⟨sl', e2⟩
  · exact I.base.free b o e n (by intro z; exact absurd (show b ∈ ([] : List Addr) from z) (by simp))
  · obtain ⟨o1, e1⟩ := I.base.there b o e (by intro z; exact absurd (show b ∈ ([] : List Addr) from z) (by simp))
    by_cases hb : b ∈ frs (envOfC qual scope s.heap.objs.size f cd :: outer)
    · obtain ⟨_, o', ho', hnf⟩ := hst.mem hb
      rw [e1] at ho'; cases ho'
      obtain ⟨sl', e2⟩ := sm b o1 (hx.keeps b _ e1) hnf
      exact ⟨_, e2⟩
    · exact ⟨o1, fl.1 b o1 (inB b o1 e1 hb)⟩
  · have trk : ∀ c v, s1.heap.get? c = some v → H1 c ≠ none → h2.get? c = some v := fun c v q hc => fl.1 c v (inB c v q fun z => hc (I.stkFree c z))
    refine (I.hok b u e).stay (fun c v hc q => trk c v q ?_) (fun _ q => q) fun _ _ q => q
    rcases hc with z | z
    · rw [z, e]; simp
    · rw [z]; simp
  · cases q' : H1 b with
    | none => exact absurd q' n
    | some u =>
      obtain ⟨v, q⟩ := (I.hok b u q').there
      have nb : b ∉ frs (envOfC qual scope s.heap.objs.size f cd :: outer) := fun z => n (I.stkFree b z)
      have e2 := fl.1 b v (inB b v q nb)
      rw [e] at e2; cases e2
      exact inB b _ q nb
  · obtain ⟨o1, e1⟩ := I.base.there b o0 e0 (by intro z; exact absurd (show b ∈ ([] : List Addr) from z) (by simp))
    have nb' : b ∉ frs (envOfC qual scope s.heap.objs.size f cd :: outer) := fun z => by
      rcases List.mem_cons.mp (I.stkSub b z) with q | q
      · exact absurd (Nat.lt_of_lt_of_le (Heap.lt_size e0) I.ok.above) (by rw [q]; exact Nat.lt_irrefl _)
      · exact nb q
    have e2 := fl.1 b o1 (inB b o1 e1 nb')
    have e' : h2.get? b = some o := e
    rw [e'] at e2; cases e2
    exact inB b _ e1 nb'

end
end L2
namespace L2
open PySem PySem.Spec PyProof.Rows

abbrev bmVE : List Value := [.type "ValueError", .type "Exception", .type "BaseException", .type "object"]
/-- a class of the text that stands under ValueError, straight or over others of the text -/
abbrev ExcC (K : PySem.W.Frag) (C : Addr) : Prop := PySem.W.excIn K C bmVE "ValueError.__new__" = true
theorem exc_get {K : PySem.W.Frag} {h : Heap} {C : Addr} (KX : K.In h) (ex : ExcC K C) : ∃ mro' ns' mN', (∃ nm' qn' bs' hd' sn' sub' ab' col' dd' j0 j1 j2 j3 j5,
    h.get? C = some (excClassObj nm' qn' C ns' bs' mro' hd' sn' sub' ab' col' dd' j0 j1 j2 j3 j5 "ValueError.__new__")) ∧ h.Ns ns' mN' ∧ mN' "__init__" = none ∧ OwnTail h bmVE mro' := by
  have ex' := ex
  unfold ExcC PySem.W.excIn at ex'
  split at ex'
  · rename_i dd' cd' sl' lk
    have lk' := KX _ _ lk
    split at ex'
    · rename_i C' rest' j0 j1 j2 j3 n' j5 hm hs
      rw [Bool.and_eq_true, Bool.and_eq_true, Bool.and_eq_true, Bool.and_eq_true, Bool.and_eq_true, beq_iff_eq, beq_iff_eq, beq_iff_eq] at ex'
      obtain ⟨⟨⟨⟨⟨z1, z2⟩, z3⟩, z4⟩, z5⟩, z6⟩ := ex'
      have z3' : cd'.hasDel = false := by simpa using z3
      subst z1 z2
      cases cd' with
      | mk a1 a2 a3 a4 a5 a6 a7 a8 a9 a10 a11 =>
        have hm' : a3 = .ref C' :: rest' := hm
        have h11 : a11 = false := z3'
        subst hm' h11
        have es : sl' = #[j0, j1, j2, j3, some (.builtin "ValueError.__new__"), j5] := by
          cases sl' with
          | mk l => exact congrArg Array.mk hs
        subst es
        exact ⟨rest', a4, _, ⟨_, _, _, _, _, _, _, _, _, _, _, _, _, _, lk'⟩, .of_isNs (PySem.W.isNs_of_in KX z5), PySem.W.nsMap_none_of_in KX z5 z6, PySem.W.tail_of_in KX z4⟩
    · cases ex'
  · cases ex'

section
variable {X : Cx}
/-- raise C(e, ..) in a def's own body -/
def tRaise (C : Addr) (E : XK) (t : TA) : TS := fun _ σ H => t σ H fun vs H1 => vs.length ≤ sizeLine ∧ E (.ref C) none H1
theorem ps_raise {C : Addr} {E : XK} {x : Str} {np cpos pos : Pos} {e : Expr} {es : List Expr} {t : TA} (hc : X.calm = true) (hR : RaisesTo X E) (hg : Gl X x) (hm : X.mg x = some (.ref C)) (ex : ExcC X.K C) (ha : PA X (e :: es) t)
    (hdb : (x == ("__debug__" : Str)) = false := by decide) (he : starEach (e :: es) X.env = (false, eval e X.env) :: starEach es X.env := by rfl) (hpl : (backTo cpos (starEach es X.env)).any (·.1) = false := by rfl) :
    PS X (.Raise (some (.Call (.Name x np) (e :: es) [] cpos)) none pos) (tRaise C E t) := by
  intro pins s σ H D I h
  obtain ⟨mro', ns', mN', ⟨nm', qn', bs', hd', sn', sub', ab', col', dd', j0, j1, j2, j3, j5, hC⟩, hN, hni, T⟩ := exc_get I.mod.kin ex
  refine wpAny_Raise_call_subT (C := C) (nm := nm') (q := qn') (N := ns') (bs := bs') (bm := mro') (hdct := hd') (sn := sn') (sub := sub') (ab := ab') (col := col') (dd := dd') (k0 := j0) (k1 := j1) (k2 := j2) (k3 := j3) (k5 := j5)
    PySem.F.excBase_ValueError (mN := mN') (T.hasType PySem.F.excBase_ValueError.hasBase) (I.ok.hd hc) (by rw [he]; show (false || (backTo cpos (starEach es X.env)).any (·.1)) = false; rw [hpl]; rfl) hni (ld_glob I hg hm ⟨rfl, ?_⟩ hdb)
  have hA := ha cpos pins s σ H _ I h
  rw [he] at hA ⊢
  refine Calls.evalArgs_plain (thn hA fun us s2 ⟨vs, H2, I2, r2, hl, q2⟩ => ?_)
  exact ⟨rfl, by rw [← r2.length]; exact hl, I2.bk _ _ hC, hN.keeps I2.bk, T.keeps I2.bk, fun h' a hm => hR pins σ H2 s2 h' a C us I2 hm q2⟩

/-! ### try: one call; except W as n: a suite -/
/-- within an except suite -/
def Cx.inExc (X : Cx) (a : Addr) : Cx := { X with A := X.A.mark (some (.ref a)), calm := false, xe := fun _ _ => False }
variable {pins : List (Addr × Obj)} {σ : St} {H : Hp} {s : Shared}
end
end L2
namespace L2
open PySem PySem.Spec PyProof.Rows

theorem exc_type {M : Model} {h : Heap} {a C : Addr} (hx : IsExc a C h) : PySem.W.Looks M h (typeOf (.ref a)) (.ref C) := by
  obtain ⟨ob, vs, e, c, d⟩ := hx
  exact c ▸ (PySem.W.Looks.ld e).andThen .now
section
variable {X : Cx} {k : Nat} {f : Addr} {fd : FuncData} {ps : List Str} {sp : Sp} {dvs : List V} {ds : List Value} {fx : Str} {fp cpos bpos np hpos pos : Pos} {e : Expr} {es : List Expr} {t : TA}

/-- what the handler's suite is asked -/
def Caught (K : PySem.W.Frag) (W : Addr) (i : Nat) (ts : TS) (D : Ends) (σ : St) : XK := fun cls _ H2 => ∃ C, cls = .ref C ∧ PySem.W.kitCls K (.ref C) (.ref W) = some true ∧
  ∀ a, H2 a = none → ts { nx := fun σ' H' => D.nx (σ'.set i none) H', rt := D.rt, bk := fun σ' H' => D.bk (σ'.set i none) H', ct := fun σ' H' => D.ct (σ'.set i none) H' } (σ.set i (some (.ref a))) (upd H2 a (excO a C))

def tTry (K : PySem.W.Frag) (W : Addr) (i : Nat) (sp : Sp) (dvs : List V) (t : TA) (ts : TS) : TS := fun D σ H => t σ H fun vs H1 => sp (vs ++ dvs) H1 (fun _ H2 => D.nx σ H2) (Caught K W i ts D σ)
end
end L2
namespace L2
open PySem PySem.Spec PyProof.Rows
theorem exc_class {K : PySem.W.Frag} {prog : Program} {w : World} {A : Around} {E : Value → Shared → Prop} {Q : Option Value → Shared → Prop} {s : Shared} {a C : Addr} (KX : K.In s.heap) (hx : IsExc a C s.heap)
    (hga : PySem.W.findIn K (.ref C) "__getattribute__" = some (some (.builtin "BaseException.__getattribute__"))) (hnga : PySem.W.findIn K (.ref C) "__getattr__" = some none)
    (hcl : PySem.W.findIn K (.ref C) "__class__" = some (some (.builtin "object.__class__"))) (hm : PySem.W.mroIn K C (.type "object") = some true) (hB : PySem.W.subIn K (.ref C) (.type "BaseException") = some true)
    (h : Q (some (.ref C)) { s with toks := s.toks + 1 }) : wpAny (model prog w) A (getAttr? (.ref a) "__class__") Q E s := by
  have L0 := exc_type (M := model prog w) hx
  have L1 := PySem.W.looks_findIn (M := model prog w) KX hga
  have L2 := PySem.W.looks_findIn (M := model prog w) KX hnga
  have L3 := PySem.W.looks_findIn (M := model prog w) KX hcl
  have L4 := PySem.W.looks_subIn (M := model prog w) KX hB
  obtain ⟨h0, g, d, t, os⟩ := s
  have f3 := PySem.F.attr_ValueError.ga.bind (.ref a)
  unfold getAttr? getAttrBy? getAttrBy
  refine wpAny_bind (wpAny_mkText (wpAny_bind (wpAny_attempt (wpAny_holding (wpAny_bind (L0.at (wpAny_bind (L1.at ?_))))))))
  dsimp only
  have hx2 : (onTheHeap (Value.ref C) && Value.builtin "BaseException.__getattribute__" == Value.builtin "object.__getattribute__") = false := by
    have z : (Value.builtin "BaseException.__getattribute__" == Value.builtin "object.__getattribute__") = false := by decide +kernel
    rw [z, Bool.and_false]
  rw [hx2]
  simp only [Bool.false_eq_true, if_false]
  unfold getAttrByItsOwn
  repeat (any_goals (first | assumption | with_reducible refine L0.at ?_ | with_reducible refine L2.at ?_ | wp_step))
  have hsp : splitId "BaseException.__getattribute__" = some ("BaseException", "__getattribute__") := by decide +kernel
  have hkd : builtinKind "BaseException.__getattribute__" = some .slot := by decide +kernel
  have har := PySem.F.args_bexc_ga (.ref a) (.str (Str.ofString "__class__") t)
  refine codeAny_call_builtin PySem.F.attr_ValueError.ga.plain PySem.F.entry_bexc_ga ?_
  show wpAny _ _ (checkBuiltinCall "BaseException.__getattribute__" ⟨[.ref a, .str (Str.ofString "__class__") t], []⟩) _ _ _
  simp only [checkBuiltinCall, hkd, hsp]
  refine wpAny_bind ?_
  unfold isInstance
  have f5 := PySem.F.typeOf_object_class
  have f6 := PySem.F.slot_gs_get.lookup
  have f7 := PySem.F.slot_gs_set.lookup
  have hT5 : (⟨h0, g, d, t + 1, os⟩ : Shared).TypeIs (.builtin "object.__class__") "getset_descriptor" := PySem.F.typeOf_object_class
  refine wpAny_bind (L0.at (L4.at ?_))
  repeat (any_goals (first | assumption | with_reducible refine L0.at ?_ | with_reducible refine L3.at ?_ | wp_step))
  have Lo : PySem.W.Looks (model prog w) h0 (isSubtype (.ref C) (.type (".".intercalate ("object.__class__".cutAt '.').dropLast))) true := by
    rw [PySem.F.owner_object_class]
    exact PySem.W.looks_mroIn KX hm
  have hT6 : (⟨h0, g, d, t + 1, os⟩ : Shared).TypeIs (.builtin "object.__class__") "getset_descriptor" := PySem.F.typeOf_object_class
  refine codeAny_call_builtin PySem.F.slot_gs_get.plain PySem.F.entry_gs_get (PySem.F.slot_gs_get.check _ _ _ _ _ _ _ _ hT6 (PySem.F.args_gs_get _ _ _) ?_)
  repeat (any_goals (first | assumption | with_reducible refine L0.at ?_ | with_reducible refine Lo.at ?_ | wp_step))
  refine ⟨Code.quiet_builtin _ (by decide +kernel), codeAny_builtin PySem.F.entry_object_class ?_⟩
  repeat (any_goals (first | assumption | with_reducible refine L0.at ?_ | wp_step))
end L2
namespace L2
open PySem PySem.Spec PyProof.Rows

/-- what isinstance asks of an exception class of the text -/
structure ExcK (K : PySem.W.Frag) (C : Addr) : Prop where
  ex : ExcC K C
  ga : PySem.W.findIn K (.ref C) "__getattribute__" = some (some (.builtin "BaseException.__getattribute__"))
  nga : PySem.W.findIn K (.ref C) "__getattr__" = some none
  cl : PySem.W.findIn K (.ref C) "__class__" = some (some (.builtin "object.__class__"))
  ob : PySem.W.mroIn K C (.type "object") = some true
  be : PySem.W.subIn K (.ref C) (.type "BaseException") = some true
theorem kitx_exc {K : PySem.W.Frag} {a C : Addr} (k : ExcK K C) : PySem.W.KitX K (.ref a) (.ref C) (IsExc a C) where
  ty := fun _ _ _ p => exc_type p
  it := fun M h KX _ => by
    obtain ⟨_, _, _, ⟨_, _, _, _, _, _, _, _, _, _, _, _, _, _, hC⟩, _⟩ := exc_get KX k.ex
    intro A Q E s kk q
    unfold isType loadHead
    exact wpAny_bind (wpAny_loadPart (kk _ _ hC) (wpAny_pure q))
  ne := fun h tp dd its n sl KX htp => by
    obtain ⟨_, _, _, ⟨_, _, _, _, _, _, _, _, _, _, _, _, _, _, hC⟩, _⟩ := exc_get KX k.ex
    refine Bool.eq_false_iff.mpr fun q => ?_
    have e : C = tp := Value.ref.inj (beq_iff_eq.mp q)
    rw [← e, hC] at htp
    have z := congrArg Obj.data (Option.some.inj htp)
    unfold excClassObj at z
    cases z
  ca := fun KX p q => exc_class KX p k.ga k.nga k.cl k.ob k.be q

def clsVal : V → Value
  | .ty n => .type n
  | .ref a => .ref a
  | _ => .none
def isCls : V → Bool
  | .ty _ => true
  | .ref _ => true
  | _ => false
theorem RelV.cls {c : V} {u : Value} (r : RelV c u) (h : isCls c = true) : u = clsVal c := by
  cases c with
  | ty n => exact r
  | ref a => exact r
  | _ => cases h
theorem Vals.cls : ∀ {cs : List V} {us : List Value}, Vals cs us → cs.all isCls = true → us = cs.map clsVal
  | _, _, .nil, _ => rfl
  | _, _, .cons r t, h => by
    rw [List.all_cons, Bool.and_eq_true] at h
    rw [List.map_cons, r.cls h.1, Vals.cls t h.2]
/-- isinstance(x, c), x a plain value; isinstance(e, c), e an exception of the text; isinstance(e, (c, ..)) -/
def rIsi (K : PySem.W.Frag) : List V → Hp → VK → Prop := fun xs H Q => ∃ x c b, xs = [x, c] ∧ Q (.bl b) H ∧
  ((∃ t, TyOf K H x t ∧ isCls c = true ∧ PySem.W.kitOne K t (clsVal c) = some b) ∨
   (∃ a C, x = .ref a ∧ H a = some (excO a C) ∧ ExcK K C ∧ isCls c = true ∧ PySem.W.kitOne K (.ref C) (clsVal c) = some b) ∨
   (∃ a C tp cs, x = .ref a ∧ H a = some (excO a C) ∧ ExcK K C ∧ c = .ref tp ∧ H tp = some (.tup cs) ∧ cs.all isCls = true ∧ PySem.W.kitAny K (.ref C) (cs.map clsVal) = some b))
theorem call_isi {X : Cx} : CallR X (.builtin "isinstance") (rIsi X.K) := by
  intro pins s σ H xs us Q I rv h
  obtain ⟨x, c, b, rfl, q, h⟩ := h
  obtain ⟨u, cv, rfl, ru, rc⟩ := rv.two
  have fin : ∀ tk, EP X pins σ Q (.bool b) { s with toks := tk } := fun tk => ⟨.bl b, H, I.tok tk, rfl, q⟩
  rcases h with ⟨t, ty, hc, e⟩ | ⟨a, C, rfl, ha, k, hc, e⟩ | ⟨a, C, tp, cs, rfl, ha, k, rfl, ht, hc, e⟩
  · rw [rc.cls hc]
    exact isinst_ok I ru ty e fin
  · rw [rc.cls hc]
    cases (show u = Value.ref a from ru)
    obtain ⟨p, _⟩ := I.hok a _ ha
    exact PySem.W.kia_one (kitx_exc k) I.kIn p e (fun z => nomatch z) fin
  · cases (show u = Value.ref a from ru)
    cases (show cv = Value.ref tp from rc)
    obtain ⟨p, _⟩ := I.hok a _ ha
    obtain ⟨_, its, r, o, eo, co, n, dn⟩ := I.hok tp _ ht
    obtain ⟨ocl, odi, oda, osl⟩ := o
    cases (show ocl = .type "tuple" from co)
    cases (show oda = .seq its.toArray n from dn)
    exact PySem.W.kia_tup (its := its) (kitx_exc k) I.kIn p eo (by rw [r.cls hc]; exact e) (fun z => nomatch z) fin

/-! ### == and != of data: ints, bools, None, texts, lists and tuples of such -/
mutual
inductive DatV (K : PySem.W.Frag) (H : Hp) : V → PyData → Prop
  | non : DatV K H .non .none
  | bl (b : Bool) : DatV K H (.bl b) (.bool b)
  | int (i : Int) : DatV K H (.int i) (.int i)
  | str (x : Str) : DatV K H (.str x) (.str x)
  | lst {a : Addr} {xs : List V} {ds : List PyData} : SqL K H a xs → DatVs K H xs ds → DatV K H (.ref a) (.list ds)
  | tup {a : Addr} {xs : List V} {ds : List PyData} : SqT K H a xs → DatVs K H xs ds → DatV K H (.ref a) (.tuple ds)
inductive DatVs (K : PySem.W.Frag) (H : Hp) : List V → List PyData → Prop
  | nil : DatVs K H [] []
  | cons {x : V} {d : PyData} {xs : List V} {ds : List PyData} : DatV K H x d → DatVs K H xs ds → DatVs K H (x :: xs) (d :: ds)
end
section
variable {X : Cx} {pins : List (Addr × Obj)} {σ : St} {H : Hp} {s : Shared}
mutual
theorem DatV.reads (I : Inv X pins σ H s) : ∀ {x : V} {d : PyData} {u : Value}, DatV X.K H x d → RelV x u → ∃ as, Reads s.heap u d as
  | _, _, _, .non, r => by cases r; exact ⟨_, .none⟩
  | _, _, _, .bl b, r => by cases r; exact ⟨_, .bool b⟩
  | _, _, _, .int i, r => by obtain ⟨t, rfl⟩ := r; exact ⟨_, .int i t⟩
  | _, _, _, .str x, r => by obtain ⟨t, rfl⟩ := r; exact ⟨_, .str x t⟩
  | _, _, _, .lst hq hs, r => by
    cases r
    obtain ⟨its, rv, ⟨o, n, e, c, dd, dt⟩, _⟩ := I.list hq
    obtain ⟨as, ra⟩ := DatVs.reads I hs rv
    exact ⟨_, .list e c dt (by simpa using ra)⟩
  | _, _, _, .tup hq hs, r => by
    cases r
    obtain ⟨its, rv, ⟨o, e, c, n, dt⟩, _⟩ := I.tuple hq
    obtain ⟨as, ra⟩ := DatVs.reads I hs rv
    exact ⟨_, .tuple e c dt (by simpa using ra)⟩
theorem DatVs.reads (I : Inv X pins σ H s) : ∀ {xs : List V} {ds : List PyData} {us : List Value}, DatVs X.K H xs ds → Vals xs us → ∃ as, ReadsAll s.heap us ds as
  | _, _, _, .nil, .nil => ⟨_, .nil⟩
  | _, _, _, .cons h hs, .cons r rs => by
    obtain ⟨as, ra⟩ := DatV.reads I h r
    obtain ⟨bs, rb⟩ := DatVs.reads I hs rs
    exact ⟨_, .cons ra rb⟩
end
end
def rEqD (K : PySem.W.Frag) (neg : Bool) : R2 := fun x y H Q => ∃ d1 d2, DatV K H x d1 ∧ DatV K H y d2 ∧ SeqAt.shaped d1 = true ∧ SeqAt.shaped d2 = true ∧ Q (.bl (neg != PyData.eqv d1 d2)) H
theorem op_eqD {X : Cx} (hu : X.A.units + 64 < cLine) : OpR X (compareOp .Eq) (rEqD X.K false) := by
  intro pins s σ H x y v u Q I rx ry h
  obtain ⟨d1, d2, h1, h2, s1, s2, q⟩ := h
  obtain ⟨as, r1⟩ := h1.reads I rx
  obtain ⟨bs, r2⟩ := h2.reads I ry
  exact eq_dataH r1 r2 s1 s2 hu ⟨.bl _, H, I, by cases PyData.eqv d1 d2 <;> rfl, q⟩
theorem op_neD {X : Cx} (hu : X.A.units + 64 < cLine) : OpR X (compareOp .NotEq) (rEqD X.K true) := by
  intro pins s σ H x y v u Q I rx ry h
  obtain ⟨d1, d2, h1, h2, s1, s2, q⟩ := h
  obtain ⟨as, r1⟩ := h1.reads I rx
  obtain ⟨bs, r2⟩ := h2.reads I ry
  exact ne_dataH r1 r2 s1 s2 hu ⟨.bl _, H, I, by cases PyData.eqv d1 d2 <;> rfl, q⟩

/-! ### numbers of the laws' own draws -/
def Lt2 (p : Nat) (a : Int) : Prop := a.natAbs < 2 ^ p
/-- a product of two numbers below 2^p, 2^q -/
def CMulB (i j : Int) : Prop := ∃ p q, Lt2 p i ∧ Lt2 q j ∧ p ≤ 100000 ∧ q ≤ 100000
def CDivB (i j : Int) : Prop := 0 < j ∧ Lt2 9000 j
theorem op_fdivB {X : Cx} : OpR X (binaryOp .FloorDiv) (rI CDivB fun i j => .int (i / j)) := opI fun i j _ _ _ _ _ hc q => by
  have h1 : (0 : Int) < j := hc.1
  have h2 : j.natAbs < 2 ^ 9000 := hc.2
  refine floordiv_int (by omega) (by rw [Int.fdiv_eq_ediv_of_nonneg i (by omega)]; exact q) (.inl (PyProof.noPylong_of_log2 ?_))
  exact (Nat.log2_lt (by omega)).mpr h2

/-! ### heaps that grow -/
theorem Same.new {H : Hp} {p : Addr} {o : HO} (h : H p = none) : Same H (upd H p o) := fun b u e => by rw [upd_ne (ne_of_none e h)]; exact e
theorem Same.put {H H1 : Hp} {p : Addr} {o : HO} (s : Same H H1) (h : H p = none) : Same H (upd H1 p o) := fun b u e => by rw [upd_ne (ne_of_none e h)]; exact s b u e
theorem upd_eq {H : Hp} {p b : Addr} {o u : HO} (h : H b = some u) (n : b ≠ p) : upd H p o b = some u := by rw [upd_ne n]; exact h
/-- a list of pairs of ints -/
inductive Prs (H : Hp) : List V → List (Int × Int) → Prop
  | nil : Prs H [] []
  | cons {p : Addr} {a b : Int} {xs : List V} {rs : List (Int × Int)} : H p = some (.tup [.int a, .int b]) → Prs H xs rs → Prs H (.ref p :: xs) ((a, b) :: rs)
theorem Prs.len {H : Hp} {xs : List V} {rs : List (Int × Int)} (h : Prs H xs rs) : xs.length = rs.length := by
  induction h with
  | nil => rfl
  | cons _ _ ih => rw [List.length_cons, List.length_cons, ih]
theorem Prs.snoc {H : Hp} {xs : List V} {rs : List (Int × Int)} (h : Prs H xs rs) {p : Addr} {a b : Int} (e : H p = some (.tup [.int a, .int b])) : Prs H (xs ++ [.ref p]) (rs ++ [(a, b)]) := by
  induction h with
  | nil => exact .cons e .nil
  | cons e1 _ ih => exact .cons e1 ih
theorem Prs.keep {H H' : Hp} {xs : List V} {rs : List (Int × Int)} (h : Prs H xs rs) (k : ∀ p ys, H p = some (.tup ys) → H' p = some (.tup ys)) : Prs H' xs rs := by
  induction h with
  | nil => exact .nil
  | cons e1 _ ih => exact .cons (k _ _ e1) ih
theorem Prs.same {H H' : Hp} {xs : List V} {rs : List (Int × Int)} (h : Prs H xs rs) (k : Same H H') : Prs H' xs rs := h.keep fun p ys e => k p _ e
/-- a list is written: the tuples stay -/
theorem tups_lst {H : Hp} {l : Addr} {zs : List V} {o : HO} (h : H l = some (.lst zs)) : ∀ p ys, H p = some (.tup ys) → upd H l o p = some (.tup ys) := fun p ys e => upd_eq e (ne_of e h (fun z => by cases z))
def prD (r : Int × Int) : PyData := .tuple [.int r.1, .int r.2]
theorem Prs.dats {K : PySem.W.Frag} {H : Hp} {xs : List V} {rs : List (Int × Int)} (h : Prs H xs rs) : DatVs K H xs (rs.map prD) := by
  induction h with
  | nil => exact .nil
  | cons e _ ih => exact .cons (.tup (SqT.of e) (.cons (.int _) (.cons (.int _) .nil))) ih
theorem prD_eqv (r q : Int × Int) : PyData.eqv (prD r) (prD q) = decide (r = q) := by
  obtain ⟨a, b⟩ := r
  obtain ⟨c, d⟩ := q
  simp only [prD, PyData.eqv, PyData.eqvAll, Prod.mk.injEq]
  by_cases h1 : a = c <;> by_cases h2 : b = d <;> simp [h1, h2]
theorem prs_eqv : ∀ rs qs : List (Int × Int), PyData.eqvAll (rs.map prD) (qs.map prD) = decide (rs = qs)
  | [], [] => by simp [PyData.eqvAll]
  | [], _ :: _ => by simp [PyData.eqvAll]
  | _ :: _, [] => by simp [PyData.eqvAll]
  | r :: rs, q :: qs => by
    rw [List.map_cons, List.map_cons]
    simp only [PyData.eqvAll, prD_eqv, prs_eqv rs qs]
    by_cases h1 : r = q <;> by_cases h2 : rs = qs <;> simp [h1, h2]
theorem prs_can : ∀ rs : List (Int × Int), PyData.canLayAll0 (rs.map prD) = true
  | [] => by simp [PyData.canLayAll0]
  | r :: rs => by
    rw [List.map_cons]
    simp [PyData.canLayAll0, prD, PyData.canLay0, prs_can rs]
theorem prs_depth : ∀ rs : List (Int × Int), PyData.depthAll (rs.map prD) ≤ 2
  | [] => by simp [PyData.depthAll]
  | r :: rs => by
    have ih := prs_depth rs
    rw [List.map_cons]
    simp only [PyData.depthAll, prD, PyData.depth]
    omega
theorem prs_shaped (rs : List (Int × Int)) : SeqAt.shaped (.list (rs.map prD)) = true := by
  unfold SeqAt.shaped
  rw [Bool.and_eq_true]
  refine ⟨by simp only [PyData.canLay0]; exact prs_can rs, decide_eq_true ?_⟩
  have := prs_depth rs
  simp only [PyData.depth]
  omega
end L2
namespace L2
open PySem PySem.Spec PyProof.Rows
section
variable {P : Program} {w : World} {K : PySem.W.Frag} {mg : Str → Option Value} {base : Heap}
/-- a def that may raise -/
theorem Fun.okR {x qual : Str} {st : Stmt} {f : Addr} {fd : FuncData} {N ps : List Str} {k : Nat} {sp : Sp} (F : Fun K x qual st f fd) (S : FnScope N ps (defScope st)) (len : ∀ vs H Q E, sp vs H Q E → vs.length = ps.length)
    (hbody : ∀ (cdv : Value) (A : Around) (outer : List Env) (s : Shared) (H : Hp) (vs : List V) (Q : VK) (E : XK), Room k (A.deeper (envOfC qual (defScope st) s.heap.objs.size f cdv)) → sp vs H Q E →
      ∃ t, PSs (cxOf (CXr P w) P w K mg base N qual (defScope st) f cdv A outer s H E) (defBody st) t ∧ t { nx := fun _ H' => Q .non H', rt := Q } (start N vs) H) : FnOk P w K mg base (CXr P w) (k + 1) f fd ps sp := by
  obtain ⟨oc, od, kV, doc, pm, an, cdv, ct, osl, rfl, lk, hcd⟩ := F.ex
  refine fn_of lk hcd S len fun A outer s H vs Q E hr hsp => ?_
  obtain ⟨t, h, q⟩ := hbody cdv A outer s H vs Q E hr hsp
  exact ⟨t, h, q⟩
theorem passR {X : Cx} : Passes (CXr X.prog X.w) X E0 := fun _ _ _ _ _ _ _ ⟨_, _, _, _, _, h⟩ => h.elim
end
section
variable {X : Cx}
/-- a type of Python's own, by its name -/
theorem pe_typ {x : Str} {T : String} {pos : Pos} (hm : X.mg x = none) (hv : bootBuiltins x = some (.type T)) (hg : Gl X x := by rfl) (hn : x ≠ "__name__" := by decide) (hd : (x == ("__debug__" : Str)) = false := by decide) : PE X (.Name x pos) (tC (.ty T)) := pe_bltn hg hm hv rfl hn hd
end
theorem boot_isi : bootBuiltins "isinstance" = some (.builtin "isinstance") := by first | rfl | decide +kernel
theorem boot_tuple : bootBuiltins "tuple" = some (.type "tuple") := by first | rfl | decide +kernel
theorem boot_list : bootBuiltins "list" = some (.type "list") := by first | rfl | decide +kernel
theorem boot_bool : bootBuiltins "bool" = some (.type "bool") := by first | rfl | decide +kernel
theorem boot_int : bootBuiltins "int" = some (.type "int") := by first | rfl | decide +kernel
theorem kit_self {K : PySem.W.Frag} {t : Value} : PySem.W.kitOne K t t = some true := by
  unfold PySem.W.kitOne
  rw [if_pos (beq_self_eq_true t)]

/-! ### the rules with the written part told by name (a comprehension's block has the same) -/
section
variable {X : Cx} (K : PySem.W.Frag)
theorem kIsi (h : X.K = K := by rfl) : CallR X (.builtin "isinstance") (rIsi K) := h ▸ call_isi
theorem kIxL (h : X.K = K := by rfl) : IxR X (rIxL K) := h ▸ ix_list
theorem kIxT (h : X.K = K := by rfl) : IxR X (rIxT K) := h ▸ ix_tup
theorem kLen (h : X.K = K := by rfl) : CallR X (.builtin "len") (fun xs H Q => ∃ p ys, xs = [.ref p] ∧ (SqL K H p ys ∨ SqT K H p ys) ∧ Q (.int ys.length) H) := h ▸ call_len_seq
theorem kListOf (h : X.K = K := by rfl) : CallR X (.type "list") (fun xs H Q => ∃ p ys, xs = [.ref p] ∧ (SqL K H p ys ∨ SqT K H p ys) ∧ ∀ l, H l = none → Q (.ref l) (upd H l (.lst ys))) := h ▸ call_list_of
theorem kEqD (hu : X.A.units + 64 < cLine) (h : X.K = K := by rfl) : OpR X (compareOp .Eq) (rEqD K false) := h ▸ op_eqD hu
theorem kNeD (hu : X.A.units + 64 < cLine) (h : X.K = K := by rfl) : OpR X (compareOp .NotEq) (rEqD K true) := h ▸ op_neD hu
theorem kSl (h : X.K = K := by rfl) : SlR X (rSlL K) := h ▸ sl_list
theorem kTup {es : List Expr} {k : Nat} {t : TGs} {n : Nat} {pos : Pos} (hc : X.calm = true) (h : PGs X es t) (hK : X.K = K := by rfl)
    (hn : (assignEach es X.env).length = n := by rfl) (hst : (assignEach es X.env).findIdx? (·.1) = none := by rfl) : PG X (.Tuple es k pos) (gTup K n t) := hK ▸ pg_tup hc h hn hst
theorem kList {tg l : Expr} {tl : TE} (hl : PE X l tl) (h : X.K = K := by rfl) : PI X tg l (iList K tl) := h ▸ pi_list hl
end
end L2
namespace L2
open PySem
/-! ### grids -/
def gStep (r c : Nat) (p : Nat) : List (Int × Int) :=
  (if ((p : Int) + 1) % (c : Int) = 0 then [] else [((p : Int), (p : Int) + 1)]) ++ (if (p : Int) + (c : Int) < (r : Int) * (c : Int) then [((p : Int), (p : Int) + (c : Int))] else [])
def gRoads (r c i : Nat) : List (Int × Int) := (List.range i).flatMap (gStep r c)
def dStep (r c i j : Nat) : List (Int × Int) :=
  (if (j : Int) < (c : Int) - 1 then [((i : Int) * (c : Int) + (j : Int), (i : Int) * (c : Int) + (j : Int) + 1)] else []) ++
  (if (i : Int) < (r : Int) - 1 then [((i : Int) * (c : Int) + (j : Int), ((i : Int) + 1) * (c : Int) + (j : Int))] else [])
def dRow (r c i j : Nat) : List (Int × Int) := (List.range j).flatMap (dStep r c i)
def dRoads (r c i : Nat) : List (Int × Int) := (List.range i).flatMap fun k => dRow r c k c
end L2
namespace L2
open PySem PySem.Spec PyProof.Rows
/-- all of a written list -/
def AllP {α : Type} (P : α → Prop) : List α → Prop
  | [] => True
  | x :: r => P x ∧ AllP P r
theorem AllP.mem {α : Type} {P : α → Prop} : ∀ {l : List α}, AllP P l → ∀ x ∈ l, P x
  | _ :: _, h, _, .head _ => h.1
  | _ :: _, h, x, .tail _ m => AllP.mem h.2 x m
/-- a block with free names -/
theorem compScope_free {X : Cx} {scope : Scope} {cl : List (Str × Addr)} {own : List Str} {fr : List (Str × Nat)} (L : List (Str × NameKind)) (hcl : closureFor scope X.env = pure cl) (hL : (relabel scope X.env).names = L)
    (hc : ∀ y ∈ scope.names, y.2 ≠ .cell) (hk : scope.kind = .function) (hn : ∀ y ∈ scope.names, y.2 = .local → scope.names.lookup y.1 = some .local)
    (hcs : AllP (fun p => X.env.cells.lookup p.1 = some p.2) cl) (hall : AllP (fun p => (p.2 = .cell ∨ p.2 = .free) → ∃ c, cl.lookup p.1 = some c) L)
    (hfr : AllP (fun p => X.N[p.2]? = some p.1 ∧ (X.env.kindOf p.1 = some .cell ∨ X.env.kindOf p.1 = some .free) ∧ (L.lookup p.1 = some .cell ∨ L.lookup p.1 = some .free)) fr) : CompScope X scope cl own fr :=
  ⟨hcl, hc, hk, hn, fun y c h => hcs.mem (y, c) (PySem.mem_of_lookup h), fun y h => by
    rw [hL] at h
    rcases h with h | h
    · exact hall.mem _ (PySem.mem_of_lookup h) (.inl rfl)
    · exact hall.mem _ (PySem.mem_of_lookup h) (.inr rfl), fun p hp => by
    rw [hL]
    exact hfr.mem p hp⟩
theorem no_cf {k : NameKind} {P : Prop} (h : k = .cell ∨ k = .free) (h1 : (k == .cell) = false := by rfl) (h2 : (k == .free) = false := by rfl) : P := by
  rcases h with z | z
  · subst z; exact absurd h1 (by decide)
  · subst z; exact absurd h2 (by decide)
theorem boot_min : bootBuiltins "min" = some (.builtin "min") := by first | rfl | decide +kernel

/-! ### webs -/
def GoodWeb (n : Int) (rs : List (Int × Int)) : Prop := 1 ≤ n ∧ n ≤ 16 ∧ rs.length ≤ 30 ∧ (∀ p ∈ rs, 0 ≤ p.1 ∧ p.1 < p.2 ∧ p.2 < n) ∧ rs.Nodup
instance (n : Int) (rs : List (Int × Int)) : Decidable (GoodWeb n rs) := by unfold GoodWeb; infer_instance
/-- from H0 to H all stands but the deck at d, which is one still -/
structure Dk (H0 H : Hp) (d : Addr) : Prop where
  keep : ∀ b o, b ≠ d → H0 b = some o → H b = some o
  at_ : ∃ n : Int, H d = some (.lst [.int n])
section
variable {H0 H H' : Hp} {d p : Addr} {o : HO}
end
theorem Prs.get {H : Hp} : ∀ {xs : List V} {rs : List (Int × Int)}, Prs H xs rs → ∀ {i : Nat} {x : V}, xs[i]? = some x → ∃ t r, x = .ref t ∧ H t = some (.tup [.int r.1, .int r.2]) ∧ rs[i]? = some r
  | _, _, .nil, _, _, h => by simp at h
  | _, _, .cons (a := a) (b := b) e _, 0, _, h => by
    simp at h
    subst h
    exact ⟨_, (a, b), rfl, e, rfl⟩
  | _, _, .cons _ r, i + 1, x, h => by
    obtain ⟨t, q, h1, h2, h3⟩ := Prs.get r (i := i) (x := x) (by simpa using h)
    exact ⟨t, q, h1, h2, by simpa using h3⟩
end L2
namespace L2
open PySem PySem.Spec PyProof.Rows
section
variable {X : Cx} (K : PySem.W.Frag)
/-- sorted(xs), xs a list of less than 64 ints -/
def rSorted : List V → Hp → VK → Prop := fun xs H Q => ∃ (p : Addr) (ns : List Int), xs = [.ref p] ∧ SqL K H p (ns.map V.int) ∧ ns.length < 64 ∧ ∀ (l : Addr) (ns' : List Int), H l = none → ns'.Perm ns → ns'.Pairwise (· ≤ ·) → Q (.ref l) (upd H l (.lst (ns'.map V.int)))
end
section
variable {X : Cx}
end
section
variable {X : Cx}
end
theorem cut_from {xs : List V} {k : Nat} : cutV xs (some (k : Int)) none = xs.drop k := by
  unfold cutV
  rw [HT.sIx_none, HT.sIx_nat]
  by_cases h : k ≤ xs.length
  · rw [Nat.min_eq_left h, List.take_of_length_le (by rw [List.length_drop]; exact Nat.le_refl _)]
  · rw [Nat.min_eq_right (by omega), List.drop_length, List.drop_of_length_le (by omega), List.take_nil]
theorem ints_can : ∀ ns : List Int, PyData.canLayAll0 (ns.map PyData.int) = true
  | [] => by simp [PyData.canLayAll0]
  | n :: ns => by
    rw [List.map_cons]
    simp [PyData.canLayAll0, PyData.canLay0, ints_can ns]
theorem ints_depth : ∀ ns : List Int, PyData.depthAll (ns.map PyData.int) ≤ 1
  | [] => by simp [PyData.depthAll]
  | n :: ns => by
    have ih := ints_depth ns
    rw [List.map_cons]
    simp only [PyData.depthAll, PyData.depth]
    omega
theorem ints_shaped (ns : List Int) : SeqAt.shaped (.list (ns.map PyData.int)) = true := by
  unfold SeqAt.shaped
  rw [Bool.and_eq_true]
  have := ints_depth ns
  refine ⟨by simp only [PyData.canLay0]; exact ints_can ns, decide_eq_true ?_⟩
  simp only [PyData.depth]
  omega
end L2
namespace L2
open PySem PySem.Spec PyProof.Rows
/-! ### an exception passes on through a frame -/
/-! ### x in a list or tuple of data -/
section
variable {X : Cx}
def rInD (K : PySem.W.Frag) (neg : Bool) : R2 := fun x y H Q => ∃ p xs d ds, y = .ref p ∧ (SqL K H p xs ∨ SqT K H p xs) ∧ DatV K H x d ∧ DatVs K H xs ds ∧ SeqAt.shaped d = true ∧ (∀ e ∈ ds, SeqAt.shaped e = true) ∧ Q (.bl (neg != ds.any fun e => PyData.eqv e d)) H
open Classical in
/-- the data read at a value -/
noncomputable def datAt (h : Heap) (u : Value) : PyData := if q : ∃ d as, Reads h u d as ∧ SeqAt.shaped d = true then choose q else .none
theorem datAt_eq {h : Heap} {u : Value} {d : PyData} {as : List Addr} (r : Reads h u d as) (hs : SeqAt.shaped d = true) : datAt h u = d := by
  have q : ∃ d as, Reads h u d as ∧ SeqAt.shaped d = true := ⟨d, as, r, hs⟩
  unfold datAt
  rw [dif_pos q]
  obtain ⟨as', r', s'⟩ := Classical.choose_spec q
  exact SeqAt.Reads.unique _ _ _ _ _ (SeqAt.canLay_of_shaped s') r' r
theorem datsAt {h : Heap} : ∀ {us : List Value} {ds : List PyData} {as : List Addr}, ReadsAll h us ds as → (∀ e ∈ ds, SeqAt.shaped e = true) → (∀ u ∈ us, ∃ as', Reads h u (datAt h u) as' ∧ SeqAt.shaped (datAt h u) = true) ∧ us.map (datAt h) = ds
  | _, _, _, .nil, _ => ⟨fun u hu => by simp at hu, rfl⟩
  | _, _, _, .cons r rs, hs => by
    obtain ⟨i1, i2⟩ := datsAt rs fun e he => hs e (List.mem_cons_of_mem _ he)
    have h0 := hs _ (List.mem_cons_self ..)
    have e0 := datAt_eq r h0
    refine ⟨fun u hu => ?_, by rw [List.map_cons, e0, i2]⟩
    rcases List.mem_cons.mp hu with rfl | hu
    · rw [e0]; exact ⟨_, r, h0⟩
    · exact i1 u hu
theorem any_dats {h : Heap} {us : List Value} {ds : List PyData} {d : PyData} (e : us.map (datAt h) = ds) : us.any (fun u => PyData.eqv (datAt h u) d) = ds.any fun e => PyData.eqv e d := by
  rw [← e, List.any_map]
  rfl
theorem op_inD {neg : Bool} {c : CmpOp} (hc : (neg = false ∧ c = .In) ∨ (neg = true ∧ c = .NotIn)) (hu : X.A.units + 65 < cLine) : OpR X (compareOp c) (rInD X.K neg) := by
  intro pins s σ H x y v u Q I rx ry h
  obtain ⟨p, xs, d, ds, rfl, hq, hd, hds, sd, sds, q⟩ := h
  cases ry
  obtain ⟨as, ra⟩ := hd.reads I rx
  have hu1 : X.A.in1.units + 64 < cLine := by rw [Around.in1_units]; omega
  have key : ∀ its : List Value, Vals xs its → (∀ w ∈ its, SeqAt.EqAt X.A.in1 s w v (PyData.eqv (datAt s.heap w) d)) ∧ its.toArray.any (fun w => PyData.eqv (datAt s.heap w) d) = ds.any fun e => PyData.eqv e d := fun its r => by
    obtain ⟨bs, rb⟩ := hds.reads I r
    obtain ⟨k1, k2⟩ := datsAt rb sds
    refine ⟨fun w hw => ?_, ?_⟩
    · obtain ⟨as', r', s'⟩ := k1 w hw
      exact PySem.W.keq_at r' ra s' sd hu1
    · rw [List.any_toArray]
      exact any_dats k2
  rcases hq with hq | hq
  · obtain ⟨its, r, pl, hz⟩ := I.list hq
    obtain ⟨k1, k2⟩ := key its r
    rcases hc with ⟨rfl, rfl⟩ | ⟨rfl, rfl⟩
    · refine SeqAt.in_listAt (fun w => PyData.eqv (datAt s.heap w) d) pl.isList (fun w hw => k1 w (by simpa using hw)) ⟨.bl _, H, I, rfl, ?_⟩
      rw [k2]; simpa using q
    · refine SeqAt.notIn_listAt (fun w => PyData.eqv (datAt s.heap w) d) pl.isList (fun w hw => k1 w (by simpa using hw)) ⟨.bl _, H, I, rfl, ?_⟩
      rw [k2]; simpa using q
  · obtain ⟨its, r, pl, hz⟩ := I.tuple hq
    obtain ⟨k1, k2⟩ := key its r
    rcases hc with ⟨rfl, rfl⟩ | ⟨rfl, rfl⟩
    · refine SeqAt.in_tupleAt (fun w => PyData.eqv (datAt s.heap w) d) pl (fun w hw => k1 w (by simpa using hw)) ⟨.bl _, H, I, rfl, ?_⟩
      rw [k2]; simpa using q
    · refine SeqAt.notIn_tupleAt (fun w => PyData.eqv (datAt s.heap w) d) pl (fun w hw => k1 w (by simpa using hw)) ⟨.bl _, H, I, rfl, ?_⟩
      rw [k2]; simpa using q
theorem kNotInD (K : PySem.W.Frag) (hu : X.A.units + 65 < cLine) (h : X.K = K := by rfl) : OpR X (compareOp .NotIn) (rInD K true) := h ▸ op_inD (.inr ⟨rfl, rfl⟩) hu

/-- a pair among pairs -/
theorem prs_any (rs : List (Int × Int)) (q : Int × Int) : (rs.map prD).any (fun e => PyData.eqv e (prD q)) = decide (q ∈ rs) := by
  induction rs with
  | nil => rfl
  | cons r rs ih =>
    rw [List.map_cons, List.any_cons, ih, prD_eqv]
    by_cases h1 : r = q
    · subst h1; simp
    · have h2 : ¬ q = r := fun z => h1 z.symm
      simp [h1, h2]
theorem prD_shaped (r : Int × Int) : SeqAt.shaped (prD r) = true := by
  unfold SeqAt.shaped prD
  simp [PyData.canLay0, PyData.canLayAll0, PyData.depth, PyData.depthAll]
theorem prs_each (rs : List (Int × Int)) : ∀ e ∈ rs.map prD, SeqAt.shaped e = true := fun e he => by
  obtain ⟨r, _, rfl⟩ := List.mem_map.mp he
  exact prD_shaped r

/-! ### list.insert(0, x) -/
def rInsert0 : V → List V → Hp → VK → Prop := fun x vs H Q => ∃ l xs y, x = .ref l ∧ vs = [.int 0, y] ∧ H l = some (.lst xs) ∧ xs.length < sizeLine ∧ Q .non (upd H l (.lst (y :: xs)))
end
end L2
namespace L2
open PySem PySem.Spec PyProof.Rows
section
variable {X : Cx}
/-! ### list.insert(k, x) -/
def rInsert : V → List V → Hp → VK → Prop := fun x vs H Q => ∃ l xs i y, x = .ref l ∧ vs = [.int i, y] ∧ H l = some (.lst xs) ∧ 0 ≤ i ∧ i ≤ xs.length ∧ xs.length < sizeLine ∧ Q .non (upd H l (.lst (xs.take i.toNat ++ y :: xs.drop i.toNat)))
/-! ### enumerate(list) -/
def Ite (K : PySem.W.Frag) (a : Addr) : It :=
  ⟨fun i H => ∃ xs x, SqL K H a xs ∧ xs[i]? = some x, fun i H x H' => ∃ T y, x = .ref T ∧ H T = none ∧ H' = upd H T (.tup [.int (i : Nat), y]) ∧ ∀ xs, SqL K H a xs → xs[i]? = some y, fun i H => ∃ xs, SqL K H a xs ∧ xs.length ≤ i⟩
def iEnum (K : PySem.W.Frag) (ta : TA) : TI := fun σ H R => ta σ H fun vs H1 => ∃ a xs, vs = [.ref a] ∧ SqL K H1 a xs ∧ R (Ite K a) H1
end
/-! ### try: a body of calls -/
abbrev TB := Ends → (St → XK) → St → Hp → Prop
/-- a try's body: what it comes to, and where an exception of a callee flies -/
def PB (X : Cx) (body : List Stmt) (tb : TB) : Prop := ∀ (pins : List (Addr × Obj)) (s : Shared) (σ : St) (H : Hp) (D : Ends) (Eσ : St → XK) (QQ : Flow → Shared → Prop) (EE : Value → Shared → Prop), Inv X pins σ H s → tb D Eσ σ H →
  (∀ fl s', SP X pins D fl s' → QQ fl s') → (∀ σ1 ev H1 s1 s', Inv X pins σ1 H1 s1 → CXr X.prog X.w X.stack H1 s1 (Eσ σ1) ev s' → EE ev s') → wpAny (model X.prog X.w) X.A (execs body X.env) QQ EE s
section
variable {X : Cx} {k : Nat} {f : Addr} {fd : FuncData} {ps : List Str} {sp : Sp} {dvs : List V} {ds : List Value} {fx : Str} {fp cpos bpos np hpos pos : Pos} {e : Expr} {es : List Expr} {t : TA}
end
end L2
namespace L2
open PySem PySem.Spec PyProof.Rows
section
variable {X : Cx} {a b c d : Expr} {ta tb tc td : TE} {pos : Pos}
/-! ### a op b op c op d -/
def tChain3 (r1 r2 r3 : R2) (ta tb tc td : TE) : TE := fun σ H Q => ta σ H fun x H1 => tb σ H1 fun y H2 => r1 x y H2 fun z H3 => ∃ k, z = .bl k ∧
  (if k = true then tc σ H3 fun w' H4 => r2 y w' H4 fun z' H5 => ∃ k', z' = .bl k' ∧ (if k' = true then td σ H5 fun u' H6 => r3 w' u' H6 Q else Q (.bl false) H5) else Q (.bl false) H3)
theorem pe_chain3 {o1 o2 o3 : CmpOp} {r1 r2 r3 : R2} (h1 : OpR X (compareOp o1) r1) (h2 : OpR X (compareOp o2) r2) (h3 : OpR X (compareOp o3) r3) (ha : PE X a ta) (hb : PE X b tb) (hc : PE X c tc) (hd : PE X d td)
    (hm : lastMarks [o1, o2, o3] [b, c, d] = false := by with_unfolding_all rfl) : PE X (.Compare a [o1, o2, o3] [b, c, d] pos) (tChain3 r1 r2 r3 ta tb tc td) := by
  intro pins s σ H Q I h
  refine Compare_chain (thn (ha pins s σ H _ I h) fun v s1 ⟨x, H1, I1, q1r, q1⟩ => chain_link (thn (hb pins s1 σ H1 _ I1 q1) fun u s2 ⟨y, H2, I2, q2r, q2⟩ =>
    thn (h1 pins s2 σ H2 x y v u _ I2 q1r q2r q2) fun d' s3 ⟨z, H3, I3, r3', k, e, q3⟩ => ?_)) hm
  subst e
  cases r3'
  refine wpAny_truthy_bool ?_
  cases k with
  | false => exact ite_ff ⟨.bl false, H3, I3, rfl, q3⟩
  | true =>
    refine ite_tt (chain_link (thn (hc pins s3 σ H3 _ I3 q3) fun w' s4 ⟨z', H4, I4, r4, q4⟩ => thn (h2 pins s4 σ H4 y z' u w' _ I4 q2r r4 q4) fun d2 s5 ⟨z2, H5, I5, r5, k2, e2, q5⟩ => ?_))
    subst e2
    cases r5
    refine wpAny_truthy_bool ?_
    cases k2 with
    | false => exact ite_ff ⟨.bl false, H5, I5, rfl, q5⟩
    | true => exact ite_tt (chain_last (thn (hd pins s5 σ H5 _ I5 q5) fun w2 s6 ⟨z3, H6, I6, r6, q6⟩ => h3 pins s6 σ H6 z' z3 w' w2 Q I6 r4 r6 q6))

/-! ### all(list of truths) -/
theorem boot_all : bootBuiltins "all" = some (.builtin "all") := by first | rfl | decide +kernel
theorem boot_set : bootBuiltins "set" = some (.type "set") := by first | rfl | decide +kernel
theorem vals_bool : ∀ {bs : List Bool} {us : List Value}, Vals (bs.map V.bl) us → us = bs.map Value.bool
  | [], _, .nil => rfl
  | b :: bs, _, .cons r t => by rw [List.map_cons, ← vals_bool t]; cases r; rfl
theorem all_range (bs : List Bool) : (List.range bs.length).all (fun i => bs.getD i false) = bs.all id := by
  induction bs with
  | nil => rfl
  | cons b bs ih =>
    rw [List.length_cons, List.range_succ_eq_map, List.all_cons, List.all_map, List.all_cons]
    show (b && _) = (b && _)
    congr 1
theorem kAll (K : PySem.W.Frag) (hc : X.calm = true) (h : X.K = K := by rfl) : CallR X (.builtin "all") (fun xs H Q => ∃ (p : Addr) (bs : List Bool), xs = [.ref p] ∧ SqL K H p (bs.map V.bl) ∧ Q (.bl (bs.all id)) H) := by
  subst h
  intro pins s σ H xs us Q I rv h
  obtain ⟨p, bs, rfl, hq, q⟩ := h
  obtain ⟨u, rfl, ru⟩ := rv.one
  cases ru
  obtain ⟨its, r, pl, hz⟩ := I.list hq
  have e := vals_bool r
  have hh : X.A.in1.handled = none := I.ok.hd hc
  obtain ⟨o, eo, _⟩ := id pl.isList
  have hlt : p < s.heap.objs.size := Heap.lt_size eo
  refine call_all_walk (wpAny_pyIter_list pl.isList ?_)
  refine ⟨s.heap.objs.size, _, _, _, _, _, fun i => bs.getD i false, rfl, Walks.list hh s.heap.objs.size p (Nat.ne_of_lt hlt) its.toArray, ⟨⟨_, Heap.get?_push_size _ rfl, rfl, rfl⟩, pl.isList.at fun o e => Heap.get?_push_of_some _ e⟩, ?_, fun h' tk hk => ?_⟩
  · intro i v s' Q' E' hv hq'
    have hv' : its[i]? = some v := by simpa using hv
    rw [e, List.getElem?_map] at hv'
    cases z : bs[i]? with
    | none => rw [z] at hv'; cases hv'
    | some b =>
      rw [z] at hv'
      cases hv'
      have eb : bs.getD i false = b := by rw [List.getD_eq_getElem?_getD, z]; rfl
      exact wpAny_truthy_bool (by rw [← eb]; exact hq')
  · have hl : its.toArray.size = bs.length := by rw [List.size_toArray, e, List.length_map]
    have I1 : Inv X pins σ H { s with heap := s.heap.push { cls := .type "list_iterator", data := .fields #[.ref p, .int 0 0] } } := I.kept (t' := s.toks) fun b o e => Heap.get?_push_of_some _ e
    refine ⟨.bl _, H, I.kept fun b o e' => hk b o ?_ (Heap.get?_push_of_some _ e'), ?_, q⟩
    · intro z
      have : b = s.heap.objs.size := by simpa using z
      exact absurd (Heap.lt_size e') (by rw [this]; exact Nat.lt_irrefl _)
    · show Value.bool _ = Value.bool _
      rw [hl, all_range]

/-! ### set(list of ints), len of it -/
end
end L2
namespace L2
open PySem PySem.Spec PyProof.Rows
/-! ### lists of pairs as tables -/
section
variable {κ : Type} [DecidableEq κ]
def valV (kvs : List (κ × V)) (k : κ) : Option V := (kvs.find? fun kv => decide (kv.1 = k)).map (·.2)
/-- in its place, or at the end -/
def putK (kvs : List (κ × V)) (k : κ) (v : V) : List (κ × V) :=
  if (kvs.any fun kv => decide (kv.1 = k)) = true then kvs.map (fun kv => if kv.1 = k then (kv.1, v) else kv) else kvs ++ [(k, v)]
def dropK (kvs : List (κ × V)) (k : κ) : List (κ × V) := kvs.filter fun kv => decide (kv.1 ≠ k)

end


/-! ### a tracked dict, its keys ints and texts or tuples of these -/
/-- raw entries of a dict with tuple keys -/
abbrev KT (H : Hp) : List (List Key × V) → List (List Key × Addr × Value) → Prop := Paired fun p q => p.1 = q.1 ∧ H q.2.1 = some (.tup (p.1.map kV)) ∧ RelV p.2 q.2.2
section
variable {P : Program} {w : World} {H : Hp} {h : Heap} {a : Addr}
end

/-- what the dict at a holds at the key y -/
def DGet (H : Hp) (a : Addr) (y : V) (r : Option V) : Prop :=
  (∃ kvs k, Rd H a (.dK kvs) ∧ y = kV k ∧ r = valV kvs k) ∨ ∃ kvs k b, Rd H a (.dT kvs) ∧ y = .ref b ∧ H b = some (.tup (k.map kV)) ∧ r = valV kvs k
/-- the heap behind a[y] = v -/
def DPut (H : Hp) (a : Addr) (y v : V) (H' : Hp) : Prop :=
  (∃ kvs k, H a = some (.dK kvs) ∧ y = kV k ∧ kvs.length < sizeLine ∧ H' = upd H a (.dK (putK kvs k v))) ∨
  ∃ kvs k b, H a = some (.dT kvs) ∧ y = .ref b ∧ H b = some (.tup (k.map kV)) ∧ kvs.length < sizeLine ∧ H' = upd H a (.dT (putK kvs k v))
section
variable {X : Cx} {pins : List (Addr × Obj)} {σ : St} {H : Hp} {s : Shared} {a : Addr} {y v : V} {u r : Value} {o : Option V} {A : Around} {E : Value → Shared → Prop}

end

section
variable {X : Cx} {pins : List (Addr × Obj)} {σ : St} {H : Hp} {s : Shared} {a : Addr} {kvs : List (Key × V)} {k : Key} {u : Value} {A : Around} {E : Value → Shared → Prop}
end


/-! ### readings and rules -/
/-- the element of a subscription, not a slice -/
def NoSl (i : Expr) : Prop := ∀ ov iv, subscripted i false ov iv = operate [ov, iv] (getItem ov iv)
/-- d[y] -/
def tDGet (td ty : TE) : TE := fun σ H Q => td σ H fun x H1 => ty σ H1 fun y H2 => ∃ a v, x = .ref a ∧ DGet H2 a y (some v) ∧ Q v H2
/-- y in d, y not in d -/
def tDIn (ty td : TE) : TE := fun σ H Q => ty σ H fun y H1 => td σ H1 fun x H2 => ∃ a o, x = .ref a ∧ DGet H2 a y o ∧ Q (.bl o.isSome) H2
def tDNotIn (ty td : TE) : TE := fun σ H Q => ty σ H fun y H1 => td σ H1 fun x H2 => ∃ a o, x = .ref a ∧ DGet H2 a y o ∧ Q (.bl (!o.isSome)) H2
/-- d[y] = v -/
def sDPut (td ty tv : TE) : TS := fun D σ H => tv σ H fun v H1 => td σ H1 fun x H2 => ty σ H2 fun y H3 => ∃ a H4, x = .ref a ∧ DPut H3 a y v H4 ∧ D.nx σ H4
/-- d[y] op= v -/
def sDAug (td ty tv : TE) (rd : V → V → Hp → VK → Prop) : TS := fun D σ H => td σ H fun x H1 => ty σ H1 fun y H2 => ∃ a v, x = .ref a ∧ DGet H2 a y (some v) ∧
  tv σ H2 fun y2 H3 => rd v y2 H3 fun z H4 => ∃ H5, DPut H4 a y z H5 ∧ D.nx σ H5
/-- del d[y] -/
def sDDel (td ty : TE) : TS := fun D σ H => td σ H fun x H1 => ty σ H1 fun y H2 => ∃ a kvs k, x = .ref a ∧ H2 a = some (.dK kvs) ∧ y = kV k ∧ (valV kvs k).isSome = true ∧ D.nx σ (upd H2 a (.dK (dropK kvs k)))

section
variable {X : Cx} {o i e value : Expr} {pos pos' tpos : Pos} {td ty tv : TE}
end


/-! ### displays -/
/-- {}, to be a dict of the kind that is wanted -/
def tDNewK : TE := fun _ H Q => ∀ p, H p = none → Q (.ref p) (upd H p (.dK []))
def tDNewT : TE := fun _ H Q => ∀ p, H p = none → Q (.ref p) (upd H p (.dT []))
section
variable {X : Cx} {pos : Pos}
end

/-- the pairs of a display, from the left -/
def tPairs : List (TE × TE) → St → Hp → (List (V × V) → Hp → Prop) → Prop
  | [], _, H, Q => Q [] H
  | (tk, tv) :: r, σ, H, Q => tk σ H fun x H1 => tv σ H1 fun y H2 => tPairs r σ H2 fun ps H3 => Q ((x, y) :: ps) H3
abbrev VV : List (V × V) → List (Value × Value) → Prop := Paired fun p q => RelV p.1 q.1 ∧ RelV p.2 q.2
def PPs (X : Cx) (pos : Pos) (keys : List (Option Expr)) (values : List Expr) (trs : List (TE × TE)) : Prop :=
  ∀ (pins : List (Addr × Obj)) (s : Shared) (σ : St) (H : Hp) (Q : List (V × V) → Hp → Prop), Inv X pins σ H s → tPairs trs σ H Q →
    wpAny (model X.prog X.w) X.A (evalPairs (pairTrees keys values X.env pos)) (fun vs s' => ∃ ps H', Inv X pins σ H' s' ∧ VV ps vs ∧ Q ps H') X.xe s
def mergeK (kvs more : List (Key × V)) : List (Key × V) := more.foldl (fun acc kv => putK acc kv.1 kv.2) kvs
/-- {k: v, ..} with keys ints and texts; the new dict stands empty while the pairs are made -/
def tDisp (trs : List (TE × TE)) : TE := fun σ H Q => ∀ p, H p = none → tPairs trs σ (upd H p (.dK [])) fun ps H2 => H2 p = some (.dK []) ∧ ∃ kvs : List (Key × V), ps = kvs.map (fun kv => (kV kv.1, kv.2)) ∧ kvs.length ≤ 15 ∧ Q (.ref p) (upd H2 p (.dK (mergeK [] kvs)))
/-! ### methods -/
/-- a method call o.m(e) of a built-in, with one argument: what must be seen of the text -/
structure M1 (X : Cx) (o : Expr) (m : Str) (apos : Pos) (e : Expr) (cpos : Pos) : Prop where
  base : attributeBase o m X.env (eval o X.env) = eval o X.env
  few : ((backTo cpos (starEach [e] X.env)).all (fun x => !x.1) && (backToKw cpos (keywordEach [] X.env)).all (fun x => x.1.isSome)
    && decide (([e] : List Expr).length + ([] : List Keyword).length + (if ([] : List Keyword).isEmpty then 0 else 1) < 30)) = true
  line : (apos.endLine == cpos.line) = true
  trees : backTo cpos (starEach [e] X.env) = [(false, eval e X.env)]
structure M2 (X : Cx) (o : Expr) (m : Str) (apos : Pos) (e f : Expr) (cpos : Pos) : Prop where
  base : attributeBase o m X.env (eval o X.env) = eval o X.env
  few : ((backTo cpos (starEach [e, f] X.env)).all (fun x => !x.1) && (backToKw cpos (keywordEach [] X.env)).all (fun x => x.1.isSome)
    && decide (([e, f] : List Expr).length + ([] : List Keyword).length + (if ([] : List Keyword).isEmpty then 0 else 1) < 30)) = true
  line : (apos.endLine == cpos.line) = true
  trees : backTo cpos (starEach [e, f] X.env) = [(false, eval e X.env), (false, eval f X.env)]

/-- a is a dict, whatever its keys -/
def IsD (H : Hp) (a : Addr) : Prop := (∃ kvs, Rd H a (.dK kvs)) ∨ ∃ kvs, Rd H a (.dT kvs)
section
variable {X : Cx} {pins : List (Addr × Obj)} {σ : St} {H : Hp} {s : Shared} {a : Addr} {y d : V} {u r : Value} {o : Option V} {A : Around} {E : Value → Shared → Prop}
end

def tDGet1 (td ty : TE) : TE := fun σ H Q => td σ H fun x H1 => ∃ a, x = .ref a ∧ IsD H1 a ∧ ty σ H1 fun y H2 => ∃ o, DGet H2 a y o ∧ Q (o.getD .non) H2
def tDGet2 (td ty tx : TE) : TE := fun σ H Q => td σ H fun x H1 => ∃ a, x = .ref a ∧ IsD H1 a ∧ ty σ H1 fun y H2 => tx σ H2 fun z H3 => ∃ o, DGet H3 a y o ∧ Q (o.getD z) H3
/-- d.pop(k): there; d.pop(k, x): there or not -/
def tDPop1 (td ty : TE) : TE := fun σ H Q => td σ H fun x H1 => ∃ a, x = .ref a ∧ IsD H1 a ∧ ty σ H1 fun y H2 => ∃ kvs k v, H2 a = some (.dK kvs) ∧ y = kV k ∧ valV kvs k = some v ∧ Q v (upd H2 a (.dK (dropK kvs k)))
def tDPop2 (td ty tx : TE) : TE := fun σ H Q => td σ H fun x H1 => ∃ a, x = .ref a ∧ IsD H1 a ∧ ty σ H1 fun y H2 => tx σ H2 fun z H3 => ∃ kvs k, H3 a = some (.dK kvs) ∧ y = kV k ∧
  (∀ v, valV kvs k = some v → Q v (upd H3 a (.dK (dropK kvs k)))) ∧ (valV kvs k = none → Q z H3)
section
variable {X : Cx} {o e f : Expr} {apos cpos : Pos} {td ty tx : TE}
end

/-! ### dict(d): a copy -/
section
variable {X : Cx} {pins : List (Addr × Obj)} {σ : St} {H : Hp} {s : Shared} {a : Addr} {kvs : List (Key × V)} {A : Around} {E : Value → Shared → Prop}
end


section
variable {X : Cx} {pins : List (Addr × Obj)} {σ : St} {H : Hp} {s : Shared} {a : Addr} {y : V} {u : Value} {A : Around} {E : Value → Shared → Prop}
end
end L2
namespace L2
open PySem PySem.Spec PyProof.Rows
section
variable {X : Cx}
/-! ### list.index(n) of a list of ints -/
def rIndex : V → List V → Hp → VK → Prop := fun x vs H Q => ∃ (l : Addr) (ns : List Int) (i : Int), x = .ref l ∧ vs = [.int i] ∧ H l = some (.lst (ns.map V.int)) ∧ i ∈ ns ∧ Q (.int ((ns.idxOf i : Nat) : Int)) H
end
end L2
namespace L2
open PySem PySem.Spec PyProof.Rows
/-! ### zip whose tuple is handed out and kept -/
abbrev IsZipH (h : Heap) (z TI TO : Addr) (f0 : Value) (f1 : Bool) : Prop :=
  h.get? z = some { cls := .type "zip", dict := none, data := .fields #[f0, .bool f1, .bool false, .ref TI, .ref TO], slots := #[] }
section
variable {prog : Program} {w : World} {A : Around} {E : Value → Shared → Prop} {s : Shared}
/-- a zip behind i items -/
def ZipSt (z TI TO i1 i2 l1 l2 : Addr) (xs ys : Array Value) (i : Nat) (h : Heap) : Prop :=
  ((IsZip h z TI TO .none ∧ ∃ a b, IsPair h TO a b) ∨ ∃ (T : Addr) (f1 : Bool) (o : Obj), IsZipH h z TI TO (rawInt T) f1 ∧ h.get? T = some o ∧ T ≠ z ∧ T ≠ i1 ∧ T ≠ i2) ∧ IsPair h TI (.ref i1) (.ref i2) ∧ h.IsListIter i1 l1 i ∧ h.IsListIter i2 l2 i ∧ h.IsList l1 xs ∧ h.IsList l2 ys
end
end L2
namespace L2
open PySem PySem.Spec PyProof.Rows
/-- what list(zip(..)) has laid behind i items -/
def ZL (P : Program) (w : World) (H0 : Hp) (h0 : Heap) (z TO i1 i2 S : Addr) (ns ms : List Int) (i : Nat) (h : Heap) (acc : Array Value) : Prop :=
  ∃ (Hj : Hp) (vs : List V), Same H0 Hj ∧ (∀ b o, Hj b = some o → H0 b = none → h0.objs.size ≤ b) ∧ (Hj z = none ∧ Hj TO = none ∧ Hj i1 = none ∧ Hj i2 = none ∧ Hj S = none) ∧ HOk P w Hj h ∧ Vals vs acc.toList ∧ Prs Hj vs ((ns.zip ms).take i) ∧
    (∀ b o, h0.get? b = some o → h.get? b = some o) ∧ h0.objs.size ≤ h.objs.size
section
variable {P : Program} {w : World} {H0 : Hp} {h0 : Heap} {z TO i1 i2 S : Addr} {ns ms : List Int} {i : Nat} {h h' : Heap} {acc : Array Value}
end
namespace ZF
end ZF
section
variable {prog : Program} {w : World} {A : Around} {s : Shared} {R : Result → Shared → Prop}
end
section
variable {prog : Program} {w : World} {A : Around} {E : Value → Shared → Prop} {s : Shared}
end
/-! ### list(zip(a, b)), a and b lists of ints -/
section
variable {X : Cx}
def tListZip (K : PySem.W.Frag) (ta : TA) : TE := fun σ H Q => ta σ H fun vs H1 => ∃ (l1 l2 : Addr) (ns ms : List Int), vs = [.ref l1, .ref l2] ∧ SqL K H1 l1 (ns.map V.int) ∧ SqL K H1 l2 (ms.map V.int) ∧ ns.length ≤ 1000 ∧
  ∀ (S : Addr) (ws : List V) (H' : Hp), Same H1 H' → H1 S = none → H' S = some (.lst ws) → Prs H' ws (ns.zip ms) → Q (.ref S) H'
end
end L2
namespace L2
open PySem PySem.Spec PyProof.Rows
/-! ### min(list of ints) -/
section
variable {X : Cx}
end
/-! ### for over enumerate -/
/-! ### range(a, b, -1) -/
def ItrD (lo : Int) (n : Nat) : It := ⟨fun i _ => i < n, fun i H x H' => H' = H ∧ x = .int (lo - i), fun i _ => n ≤ i⟩
section
variable {X : Cx} {tg : Expr}
def iRngD (ta : TA) : TI := fun σ H R => ta σ H fun vs H1 => ∃ i j : Int, vs = [.int i, .int j, .int (-1)] ∧ (-1000 ≤ i ∧ i < 1000 ∧ -1000 ≤ j ∧ j < 1000) ∧ R (ItrD i (i - j).toNat) H1
end
/-! ### xs[::-1], xs[:0:-1] -/
section
variable {X : Cx}
def revV (hi : Option Int) (xs : List V) : List V := match hi with
  | none => xs.reverse
  | some _ => (xs.drop 1).reverse
def tSlR (K : PySem.W.Frag) (te : TE) (th : TO) : TE := fun σ H Q => te σ H fun x H1 => th σ H1 fun u H2 => ∃ a xs, x = .ref a ∧ SqL K H2 a xs ∧ (u = none ∨ u = some 0) ∧ ∀ p, H2 p = none → Q (.ref p) (upd H2 p (.lst (revV u xs)))
end
end L2
namespace L2
open PySem PySem.Spec PyProof.Rows
/-! ### abs -/
/-! ### a def with defaults: dV is its tuple of them -/
structure FunD (K : PySem.W.Frag) (x qual : Str) (st : Stmt) (dV : Value) (f : Addr) (fd : FuncData) : Prop where
  ex : ∃ (oc : Value) (od : Option Addr) (kV doc pm : Value) (an : Option Addr) (cdv ct : Value) (osl : Array (Option Value)),
    fd = PySem.W.fnOf x qual (defArgs st) (defBody st) (defScope st) dV kV doc pm an cdv ct ∧ K.lookup f = some ⟨oc, od, .func fd, osl⟩ ∧ PySem.W.codeIn K cdv qual = true
  kp : PySem.W.keepIn K (.ref f) = true
section
variable {P : Program} {w : World} {K : PySem.W.Frag} {mg : Str → Option Value} {base : Heap}
end
end L2
namespace L2
open PySem PySem.Spec PyProof.Rows
/-! ### sorted(dict whose keys are ints) -/
end L2
namespace L2
open PySem
/-! ### the places that a search in a set's table goes over -/
def itf (M : Nat) : Nat → Nat → Nat
  | 0, x => x
  | k + 1, x => itf M k ((x * 5 + 1) % M)
theorem itf_add (M : Nat) : ∀ (a b x : Nat), itf M (a + b) x = itf M b (itf M a x)
  | 0, b, x => by rw [Nat.zero_add]; rfl
  | a + 1, b, x => by rw [Nat.add_right_comm]; exact itf_add M a b _
def orb (M : Nat) : Nat → Nat → List Nat
  | 0, _ => []
  | n + 1, x => x :: orb M n ((x * 5 + 1) % M)
theorem mem_orb {M y : Nat} : ∀ {n x : Nat}, y ∈ orb M n x → ∃ k, k < n ∧ itf M k x = y
  | 0, x, h => by simp [orb] at h
  | n + 1, x, h => by
    rcases List.mem_cons.mp h with e | e
    · exact ⟨0, by omega, e.symm⟩
    · obtain ⟨k, h1, h2⟩ := mem_orb e
      exact ⟨k + 1, by omega, h2⟩
def covB (M : Nat) : Bool := (List.range M).all (fun j => (orb M M 0).contains j) && itf M M 0 == 0
theorem cov8 : covB 8 = true := by decide +kernel
theorem cov32 : covB 32 = true := by decide +kernel
theorem cov128 : covB 128 = true := by decide +kernel
theorem covered {M i j : Nat} (h : covB M = true) (hi : i < M) (hj : j < M) : ∃ k, k < M ∧ itf M k i = j := by
  unfold covB at h
  rw [Bool.and_eq_true, beq_iff_eq, List.all_eq_true] at h
  obtain ⟨h1, h2⟩ := h
  obtain ⟨a, ha, ea⟩ := mem_orb (List.contains_iff_mem.mp (h1 i (List.mem_range.mpr hi)))
  obtain ⟨b, hb, eb⟩ := mem_orb (List.contains_iff_mem.mp (h1 j (List.mem_range.mpr hj)))
  by_cases hab : a ≤ b
  · refine ⟨b - a, by omega, ?_⟩
    rw [← ea, ← itf_add, Nat.add_sub_cancel' hab]
    exact eb
  · refine ⟨b + M - a, by omega, ?_⟩
    rw [← ea, ← itf_add, show a + (b + M - a) = M + b by omega, itf_add, h2]
    exact eb

def adv (mask : Nat) (p : SetTable.Probe) : SetTable.Probe :=
  if p.more > 0 then { p with j := p.j + 1, more := p.more - 1 }
  else { p with j := (SetTable.leap mask p.i p.perturb).1, more := SetTable.runEnd mask (SetTable.leap mask p.i p.perturb).1 - (SetTable.leap mask p.i p.perturb).1, i := (SetTable.leap mask p.i p.perturb).1, perturb := (SetTable.leap mask p.i p.perturb).2 }
theorem adv_eq (t : SetTable) (p : SetTable.Probe) : t.advance p = adv t.mask p := rfl
def advs (mask : Nat) : Nat → SetTable.Probe → SetTable.Probe
  | 0, p => p
  | n + 1, p => advs mask n (adv mask p)
theorem advs_add (mask : Nat) : ∀ (a b : Nat) (p : SetTable.Probe), advs mask (a + b) p = advs mask b (advs mask a p)
  | 0, b, p => by rw [Nat.zero_add]; rfl
  | a + 1, b, p => by rw [Nat.add_right_comm]; exact advs_add mask a b _
theorem advs_last (mask n : Nat) (p : SetTable.Probe) : advs mask (n + 1) p = adv mask (advs mask n p) := advs_add mask n 1 p
theorem adv_dummy (mask : Nat) (p : SetTable.Probe) : (adv mask p).dummy = p.dummy := by
  unfold adv; split <;> rfl
theorem advs_dummy (mask : Nat) : ∀ (n : Nat) (p : SetTable.Probe), (advs mask n p).dummy = p.dummy
  | 0, _ => rfl
  | n + 1, p => (advs_dummy mask n (adv mask p)).trans (adv_dummy mask p)
def rs (mask i pt : Nat) : SetTable.Probe := { j := i, more := SetTable.runEnd mask i - i, i := i, perturb := pt, dummy := none }
def st0 (mask : Nat) (h : Int) : SetTable.Probe := rs mask (SetTable.bits h % (mask + 1)) (SetTable.bits h)
theorem st0_eq (t : SetTable) (h : Int) : t.probeStart h = st0 t.mask h := rfl
theorem runEnd_le {mask i : Nat} (h : i ≤ mask) : SetTable.runEnd mask i ≤ mask := by
  unfold SetTable.runEnd; split <;> omega
theorem runEnd_few (mask i : Nat) : SetTable.runEnd mask i - i ≤ 9 := by
  unfold SetTable.runEnd; split <;> omega
theorem runEnd_ge (mask i : Nat) : i ≤ SetTable.runEnd mask i := by
  unfold SetTable.runEnd; split <;> omega
theorem advs_run (mask i pt : Nat) : ∀ k, k ≤ SetTable.runEnd mask i - i → advs mask k (rs mask i pt) = { j := i + k, more := SetTable.runEnd mask i - i - k, i := i, perturb := pt, dummy := none }
  | 0, _ => rfl
  | k + 1, h => by
    rw [advs_last, advs_run mask i pt k (by omega)]
    unfold adv
    rw [if_pos (by show SetTable.runEnd mask i - i - k > 0; omega)]
    show SetTable.Probe.mk _ _ _ _ _ = _
    congr 1
theorem advs_leap (mask i pt : Nat) : advs mask (SetTable.runEnd mask i - i + 1) (rs mask i pt) = rs mask (SetTable.leap mask i pt).1 (SetTable.leap mask i pt).2 := by
  rw [advs_last, advs_run mask i pt _ (Nat.le_refl _)]
  unfold adv
  rw [if_neg (by show ¬ (SetTable.runEnd mask i - i - (SetTable.runEnd mask i - i) > 0); omega)]
  rfl
theorem mod_le (x mask : Nat) : x % (mask + 1) ≤ mask := Nat.le_of_lt_succ (Nat.mod_lt _ (Nat.succ_pos _))
def lps (mask : Nat) : Nat → Nat × Nat → Nat × Nat
  | 0, x => x
  | m + 1, x => lps mask m (SetTable.leap mask x.1 x.2)
theorem lps_add (mask : Nat) : ∀ (a b : Nat) (x : Nat × Nat), lps mask (a + b) x = lps mask b (lps mask a x)
  | 0, b, x => by rw [Nat.zero_add]; rfl
  | a + 1, b, x => by rw [Nat.add_right_comm]; exact lps_add mask a b _
theorem lps_advs (mask : Nat) : ∀ (m : Nat) (x : Nat × Nat), ∃ n, n ≤ 10 * m ∧ advs mask n (rs mask x.1 x.2) = rs mask (lps mask m x).1 (lps mask m x).2
  | 0, x => ⟨0, Nat.le_refl _, rfl⟩
  | m + 1, x => by
    obtain ⟨n, h1, h2⟩ := lps_advs mask m (SetTable.leap mask x.1 x.2)
    refine ⟨SetTable.runEnd mask x.1 - x.1 + 1 + n, ?_, ?_⟩
    · have := runEnd_few mask x.1
      omega
    · rw [advs_add, advs_leap]
      exact h2
theorem lps_calm (mask : Nat) : ∀ (m i : Nat), lps mask m (i, 0) = (itf (mask + 1) m i, 0)
  | 0, i => rfl
  | m + 1, i => by
    show lps mask m (SetTable.leap mask i 0) = _
    have e : SetTable.leap mask i 0 = ((i * 5 + 1) % (mask + 1), 0) := by unfold SetTable.leap; simp
    rw [e]
    exact lps_calm mask m _
theorem lps_pert (mask : Nat) : ∀ (m i b : Nat), (lps mask m (i, b)).2 = b / 32 ^ m
  | 0, i, b => by simp [lps]
  | m + 1, i, b => by
    show (lps mask m (SetTable.leap mask i b)).2 = _
    have e : SetTable.leap mask i b = ((SetTable.leap mask i b).1, b / 32) := rfl
    rw [e, lps_pert mask m _ _, Nat.div_div_eq_div_mul, Nat.pow_succ, Nat.mul_comm]
theorem lps_le (mask : Nat) : ∀ (m i b : Nat), i ≤ mask → (lps mask m (i, b)).1 ≤ mask
  | 0, i, b, h => h
  | m + 1, i, b, h => lps_le mask m _ _ (mod_le _ _)
theorem bits_lt (h : Int) : SetTable.bits h < 2 ^ 64 := by
  unfold SetTable.bits
  have h1 := Int.emod_nonneg h (show (2 ^ 64 : Int) ≠ 0 by decide)
  have h2 := Int.emod_lt_of_pos h (show (0 : Int) < 2 ^ 64 by decide)
  omega
theorem lps_cover {mask j : Nat} (hc : covB (mask + 1) = true) (h : Int) (hj : j ≤ mask) : ∃ m, m < mask + 14 ∧ (lps mask m (SetTable.bits h % (mask + 1), SetTable.bits h)).1 = j := by
  have hb := bits_lt h
  generalize SetTable.bits h = b at hb ⊢
  have h13 : (lps mask 13 (b % (mask + 1), b)).2 = 0 := by
    rw [lps_pert]
    exact Nat.div_eq_of_lt (Nat.lt_trans hb (by decide))
  have hi : (lps mask 13 (b % (mask + 1), b)).1 ≤ mask := lps_le mask 13 _ _ (mod_le _ _)
  obtain ⟨k, hk, ek⟩ := covered hc (Nat.lt_succ_of_le hi) (Nat.lt_succ_of_le hj)
  refine ⟨13 + k, by omega, ?_⟩
  rw [lps_add]
  have e : lps mask 13 (b % (mask + 1), b) = ((lps mask 13 (b % (mask + 1), b)).1, 0) := by rw [← h13]
  rw [e, lps_calm]
  exact ek
theorem reach_all {mask j : Nat} (hc : covB (mask + 1) = true) (h : Int) (hj : j ≤ mask) : ∃ n, n + 10 < 10 * SetTable.turns mask ∧ (advs mask n (st0 mask h)).j = j := by
  obtain ⟨m, hm, em⟩ := lps_cover hc h hj
  obtain ⟨n, hn, en⟩ := lps_advs mask m (SetTable.bits h % (mask + 1), SetTable.bits h)
  refine ⟨n, by unfold SetTable.turns; omega, ?_⟩
  show (advs mask n (rs mask _ _)).j = j
  rw [en]
  exact em
theorem adv_le {mask : Nat} {p : SetTable.Probe} (h : p.j + p.more ≤ mask) : (adv mask p).j + (adv mask p).more ≤ mask := by
  unfold adv
  split
  · show p.j + 1 + (p.more - 1) ≤ mask
    omega
  · have h1 : (SetTable.leap mask p.i p.perturb).1 ≤ mask := mod_le _ _
    have h2 := runEnd_le h1
    have h3 := runEnd_ge mask (SetTable.leap mask p.i p.perturb).1
    show (SetTable.leap mask p.i p.perturb).1 + (SetTable.runEnd mask (SetTable.leap mask p.i p.perturb).1 - (SetTable.leap mask p.i p.perturb).1) ≤ mask
    omega
theorem advs_le {mask : Nat} : ∀ {n : Nat} {p : SetTable.Probe}, p.j + p.more ≤ mask → (advs mask n p).j + (advs mask n p).more ≤ mask
  | 0, _, h => h
  | n + 1, p, h => advs_le (n := n) (adv_le h)
theorem st0_le (mask : Nat) (h : Int) : (st0 mask h).j + (st0 mask h).more ≤ mask := by
  have h1 : SetTable.bits h % (mask + 1) ≤ mask := mod_le _ _
  have h2 := runEnd_le h1
  have h3 := runEnd_ge mask (SetTable.bits h % (mask + 1))
  show SetTable.bits h % (mask + 1) + (SetTable.runEnd mask (SetTable.bits h % (mask + 1)) - SetTable.bits h % (mask + 1)) ≤ mask
  omega
theorem seq_le (mask n : Nat) (h : Int) : (advs mask n (st0 mask h)).j ≤ mask := by
  have := advs_le (n := n) (st0_le mask h)
  omega

/-! ### where a number stands in a rising row -/
def Rise (xs : Array Nat) : Prop := xs.toList.Pairwise (· < ·)
theorem Rise.lt {xs : Array Nat} (h : Rise xs) {q r a b : Nat} (hqr : q < r) (ha : xs[q]? = some a) (hb : xs[r]? = some b) : a < b := by
  rw [← Array.getElem?_toList] at ha hb
  obtain ⟨h1, e1⟩ := List.getElem?_eq_some_iff.mp ha
  obtain ⟨h2, e2⟩ := List.getElem?_eq_some_iff.mp hb
  have := List.pairwise_iff_getElem.mp h q r h1 h2 hqr
  rw [e1, e2] at this
  exact this
theorem below_go {xs : Array Nat} {j : Nat} (hr : Rise xs) : ∀ (fuel lo hi : Nat), hi - lo ≤ fuel → lo ≤ hi → hi ≤ xs.size →
    (∀ q a, q < lo → xs[q]? = some a → a < j) → (∀ q a, hi ≤ q → xs[q]? = some a → j ≤ a) →
    SetTable.below.go xs j fuel lo hi ≤ xs.size ∧ (∀ q a, q < SetTable.below.go xs j fuel lo hi → xs[q]? = some a → a < j) ∧ (∀ q a, SetTable.below.go xs j fuel lo hi ≤ q → xs[q]? = some a → j ≤ a)
  | 0, lo, hi, h0, h1, h2, hl, hh => by
    have e : hi = lo := by omega
    subst e
    exact ⟨h2, hl, hh⟩
  | fuel + 1, lo, hi, h0, h1, h2, hl, hh => by
    unfold SetTable.below.go
    by_cases hlt : lo < hi
    · rw [if_pos hlt]
      have hm : (lo + hi) / 2 < xs.size := by omega
      have em : xs[(lo + hi) / 2]? = some xs[(lo + hi) / 2] := Array.getElem?_eq_getElem hm
      have ed : xs.getD ((lo + hi) / 2) j = xs[(lo + hi) / 2] := by
        rw [Array.getD_eq_getD_getElem?, em]; rfl
      dsimp only
      rw [ed]
      by_cases hc : xs[(lo + hi) / 2] < j
      · rw [if_pos hc]
        refine below_go hr fuel _ _ (by omega) (by omega) h2 (fun q a hq ha => ?_) hh
        by_cases hq' : q = (lo + hi) / 2
        · rw [hq', em] at ha; cases ha; exact hc
        · exact Nat.lt_trans (hr.lt (by omega) ha em) hc
      · rw [if_neg hc]
        refine below_go hr fuel _ _ (by omega) (by omega) (by omega) hl (fun q a hq ha => ?_)
        by_cases hq' : q = (lo + hi) / 2
        · rw [hq', em] at ha; cases ha; omega
        · have := hr.lt (show (lo + hi) / 2 < q by omega) em ha
          omega
    · rw [if_neg hlt]
      have e : hi = lo := by omega
      subst e
      exact ⟨h2, hl, hh⟩
theorem below_spec {xs : Array Nat} {j : Nat} (hr : Rise xs) : SetTable.below xs j ≤ xs.size ∧ (∀ q a, q < SetTable.below xs j → xs[q]? = some a → a < j) ∧ (∀ q a, SetTable.below xs j ≤ q → xs[q]? = some a → j ≤ a) := by
  unfold SetTable.below
  refine below_go hr xs.size 0 xs.size (by omega) (by omega) (Nat.le_refl _) (fun q a hq => absurd hq (Nat.not_lt_zero _)) fun q a hq ha => ?_
  rw [Array.getElem?_eq_none hq] at ha; cases ha
theorem below_at {xs : Array Nat} {i j : Nat} (hr : Rise xs) (h : xs[i]? = some j) : SetTable.below xs j = i := by
  obtain ⟨h1, h2, h3⟩ := below_spec (j := j) hr
  rcases Nat.lt_trichotomy (SetTable.below xs j) i with z | z | z
  · have hs : SetTable.below xs j < xs.size := by
      have := (Array.getElem?_eq_some_iff.mp h).1
      omega
    have := hr.lt z (Array.getElem?_eq_getElem hs) h
    have := h3 _ _ (Nat.le_refl _) (Array.getElem?_eq_getElem hs)
    omega
  · exact z
  · have := h2 i j z h
    omega
theorem slot_cases (t : SetTable) (hr : Rise t.place) (hd : t.dummies = #[]) (j : Nat) : (t.slot j = .empty ∧ j ∉ t.place.toList) ∨ ∃ i, t.slot j = .live i ∧ t.place[i]? = some j := by
  unfold SetTable.slot
  dsimp only
  by_cases h : t.place[SetTable.below t.place j]? = some j
  · refine .inr ⟨SetTable.below t.place j, ?_, h⟩
    rw [if_pos (by rw [h]; exact beq_self_eq_true _)]
  · refine .inl ⟨?_, fun hm => ?_⟩
    · rw [if_neg (by rw [beq_iff_eq]; exact h), hd]
      have e : SetTable.has #[] j = false := by unfold SetTable.has; simp
      rw [e]
      rfl
    · obtain ⟨i, hi, e⟩ := List.getElem_of_mem hm
      have e' : t.place[i]? = some j := by
        rw [← Array.getElem?_toList, List.getElem?_eq_getElem hi, e]
      rw [below_at hr e'] at h
      exact h e'
theorem slot_live (t : SetTable) (hr : Rise t.place) {i j : Nat} (h : t.place[i]? = some j) : t.slot j = .live i := by
  unfold SetTable.slot
  dsimp only
  rw [below_at hr h, if_pos (by rw [h]; exact beq_self_eq_true _)]
theorem mem_place {xs : Array Nat} {i j : Nat} (h : xs[i]? = some j) : j ∈ xs.toList := by
  rw [← Array.getElem?_toList] at h
  exact List.mem_of_getElem? h

/-! ### a search -/
section
variable {t : SetTable} {ha : Nat → Int} {h : Int}
theorem go_spec (hr : Rise t.place) (hd : t.dummies = #[]) : ∀ (F : Nat) (p : SetTable.Probe), (∃ n, n < F ∧ (advs t.mask n p).j ∉ t.place.toList) →
    (∃ n, SetTable.probe.go t ha h F p = some (.empty (advs t.mask n p).j p.dummy) ∧ (advs t.mask n p).j ∉ t.place.toList ∧ ∀ q, q < n → ∃ i, t.place[i]? = some (advs t.mask q p).j ∧ ha i ≠ h) ∨
    (∃ n i, SetTable.probe.go t ha h F p = some (.candidate (advs t.mask n p).j i (advs t.mask (n + 1) p)) ∧ t.place[i]? = some (advs t.mask n p).j ∧ ha i = h ∧ ∀ q, q < n → ∃ i, t.place[i]? = some (advs t.mask q p).j ∧ ha i ≠ h)
  | 0, p, ⟨n, hn, _⟩ => absurd hn (Nat.not_lt_zero _)
  | F + 1, p, ⟨n, hn, hf⟩ => by
    rcases slot_cases t hr hd p.j with ⟨e, hm⟩ | ⟨i, e, hi⟩
    · refine .inl ⟨0, ?_, hm, fun q hq => absurd hq (Nat.not_lt_zero _)⟩
      unfold SetTable.probe.go
      rw [e]
      rfl
    · by_cases hh : ha i = h
      · refine .inr ⟨0, i, ?_, hi, hh, fun q hq => absurd hq (Nat.not_lt_zero _)⟩
        unfold SetTable.probe.go
        rw [e]
        dsimp only
        rw [if_pos (by rw [hh]; exact beq_self_eq_true _), adv_eq]
        rfl
      · have hs : SetTable.probe.go t ha h (F + 1) p = SetTable.probe.go t ha h F (adv t.mask p) := by
          rw [SetTable.probe.go, e]
          dsimp only
          rw [if_neg (by rw [beq_iff_eq]; exact hh), adv_eq]
        cases n with
        | zero => exact absurd (mem_place hi) hf
        | succ n =>
          rw [hs]
          rcases go_spec hr hd F (adv t.mask p) ⟨n, by omega, hf⟩ with ⟨m, g1, g2, g3⟩ | ⟨m, i', g1, g2, g3, g4⟩
          · refine .inl ⟨m + 1, ?_, g2, fun q hq => ?_⟩
            · rw [g1, adv_dummy]; rfl
            · cases q with
              | zero => exact ⟨i, hi, hh⟩
              | succ q => exact g3 q (by omega)
          · refine .inr ⟨m + 1, i', g1, g2, g3, fun q hq => ?_⟩
            cases q with
            | zero => exact ⟨i, hi, hh⟩
            | succ q => exact g4 q (by omega)
/-- some place is free -/
theorem free_place {mask : Nat} {l : List Nat} (h : l.length ≤ mask) : ∃ j, j ≤ mask ∧ j ∉ l := by
  apply Classical.byContradiction
  intro hn
  have hs : List.range (mask + 1) ⊆ l := fun j hj => Classical.byContradiction fun hm => hn ⟨j, by have := List.mem_range.mp hj; omega, hm⟩
  have := List.Nodup.length_le_of_subset List.nodup_range hs
  rw [List.length_range] at this
  omega
end
end L2
namespace L2
open PySem
/-! ### a table laid anew -/
theorem isN {ow : Array (Option Nat)} {x : Nat} (hx : x < ow.size) : (ow.getD x (some 0)).isNone = true ↔ ow[x]? = some none := by
  rw [Array.getD_eq_getD_getElem?, Array.getElem?_eq_getElem hx]
  show ow[x].isNone = true ↔ some ow[x] = some none
  cases ow[x] <;> simp
theorem free_spec {mask : Nat} {ow : Array (Option Nat)} (hz : ow.size = mask + 1) : ∀ (F i pt : Nat), i ≤ mask →
    (∃ m, m < F ∧ ow[(lps mask m (i, pt)).1]? = some none) →
    ∃ n, SetTable.layClean.free mask ow F i pt = some (advs mask n (rs mask i pt)).j ∧ ow[(advs mask n (rs mask i pt)).j]? = some none ∧ ∀ q, q < n → ow[(advs mask q (rs mask i pt)).j]? ≠ some none
  | 0, i, pt, _, ⟨m, hm, _⟩ => absurd hm (Nat.not_lt_zero _)
  | F + 1, i, pt, hi, ⟨m, hm, em⟩ => by
    have hre := runEnd_le hi
    have hrg := runEnd_ge mask i
    unfold SetTable.layClean.free
    cases hf : List.find? (fun k => (ow.getD (i + k) (some 0)).isNone) (List.range (SetTable.runEnd mask i + 1 - i)) with
    | some k =>
      obtain ⟨p1, p2, p3⟩ := List.find?_range_eq_some.mp hf
      have hk := List.mem_range.mp p2
      refine ⟨k, ?_, ?_, fun q hq => ?_⟩
      · rw [advs_run mask i pt k (by omega)]
      · rw [advs_run mask i pt k (by omega)]
        show ow[i + k]? = some none
        exact (isN (by omega)).mp p1
      · rw [advs_run mask i pt q (by omega)]
        show ow[i + q]? ≠ some none
        intro z
        have h1 := p3 q hq
        rw [(isN (by omega)).mpr z] at h1
        cases h1
    | none =>
      have hall := List.find?_eq_none.mp hf
      have hno : ∀ q, q ≤ SetTable.runEnd mask i - i → ow[i + q]? ≠ some none := fun q hq z => hall q (List.mem_range.mpr (by omega)) ((isN (by omega)).mpr z)
      cases m with
      | zero => exact absurd em (hno 0 (Nat.zero_le _))
      | succ m =>
        obtain ⟨n, g1, g2, g3⟩ := free_spec hz F (SetTable.leap mask i pt).1 (SetTable.leap mask i pt).2 (mod_le _ _) ⟨m, by omega, em⟩
        refine ⟨SetTable.runEnd mask i - i + 1 + n, ?_, ?_, fun q hq => ?_⟩
        · rw [advs_add, advs_leap]
          exact g1
        · rw [advs_add, advs_leap]
          exact g2
        · by_cases hq' : q ≤ SetTable.runEnd mask i - i
          · rw [advs_run mask i pt q hq']
            exact hno q hq'
          · have e : q = SetTable.runEnd mask i - i + 1 + (q - (SetTable.runEnd mask i - i + 1)) := by omega
            rw [e, advs_add, advs_leap]
            exact g3 _ (by omega)

def lcStep (mask : Nat) (acc : Option (Array (Option Nat) × Nat)) (h : Int) : Option (Array (Option Nat) × Nat) :=
  acc.bind fun x => (SetTable.layClean.free mask x.1 (SetTable.turns mask) (SetTable.bits h % (mask + 1)) (SetTable.bits h)).bind fun j => some (x.1.setIfInBounds j (some x.2), x.2 + 1)
theorem layClean_fold (mask : Nat) (hashes : Array Int) : SetTable.layClean mask hashes = (hashes.toList.foldl (lcStep mask) (some (Array.replicate (mask + 1) none, 0))).map (·.1) := by
  unfold SetTable.layClean
  rw [Array.foldl_toList]
  rfl
structure Lc (mask : Nat) (ow : Array (Option Nat)) (js : List Nat) (hs : List Int) : Prop where
  sz : ow.size = mask + 1
  len : js.length = hs.length
  at_ : ∀ (q j : Nat), js[q]? = some j ↔ ow[j]? = some (some q)
  rch : ∀ (q : Nat) (h : Int) (j : Nat), hs[q]? = some h → js[q]? = some j → ∃ n, (advs mask n (st0 mask h)).j = j ∧ ∀ r, r < n → ow[(advs mask r (st0 mask h)).j]? ≠ some none
theorem Lc.nil (mask : Nat) : Lc mask (Array.replicate (mask + 1) none) [] [] :=
  ⟨Array.size_replicate, rfl, fun q j => ⟨fun z => by simp at z, fun z => by
    rw [Array.getElem?_replicate] at z
    split at z <;> simp at z⟩, fun q h j z => by simp at z⟩
theorem Lc.step {mask : Nat} {ow : Array (Option Nat)} {js : List Nat} {hs : List Int} (L : Lc mask ow js hs) (hc : covB (mask + 1) = true) (hl : hs.length ≤ mask) (h : Int) :
    ∃ j, lcStep mask (some (ow, hs.length)) h = some (ow.setIfInBounds j (some hs.length), hs.length + 1) ∧ Lc mask (ow.setIfInBounds j (some hs.length)) (js ++ [j]) (hs ++ [h]) := by
  have hjl := L.len
  obtain ⟨j0, hj0, hn0⟩ := free_place (mask := mask) (l := js) (by omega)
  have e0 : ow[j0]? = some none := by
    have hs0 : j0 < ow.size := by rw [L.sz]; omega
    rw [Array.getElem?_eq_getElem hs0]
    cases q : ow[j0] with
    | none => rfl
    | some k =>
      exact absurd (List.mem_of_getElem? ((L.at_ k j0).mpr (by rw [Array.getElem?_eq_getElem hs0, q]))) hn0
  obtain ⟨m, hm, em⟩ := lps_cover hc h hj0
  obtain ⟨n, g1, g2, g3⟩ := free_spec L.sz (SetTable.turns mask) (SetTable.bits h % (mask + 1)) (SetTable.bits h) (mod_le _ _) ⟨m, by unfold SetTable.turns; omega, by rw [em]; exact e0⟩
  have est : rs mask (SetTable.bits h % (mask + 1)) (SetTable.bits h) = st0 mask h := rfl
  rw [est] at g1 g2 g3
  have hjlt : (advs mask n (st0 mask h)).j < ow.size := by rw [L.sz]; have := seq_le mask n h; omega
  refine ⟨(advs mask n (st0 mask h)).j, ?_, ?_⟩
  · unfold lcStep
    rw [Option.bind_some, g1]
    rfl
  · generalize hj : (advs mask n (st0 mask h)).j = j at g2 hjlt ⊢
    have hget : ∀ x, (ow.setIfInBounds j (some hs.length))[x]? = if j = x then some (some hs.length) else ow[x]? := fun x => by
      rw [Array.getElem?_setIfInBounds, if_pos hjlt]
    have hjs : j ∉ js := fun hm => by
      obtain ⟨q, hq, e⟩ := List.getElem_of_mem hm
      have := (L.at_ q j).mp (by rw [List.getElem?_eq_getElem hq, e])
      rw [g2] at this; cases this
    have occ : ∀ x, ow[x]? ≠ some none → (ow.setIfInBounds j (some hs.length))[x]? ≠ some none := fun x hx => by
      rw [hget]
      split
      · simp
      · exact hx
    refine ⟨by rw [Array.size_setIfInBounds]; exact L.sz, by simp [hjl], fun q x => ?_, fun q g x e1 e2 => ?_⟩
    · rw [hget]
      by_cases hq : q < js.length
      · rw [List.getElem?_append_left hq]
        by_cases hx : j = x
        · rw [if_pos hx]
          constructor
          · intro z
            exact absurd (hx ▸ List.mem_of_getElem? z) hjs
          · intro z
            have : hs.length = q := by simpa using z
            omega
        · rw [if_neg hx]
          exact L.at_ q x
      · rw [List.getElem?_append_right (by omega)]
        by_cases hx : j = x
        · rw [if_pos hx]
          by_cases hq' : q = js.length
          · subst hq'
            simp [hx, hjl]
          · constructor
            · intro z
              have : ([j] : List Nat)[q - js.length]? = none := List.getElem?_eq_none (by simp; omega)
              rw [this] at z; cases z
            · intro z
              have : hs.length = q := by simpa using z
              omega
        · rw [if_neg hx]
          constructor
          · intro z
            have := List.mem_of_getElem? z
            simp at this
            exact absurd this.symm hx
          · intro z
            have := (L.at_ q x).mpr z
            rw [List.getElem?_eq_none (by omega)] at this
            cases this
    · by_cases hq : q < hs.length
      · rw [List.getElem?_append_left hq] at e1
        rw [List.getElem?_append_left (by omega)] at e2
        obtain ⟨n', r1, r2⟩ := L.rch q g x e1 e2
        exact ⟨n', r1, fun r hr => occ _ (r2 r hr)⟩
      · rw [List.getElem?_append_right (by omega)] at e1 e2
        have h1 := List.mem_of_getElem? e1
        have h2 := List.mem_of_getElem? e2
        simp at h1 h2
        subst h1 h2
        exact ⟨n, hj, fun r hr => occ _ (g3 r hr)⟩
theorem lc_fold {mask : Nat} (hc : covB (mask + 1) = true) : ∀ (rest : List Int) (ow : Array (Option Nat)) (js : List Nat) (hs : List Int), Lc mask ow js hs → hs.length + rest.length ≤ mask →
    ∃ ow' js', rest.foldl (lcStep mask) (some (ow, hs.length)) = some (ow', (hs ++ rest).length) ∧ Lc mask ow' js' (hs ++ rest)
  | [], ow, js, hs, L, _ => ⟨ow, js, by simp, by simpa using L⟩
  | h :: rest, ow, js, hs, L, hl => by
    rw [List.length_cons] at hl
    obtain ⟨j, e, L'⟩ := L.step hc (by omega) h
    obtain ⟨ow', js', e', L''⟩ := lc_fold hc rest _ _ (hs ++ [h]) L' (by simp; omega)
    refine ⟨ow', js', ?_, by simpa using L''⟩
    rw [List.foldl_cons, e]
    have hlen : (hs ++ [h]).length = hs.length + 1 := by simp
    rw [hlen] at e'
    rw [e']
    simp
theorem filterMap_at {α β : Type} (f : α → Option β) : ∀ (l : List α), (∀ x ∈ l, (f x).isSome = true) → ∀ r : Nat, (l.filterMap f)[r]? = (l[r]?).bind f
  | [], _, r => by simp
  | x :: l, h, r => by
    obtain ⟨y, hy⟩ := Option.isSome_iff_exists.mp (h x (List.mem_cons_self))
    rw [List.filterMap_cons_some hy]
    cases r with
    | zero => simp [hy]
    | succ r =>
      rw [List.getElem?_cons_succ, List.getElem?_cons_succ]
      exact filterMap_at f l (fun z hz => h z (List.mem_cons_of_mem _ hz)) r

/-- what a laying gives -/
structure Laid (t : SetTable) (od : Array Nat) (mask finger moves : Nat) (led plain : Bool) (hashes : Array Int) : Prop where
  tm : t.mask = mask
  tl : t.led = led
  tp : t.plain = plain
  td : t.dummies = #[]
  rise : Rise t.place
  le : ∀ j ∈ t.place.toList, j ≤ mask
  perm : od.toList.Perm (List.range hashes.size)
  sz : t.place.size = hashes.size
  rch : ∀ (r q j : Nat) (h : Int), od[r]? = some q → t.place[r]? = some j → hashes[q]? = some h → ∃ n, (advs mask n (st0 mask h)).j = j ∧ ∀ r', r' < n → (advs mask r' (st0 mask h)).j ∈ t.place.toList
theorem laid_spec {mask : Nat} (hc : covB (mask + 1) = true) (finger moves : Nat) (led plain : Bool) (hashes : Array Int) (hz : hashes.size ≤ mask) :
    ∃ t od, SetTable.laid mask finger moves led plain hashes = some (t, od) ∧ Laid t od mask finger moves led plain hashes := by
  obtain ⟨ow, js, e, L⟩ := lc_fold hc hashes.toList _ [] [] (Lc.nil mask) (by simpa using hz)
  simp only [List.nil_append, List.length_nil] at e L
  have hn : js.length = hashes.size := by rw [L.len, Array.length_toList]
  have e' : SetTable.layClean mask hashes = some ow := by rw [layClean_fold, e]; rfl
  generalize hlive : (List.range (mask + 1)).filterMap (fun j => (ow.getD j none).map (j, ·)) = live
  have mem : ∀ j q, (j, q) ∈ live ↔ j ≤ mask ∧ ow[j]? = some (some q) := by
    intro j q
    rw [← hlive, List.mem_filterMap]
    constructor
    · rintro ⟨a, ha, hb⟩
      have ha' := List.mem_range.mp ha
      have hs' : a < ow.size := by rw [L.sz]; omega
      rw [Array.getD_eq_getD_getElem?, Array.getElem?_eq_getElem hs'] at hb
      cases hq : ow[a] with
      | none => rw [hq] at hb; cases hb
      | some k =>
        rw [hq] at hb
        have hb' : (a, k) = (j, q) := Option.some.inj hb
        cases hb'
        exact ⟨by omega, by rw [Array.getElem?_eq_getElem hs', hq]⟩
    · rintro ⟨h1, h2⟩
      refine ⟨j, List.mem_range.mpr (by omega), ?_⟩
      rw [Array.getD_eq_getD_getElem?, h2]
      rfl
  have pw1 : (live.map (·.1)).Pairwise (· < ·) := by
    rw [List.pairwise_map, ← hlive]
    refine List.Pairwise.filterMap (R := (· < ·)) _ (fun a a' haa b hb b' hb' => ?_) List.pairwise_lt_range
    obtain ⟨x, _, rfl⟩ := Option.map_eq_some_iff.mp hb
    obtain ⟨x', _, rfl⟩ := Option.map_eq_some_iff.mp hb'
    exact haa
  have pw2 : (live.map (·.2)).Nodup := by
    unfold List.Nodup
    rw [List.pairwise_map]
    have := List.Pairwise.and_mem.mp (List.pairwise_map.mp pw1)
    refine this.imp fun {a b} hab z => ?_
    obtain ⟨ha, hb, hlt⟩ := hab
    have h1 := (L.at_ a.2 a.1).mpr ((mem a.1 a.2).mp ha).2
    have h2 := (L.at_ b.2 b.1).mpr ((mem b.1 b.2).mp hb).2
    rw [z, h2] at h1
    have := Option.some.inj h1
    omega
  have hperm : (live.map (·.2)).Perm (List.range hashes.size) := by
    refine (List.perm_ext_iff_of_nodup pw2 List.nodup_range).mpr fun q => ?_
    rw [List.mem_range, List.mem_map]
    constructor
    · rintro ⟨⟨j, q'⟩, hm, rfl⟩
      have h1 := (L.at_ q' j).mpr ((mem j q').mp hm).2
      have := (List.getElem?_eq_some_iff.mp h1).1
      show q' < _
      omega
    · intro hq
      have hq' : q < js.length := by omega
      have h1 := (L.at_ q js[q]).mp (List.getElem?_eq_getElem hq')
      have h2 := (Array.getElem?_eq_some_iff.mp h1).1
      rw [L.sz] at h2
      exact ⟨(js[q], q), (mem _ _).mpr ⟨by omega, h1⟩, rfl⟩
  refine ⟨_, _, by unfold SetTable.laid; rw [e']; rfl, rfl, rfl, rfl, rfl, ?_, ?_, ?_, ?_, ?_⟩
  · unfold Rise
    dsimp only
    rw [hlive]
    exact pw1
  · dsimp only
    rw [hlive]
    intro j hj
    obtain ⟨⟨a, q⟩, hm, rfl⟩ := List.mem_map.mp (show j ∈ live.map (·.1) from hj)
    exact ((mem a q).mp hm).1
  · dsimp only
    rw [hlive]
    exact hperm
  · dsimp only
    rw [hlive, List.size_toArray, List.length_map]
    have := hperm.length_eq
    rw [List.length_map, List.length_range] at this
    exact this
  · dsimp only
    rw [hlive]
    intro r q j h e1 e2 e3
    rw [List.getElem?_toArray, List.getElem?_map] at e1 e2
    cases hl : live[r]? with
    | none => rw [hl] at e1; cases e1
    | some x =>
      rw [hl] at e1 e2
      have e1' : x.2 = q := Option.some.inj e1
      have e2' : x.1 = j := Option.some.inj e2
      subst e1' e2'
      have h1 := (L.at_ x.2 x.1).mpr ((mem x.1 x.2).mp (List.mem_of_getElem? hl)).2
      obtain ⟨n, r1, r2⟩ := L.rch x.2 h x.1 (by rw [Array.getElem?_toList]; exact e3) h1
      refine ⟨n, r1, fun r' hr' => ?_⟩
      have h2 := r2 r' hr'
      have hle := seq_le mask r' h
      have hs' : (advs mask r' (st0 mask h)).j < ow.size := by rw [L.sz]; omega
      rw [Array.getElem?_eq_getElem hs'] at h2
      cases hq : ow[(advs mask r' (st0 mask h)).j] with
      | none => rw [hq] at h2; exact absurd rfl h2
      | some k =>
        show _ ∈ live.map (·.1)
        exact List.mem_map.mpr ⟨(_, k), (mem _ _).mpr ⟨hle, by rw [Array.getElem?_eq_getElem hs', hq]⟩, rfl⟩
end L2
namespace L2
open PySem
def ins {α : Type} (l : List α) (p : Nat) (x : α) : List α := l.take p ++ x :: l.drop p
theorem insL_get {α : Type} {l : List α} {p : Nat} {x : α} (hp : p ≤ l.length) (i : Nat) : (ins l p x)[i]? = if i < p then l[i]? else if i = p then some x else l[i - 1]? := by
  unfold ins
  have hl : (l.take p).length = p := by rw [List.length_take]; omega
  by_cases h : i < p
  · rw [if_pos h, List.getElem?_append_left (by omega), List.getElem?_take, if_pos h]
  · rw [if_neg h, List.getElem?_append_right (by omega), hl]
    by_cases h' : i = p
    · subst h'; simp
    · rw [if_neg h']
      have e : i - p = (i - p - 1) + 1 := by omega
      rw [e, List.getElem?_cons_succ, List.getElem?_drop]
      congr 1
      omega
theorem ins_len {α : Type} {l : List α} {p : Nat} {x : α} (hp : p ≤ l.length) : (ins l p x).length = l.length + 1 := by
  unfold ins
  simp
  omega
theorem ins_map {α β : Type} (f : α → β) (l : List α) (p : Nat) (x : α) : (ins l p x).map f = ins (l.map f) p (f x) := by
  unfold ins
  simp
theorem ins_mem {α : Type} {l : List α} {p : Nat} {x y : α} : y ∈ ins l p x ↔ y = x ∨ y ∈ l := by
  unfold ins
  rw [List.mem_append, List.mem_cons]
  constructor
  · rintro (h | h | h)
    · exact .inr (List.mem_of_mem_take h)
    · exact .inl h
    · exact .inr (List.mem_of_mem_drop h)
  · rintro (h | h)
    · exact .inr (.inl h)
    · rw [← List.take_append_drop p l, List.mem_append] at h
      rcases h with h | h
      · exact .inl h
      · exact .inr (.inr h)

structure TOk (t : SetTable) (hs : List Int) : Prop where
  mask : t.mask = 7 ∨ t.mask = 31 ∨ t.mask = 127
  dum : t.dummies = #[]
  len : t.place.size = hs.length
  rise : Rise t.place
  le : ∀ j ∈ t.place.toList, j ≤ t.mask
  rch : ∀ (i : Nat) (h : Int) (j : Nat), hs[i]? = some h → t.place[i]? = some j → ∃ n, (advs t.mask n (st0 t.mask h)).j = j ∧ ∀ q, q < n → (advs t.mask q (st0 t.mask h)).j ∈ t.place.toList
theorem TOk.cov {t : SetTable} {hs : List Int} (T : TOk t hs) : covB (t.mask + 1) = true := by
  rcases T.mask with e | e | e <;> rw [e]
  · exact cov8
  · exact cov32
  · exact cov128
theorem TOk.fill {t : SetTable} {hs : List Int} (T : TOk t hs) : t.fill = hs.length := by
  unfold SetTable.fill
  rw [T.dum, T.len]
  rfl
theorem TOk.fits {t : SetTable} {hs : List Int} (T : TOk t hs) (h : hs.length ≤ t.mask) : t.fits hs.length = true := by
  unfold SetTable.fits
  rw [Bool.and_eq_true, beq_iff_eq, decide_eq_true_eq, T.fill]
  exact ⟨T.len, h⟩
theorem TOk.odd {t : SetTable} {hs : List Int} (T : TOk t hs) : t.gaveWay = false := by
  unfold SetTable.gaveWay
  rcases T.mask with e | e | e <;> rw [e] <;> rfl
theorem TOk.fresh (f m : Nat) (led : Bool) : TOk (SetTable.fresh f m led) [] :=
  ⟨.inl rfl, rfl, rfl, List.Pairwise.nil, fun j hj => by simp [SetTable.fresh] at hj, fun i h j e => by simp at e⟩
/-- a place for one more -/
theorem TOk.empty {t : SetTable} {hs : List Int} (T : TOk t hs) (hl : hs.length ≤ t.mask) (h : Int) : ∃ n, n + 10 < 10 * SetTable.turns t.mask ∧ (advs t.mask n (st0 t.mask h)).j ∉ t.place.toList := by
  obtain ⟨j, h1, h2⟩ := free_place (mask := t.mask) (l := t.place.toList) (by rw [Array.length_toList, T.len]; exact hl)
  obtain ⟨n, h3, h4⟩ := reach_all T.cov h h1
  exact ⟨n, h3, by rw [h4]; exact h2⟩
theorem put_p {t : SetTable} {j : Nat} : (t.put j).2 = SetTable.below t.place j := rfl
theorem put_place {t : SetTable} {j : Nat} : (t.put j).1.place.toList = ins t.place.toList (SetTable.below t.place j) j := by
  show (SetTable.insertAt t.place (SetTable.below t.place j) j).toList = _
  rw [SetTable.toList_insertAt]
  rfl
theorem TOk.put {t : SetTable} {hs : List Int} (T : TOk t hs) {h : Int} {n : Nat} (hn : (advs t.mask n (st0 t.mask h)).j ∉ t.place.toList) (hr : ∀ q, q < n → (advs t.mask q (st0 t.mask h)).j ∈ t.place.toList) :
    SetTable.below t.place (advs t.mask n (st0 t.mask h)).j ≤ hs.length ∧ TOk (t.put (advs t.mask n (st0 t.mask h)).j).1 (ins hs (SetTable.below t.place (advs t.mask n (st0 t.mask h)).j) h) := by
  have hle := seq_le t.mask n h
  generalize hj : (advs t.mask n (st0 t.mask h)).j = j at hn hle ⊢
  obtain ⟨b1, b2, b3⟩ := below_spec (j := j) T.rise
  have hb : SetTable.below t.place j ≤ hs.length := by rw [← T.len]; exact b1
  have hb' : SetTable.below t.place j ≤ t.place.toList.length := by rw [Array.length_toList]; exact b1
  have pm : ∀ x, x ∈ t.place.toList → x ∈ (t.put j).1.place.toList := fun x hx => by rw [put_place]; exact ins_mem.mpr (.inr hx)
  refine ⟨hb, T.mask, ?_, ?_, ?_, fun x hx => ?_, fun i g x e1 e2 => ?_⟩
  · show (if SetTable.has t.dummies j = true then SetTable.eraseAt t.dummies (SetTable.below t.dummies j) else t.dummies) = #[]
    rw [T.dum]
    have e : SetTable.has #[] j = false := by unfold SetTable.has; simp
    rw [e]
    rfl
  · rw [ins_len hb, ← Array.length_toList, put_place, ins_len hb', Array.length_toList, T.len]
  · unfold Rise
    rw [put_place]
    unfold ins
    rw [List.pairwise_append]
    refine ⟨List.Pairwise.sublist (List.take_sublist _ _) T.rise, ?_, fun a ha b hb2 => ?_⟩
    · refine List.pairwise_cons.mpr ⟨fun b hb2 => ?_, List.Pairwise.sublist (List.drop_sublist _ _) T.rise⟩
      obtain ⟨k, hk, e⟩ := List.getElem_of_mem hb2
      rw [List.getElem_drop] at e
      rw [List.length_drop] at hk
      have e' : t.place[SetTable.below t.place j + k]? = some b := by
        rw [← Array.getElem?_toList, List.getElem?_eq_getElem (by omega), e]
      have h1 := b3 _ _ (Nat.le_add_right _ _) e'
      have h2 : j ≠ b := fun z => hn (z ▸ mem_place e')
      omega
    · have hlt : a < j := by
        obtain ⟨k, hk, e⟩ := List.getElem_of_mem ha
        rw [List.getElem_take] at e
        rw [List.length_take] at hk
        have e' : t.place[k]? = some a := by rw [← Array.getElem?_toList, List.getElem?_eq_getElem (by omega), e]
        exact b2 k a (by omega) e'
      rcases List.mem_cons.mp hb2 with rfl | hb2
      · exact hlt
      · obtain ⟨k, hk, e⟩ := List.getElem_of_mem hb2
        rw [List.getElem_drop] at e
        rw [List.length_drop] at hk
        have e' : t.place[SetTable.below t.place j + k]? = some b := by
          rw [← Array.getElem?_toList, List.getElem?_eq_getElem (by omega), e]
        have h1 := b3 _ _ (Nat.le_add_right _ _) e'
        omega
  · rw [put_place] at hx
    rcases ins_mem.mp hx with rfl | hx
    · exact hle
    · exact T.le x hx
  · rw [← Array.getElem?_toList, put_place, insL_get hb'] at e2
    rw [insL_get hb] at e1
    by_cases c1 : i < SetTable.below t.place j
    · rw [if_pos c1] at e1 e2
      obtain ⟨m, r1, r2⟩ := T.rch i g x e1 (by rw [← Array.getElem?_toList]; exact e2)
      exact ⟨m, r1, fun q hq => pm _ (r2 q hq)⟩
    · rw [if_neg c1] at e1 e2
      by_cases c2 : i = SetTable.below t.place j
      · rw [if_pos c2] at e1 e2
        cases e1
        cases e2
        exact ⟨n, hj, fun q hq => pm _ (hr q hq)⟩
      · rw [if_neg c2] at e1 e2
        obtain ⟨m, r1, r2⟩ := T.rch (i - 1) g x e1 (by rw [← Array.getElem?_toList]; exact e2)
        exact ⟨m, r1, fun q hq => pm _ (r2 q hq)⟩

/-! ### entries and table -/
abbrev hsOf (es : Array (Int × Value)) : List Int := es.toList.map (·.1)
structure SOk (t : SetTable) (es : Array (Int × Value)) : Prop where
  T : TOk t (hsOf es)
  room : es.size * 5 < t.mask * 3
theorem hsOf_len (es : Array (Int × Value)) : (hsOf es).length = es.size := by rw [List.length_map, Array.length_toList]
theorem SOk.le {t : SetTable} {es : Array (Int × Value)} (S : SOk t es) : (hsOf es).length ≤ t.mask := by
  have := S.room
  rw [hsOf_len]
  omega
theorem SOk.fits {t : SetTable} {es : Array (Int × Value)} (S : SOk t es) : t.fits es.size = true := by
  have := S.T.fits S.le
  rw [hsOf_len] at this
  exact this
theorem SOk.fresh (f m : Nat) (led : Bool) : SOk (SetTable.fresh f m led) #[] := ⟨TOk.fresh f m led, by show 0 * 5 < 7 * 3; decide⟩
theorem insertAt_hs (es : Array (Int × Value)) (p : Nat) (h : Int) (x : Value) : hsOf (SetTable.insertAt es p (h, x)) = ins (hsOf es) p h := by
  unfold hsOf
  rw [SetTable.toList_insertAt]
  exact ins_map (·.1) es.toList p (h, x)
theorem insertAt_size (es : Array (Int × Value)) (p : Nat) (x : Int × Value) : (SetTable.insertAt es p x).size = es.size + 1 := by
  rw [← Array.length_toList, (SetTable.insertAt_perm es p x).length_eq, Array.length_toList, Array.size_push]
/-- what one more makes of table and entries, ahead of a laying anew -/
theorem SOk.put {t : SetTable} {es : Array (Int × Value)} (S : SOk t es) {h : Int} {n : Nat} (x : Value) (hn : (advs t.mask n (st0 t.mask h)).j ∉ t.place.toList) (hr : ∀ q, q < n → (advs t.mask q (st0 t.mask h)).j ∈ t.place.toList) :
    TOk (t.put (advs t.mask n (st0 t.mask h)).j).1 (hsOf (SetTable.insertAt es (t.put (advs t.mask n (st0 t.mask h)).j).2 (h, x))) ∧ (t.put (advs t.mask n (st0 t.mask h)).j).1.fits (es.size + 1) = true := by
  obtain ⟨h1, h2⟩ := S.T.put hn hr
  rw [put_p, insertAt_hs]
  refine ⟨h2, ?_⟩
  have h3 := h2.fits (by rw [ins_len h1, hsOf_len]; show es.size + 1 ≤ t.mask; have := S.room; rcases S.T.mask with e | e | e <;> omega)
  rw [ins_len h1, hsOf_len] at h3
  exact h3
theorem filterMap_es {es : Array (Int × Value)} {od : Array Nat} (h : od.toList.Perm (List.range es.size)) (r : Nat) : (od.filterMap (es[·]?))[r]? = (od[r]?).bind (es[·]?) := by
  rw [← Array.getElem?_toList, Array.toList_filterMap, filterMap_at _ _ (fun x hx => ?_), Array.getElem?_toList]
  have := List.mem_range.mp (h.mem_iff.mp hx)
  rw [Array.getElem?_eq_getElem this]
  rfl
theorem filterMap_perm {es : Array (Int × Value)} {od : Array Nat} (h : od.toList.Perm (List.range es.size)) : (od.filterMap (es[·]?)).toList.Perm es.toList := by
  rw [Array.toList_filterMap]
  exact (h.filterMap _).trans (by rw [PySem.filterMap_getElem?_range])
/-- a laying anew, where it is due -/
theorem relay_ok {t : SetTable} {es : Array (Int × Value)} (T : TOk t (hsOf es)) (hn : es.size = 5 ∧ t.mask = 7 ∨ es.size = 19 ∧ t.mask = 31) :
    ∃ t2 od, t.relaid (es.map (·.1)) (SetTable.grown es.size) = some (t2, od) ∧ od.toList.Perm (List.range es.size) ∧ SOk t2 (od.filterMap (es[·]?)) ∧ t2.led = t.led ∧ t2.plain = t.plain ∧ SetTable.sizeAbove (SetTable.grown es.size) ≤ 128 := by
  have hsz : (es.map (·.1)).size = es.size := Array.size_map
  have hm : ∃ m, SetTable.sizeAbove (SetTable.grown es.size) - 1 = m ∧ (m = 31 ∨ m = 127) ∧ es.size * 5 < m * 3 ∧ SetTable.sizeAbove (SetTable.grown es.size) ≤ 128 := by
    rcases hn with ⟨e, _⟩ | ⟨e, _⟩ <;> rw [e]
    · exact ⟨31, by decide, .inl rfl, by decide, by decide⟩
    · exact ⟨127, by decide, .inr rfl, by decide, by decide⟩
  obtain ⟨m, e, hmm, hroom, h128⟩ := hm
  have hc : covB (m + 1) = true := by
    rcases hmm with rfl | rfl
    · exact cov32
    · exact cov128
  obtain ⟨t2, od, e2, L⟩ := laid_spec hc t.finger (t.movedTo m) t.led t.plain (es.map (·.1)) (by rw [hsz]; omega)
  have hp := L.perm
  rw [hsz] at hp
  refine ⟨t2, od, by unfold SetTable.relaid; rw [e]; exact e2, hp, ⟨⟨by rw [L.tm]; exact .inr hmm, L.td, ?_, L.rise, by rw [L.tm]; exact L.le, fun i h j e1 e3 => ?_⟩, ?_⟩, L.tl, L.tp, h128⟩
  · rw [L.sz, hsz, hsOf_len]
    have := (filterMap_perm hp).length_eq
    rw [Array.length_toList, Array.length_toList] at this
    exact this.symm
  · rw [L.tm]
    have e1' : ((od[i]?).bind (es[·]?)).map (·.1) = some h := by
      rw [← filterMap_es hp, ← Array.getElem?_toList, ← List.getElem?_map]
      exact e1
    cases hq : od[i]? with
    | none => rw [hq] at e1'; cases e1'
    | some q =>
      rw [hq] at e1'
      exact L.rch i q j h hq e3 (by rw [Array.getElem?_map]; exact e1')
  · rw [L.tm]
    have := (filterMap_perm hp).length_eq
    rw [Array.length_toList, Array.length_toList] at this
    rw [this]
    exact hroom
theorem full_when {t : SetTable} {es : Array (Int × Value)} (S : SOk t es) (h76 : es.size + 1 ≤ 76) {t1 : SetTable} {hs1 : List Int} (T1 : TOk t1 hs1) (hl : hs1.length = es.size + 1) (hm : t1.mask = t.mask) :
    (t1.tooFull = true ∧ (es.size + 1 = 5 ∧ t1.mask = 7 ∨ es.size + 1 = 19 ∧ t1.mask = 31)) ∨ (t1.tooFull = false ∧ (es.size + 1) * 5 < t1.mask * 3) := by
  have hr := S.room
  have e : t1.tooFull = decide ((es.size + 1) * 5 ≥ t1.mask * 3) := by
    unfold SetTable.tooFull
    rw [T1.fill, hl]
  rw [e]
  by_cases h : (es.size + 1) * 5 ≥ t1.mask * 3
  · refine .inl ⟨decide_eq_true h, ?_⟩
    rcases T1.mask with q | q | q
    · left; omega
    · right; omega
    · omega
  · exact .inr ⟨decide_eq_false h, by omega⟩
end L2
namespace L2
open PySem PySem.Spec PyProof.Rows
/-! ### facts of Python's table -/
end L2
namespace L2
open PySem PySem.Spec PyProof.Rows
def byText (w : World) : Bool := w.params.followText "set-order"
section
variable {P : Program} {w : World} {A : Around} {E : Value → Shared → Prop} {s : Shared}
def EntI (P : Program) (w : World) (e : Int × Value) (n : Int) : Prop := e.1 = (intKind P w).hash n ∧ ∃ tk, e.2 = Value.int n tk
def SetI (P : Program) (w : World) (o : Obj) (σ : List Int) : Prop := ∃ es ep t, o.ExactSet ∧ o.data = .set es ep t ∧ Paired (EntI P w) es.toList σ ∧ σ.Nodup ∧ SOk t es ∧ t.plain = true ∧ t.led = !byText w
theorem putSet_at {h : Heap} {a : Addr} {o : Obj} {es : Array (Int × Value)} {ep : Nat} {t : SetTable} (ho : h.get? a = some o) (hd : o.data = .set es ep t) (es' : Array (Int × Value)) (t' : SetTable) :
    (h.update a (Obj.putSet es' t')).get? a = some { o with data := .set es' (ep + 1) t' } := by
  have := Heap.get?_update_self (Obj.putSet es' t') ho (by rw [putSet_of es' t' hd]; rfl)
  rw [putSet_of es' t' hd] at this
  exact this
end
end L2
namespace L2
open PySem PySem.Spec PyProof.Rows
def setObj0 (w : World) : Obj := { cls := .type "set", dict := none, data := .set #[] 0 (.fresh 0 0 (!byText w)) }
section
variable {P : Program} {w : World} {A : Around} {E : Value → Shared → Prop} {s : Shared}
theorem set_made (a : Value) {Q1 : Value → Shared → Prop} (h : Q1 (.ref s.heap.objs.size) { s with heap := s.heap.push (setObj0 w) }) :
    codeAny (model P w) A (.call (.builtin "set.__new__") ⟨[.type "set", a], []⟩) (wants Q1 E) s := by
  apply codeAny_of_tree
  show wpAny _ A.in1 (checkBuiltinCall "set.__new__" ⟨[.type "set", a], []⟩ >>= fun _ => again (.builtin "set.__new__" ⟨[.type "set", a], []⟩)) _ _ s
  apply wpAny_bind
  apply wpAny_of_eq (F.newCall_set_1 a)
  refine wpAny_pure ⟨plainId_quiet F.plain_set_new _, ?_⟩
  apply codeAny_builtin F.entry_set_new
  rw [Around.under_plainId F.plain_set_new _]
  unfold Builtin.«set.__new__» Builtin.Frozenset.newClass
  have hsb := sub_set_self
  obtain ⟨hp, g, d, tk, os⟩ := s
  dsimp only
  wp_walk
  apply wpAny_askSetting
  apply wpAny_pure
  dsimp only
  simp only [newObj]
  apply wpAny_bind
  apply wpAny_alloc
  apply wpAny_pure
  apply wpAny_pure
  exact h
/-- the loop of set(..): J by the number of items put in -/
theorem set_loop {I : Addr} {fp wr : List Addr} {G : Array GenState → Array GenState → Prop} {n : Nat} {Pv : Nat → Value → Prop} {St : Nat → Shared → Prop} {R : Result → Shared → Prop}
    (W : WalksS P w A.in1 I fp wr G n Pv St) (S : Addr) (hSf : S ∉ fp) (J : Nat → Obj → Prop) (Kp : Heap → Prop) (hK : ∀ h h' : Heap, Kp h → (∀ b o, b ∉ S :: wr → h.get? b = some o → h'.get? b = some o) → Kp h')
    (hadd : ∀ (i : Nat) (v : Value) (s1 : Shared) (o : Obj) (Q : Bool → Shared → Prop) (E1 : Value → Shared → Prop), i < n → Pv i v → Kp s1.heap → s1.heap.get? S = some o → J i o →
      (∀ (b : Bool) (h' : Heap) (tk : Nat) (o' : Obj), s1.toks ≤ tk → Heap.SameBut S s1.heap h' → h'.get? S = some o' → J (i + 1) o' → Q b { s1 with heap := h', toks := tk }) → wpAny (model P w) A.in1 (setAdd S v) Q E1 s1) :
    ∀ (k i : Nat) (s : Shared) (o : Obj), n - i = k → i ≤ n → St i s → Kp s.heap → s.heap.get? S = some o → J i o →
      (∀ (s' : Shared) (o' : Obj), Moved (S :: wr) G s s' → s'.heap.get? S = some o' → J n o' → R (.ok (.ret .none)) s') →
      codeAny (model P w) A (.builtin "set.update.loop" ⟨[.ref S, .ref I], []⟩) R s := by
  have hSw : S ∉ wr := fun z => hSf (W.sub _ z)
  have up : ∀ b ∈ wr, b ∈ S :: wr := fun b z => List.mem_cons_of_mem _ z
  intro k
  induction k with
  | zero =>
    intro i s o hk hi st kp ho hj hR
    have e : i = n := by omega
    subst e
    apply codeAny_builtin PyProof.Rows.F.entry_set_update_loop
    rw [Around.under_plainId PyProof.Rows.F.plain_set_update_loop _]
    apply wpAny_bind
    refine W.done s _ _ st fun s1 hm => ?_
    apply wpAny_pure
    exact hR s1 o (hm.mono up) (hm.heap S _ hSw ho) hj
  | succ k ih =>
    intro i s o hk hi st kp ho hj hR
    have hlt : i < n := by omega
    apply codeAny_builtin PyProof.Rows.F.entry_set_update_loop
    rw [Around.under_plainId PyProof.Rows.F.plain_set_update_loop _]
    apply wpAny_bind
    refine W.item i s _ _ hlt st fun v s1 hv st1 hm => ?_
    have ho1 := hm.heap S _ hSw ho
    have kp1 : Kp s1.heap := hK _ _ kp fun b o' hb e => hm.heap b o' (fun z => hb (up _ z)) e
    apply wpAny_bind
    apply wpAny_holding
    refine hadd i v s1 o _ _ hlt hv kp1 ho1 hj fun b h' tk o' htk sb ho' hj' => ?_
    refine wpAny_pure ⟨plainId_quiet PyProof.Rows.F.plain_set_update_loop _, ih (i + 1) _ o' (by omega) hlt (W.frame _ s1 _ _ st1 htk fun b hb o2 e => ?_) (hK _ _ kp1 fun b o2 hb e => ?_) ho' hj' fun s2 o2 hm2 ho2 hj2 => ?_⟩
    · rw [sb.2 b (fun z : b = S => hSf (z ▸ hb))]; exact e
    · show h'.get? b = some o2
      rw [sb.2 b (fun z : b = S => hb (by rw [z]; exact List.mem_cons_self))]; exact e
    · refine hR s2 o2 (Moved.trans W.gtrans ((hm.mono up).then_heap htk fun b o3 hb e => ?_) hm2) ho2 hj2
      rw [sb.2 b (fun z : b = S => hb (by rw [z]; exact List.mem_cons_self))]; exact e
/-- set(xs), xs a list -/
theorem call_setL {l : Addr} {items : Array Value} {Q : Value → Shared → Prop} (hh : A.handled = none) (hl : s.heap.IsList l items) (J : Nat → Obj → Prop) (Kp : Heap → Prop)
    (h0 : J 0 (setObj0 w)) (hK0 : ∀ h' : Heap, (∀ b o, b < s.heap.objs.size → s.heap.get? b = some o → h'.get? b = some o) → Kp h')
    (hadd : ∀ (i : Nat) (v : Value) (s1 : Shared) (o : Obj) (Q : Bool → Shared → Prop) (E1 : Value → Shared → Prop), i < items.size → items[i]? = some v → Kp s1.heap → s1.heap.get? s.heap.objs.size = some o → J i o →
      (∀ (b : Bool) (h' : Heap) (tk : Nat) (o' : Obj), s1.toks ≤ tk → Heap.SameBut s.heap.objs.size s1.heap h' → h'.get? s.heap.objs.size = some o' → J (i + 1) o' → Q b { s1 with heap := h', toks := tk }) → wpAny (model P w) A.in1.in1.in1 (setAdd s.heap.objs.size v) Q E1 s1)
    (h : ∀ (h' : Heap) (tk : Nat) (o' : Obj), h'.get? s.heap.objs.size = some o' → J items.size o' → (∀ b o, b < s.heap.objs.size → s.heap.get? b = some o → h'.get? b = some o) → Q (.ref s.heap.objs.size) { s with heap := h', toks := tk }) :
    wpAny (model P w) A (call (.type "set") [.ref l]) Q E s := by
  obtain ⟨c, tl, hmro⟩ := F.called_set.mro
  have hmade := F.called_set.made
  have hsub := F.called_set.sub
  apply wpAny_call
  apply codeAny_of_tree
  show wpAny _ _ (callAny (.type "set") _) _ _ _
  refine wpAny_pure ⟨Code.quiet_builtin _ (by decide +kernel), ?_⟩
  apply codeAny_builtin F.entry_type_call
  rw [Around.under_plain (weight_type_call_type "set" [.ref l] []) rfl]
  have h1 := F.called_set.notType
  have h2 := F.called_set.canCreate
  have hct := F.typeCall_set_1 (.ref l)
  repeat (any_goals (first | assumption | wp_step))
  refine codeAny_mono (set_made (.ref l) (E := E) (Q1 := fun obj s1 => obj = .ref s.heap.objs.size ∧ s1 = { s with heap := s.heap.push (setObj0 w) }) ⟨rfl, rfl⟩) fun r s1 hr => ?_
  cases r with
  | error e => exact hr
  | ok fl =>
    cases fl with
    | ret obj =>
      obtain ⟨rfl, rfl⟩ := hr
      have hS : (s.heap.push (setObj0 w)).get? s.heap.objs.size = some (setObj0 w) := Heap.get?_push_size _ rfl
      have hT : Shared.TypeIs { s with heap := s.heap.push (setObj0 w) } (.ref s.heap.objs.size) "set" := ⟨_, hS, rfl⟩
      have hli := F.called_set.init.lookup
      have hbi := F.called_set.init.bind (.ref s.heap.objs.size)
      repeat (any_goals (first | assumption | wp_step))
      refine codeAny_mono (codeAny_call_builtin (R := wants (fun r s2 => r = .none ∧ ∃ (h' : Heap) (tk : Nat) (o' : Obj), s2 = { s with heap := h', toks := tk } ∧ h'.get? s.heap.objs.size = some o' ∧ J items.size o' ∧
          (∀ b o, b < s.heap.objs.size → s.heap.get? b = some o → h'.get? b = some o)) E) F.called_set.init.plain F.entry_set_init (check_set_init_1 hT ?_)) fun r2 s2 hr2 => ?_
      · obtain ⟨ol, hol, hcl, nl, hdl⟩ := hl
        obtain ⟨ocls, odict, odata, oslots⟩ := ol
        simp only at hcl hdl
        subst hcl; subst hdl
        have hol' : (s.heap.push (setObj0 w)).get? l = some { cls := .type "list", dict := odict, data := .seq items nl, slots := oslots } := Heap.get?_push_of_some _ hol
        have hsls := F.sub_list_set
        have hslf := F.sub_list_frozenset
        have hne : (Value.type "list" == Value.type "dict") = false := by decide
        have hl1 : (s.heap.push (setObj0 w)).IsList l items := ⟨_, hol', rfl, nl, rfl⟩
        have hS' : (s.heap.push (setObj0 w)).get? s.heap.objs.size = some { cls := .type "set", dict := none, data := .set #[] 0 (.fresh 0 0 (!byText w)) } := hS
        unfold Builtin.«set.__init__» noKeywords Builtin.Frozenset.updateFrom
        generalize hPI : pyIter = PI
        wp_walk
        subst hPI
        apply wpAny_pyIter_list hl1
        apply wpAny_bind
        apply wpAny_runValue
        have hlS : l < s.heap.objs.size := Heap.lt_size hol
        have hh3 : A.in1.in1.in1.handled = none := by simp [hh]
        have hz : (s.heap.push (setObj0 w)).objs.size = s.heap.objs.size + 1 := Heap.size_push ..
        have hneI : l ≠ (s.heap.push (setObj0 w)).objs.size := by rw [hz]; exact Nat.ne_of_lt (Nat.lt_succ_of_lt hlS)
        have hSf : s.heap.objs.size ∉ [(s.heap.push (setObj0 w)).objs.size, l] := by
          rw [hz]
          intro z
          rcases List.mem_cons.mp z with z | z
          · exact Nat.ne_of_lt (Nat.lt_succ_self _) z
          · exact Nat.ne_of_gt hlS (List.mem_singleton.mp z)
        have kold : ∀ b o, b < s.heap.objs.size → s.heap.get? b = some o → ((s.heap.push (setObj0 w)).push { cls := .type "list_iterator", data := .fields #[.ref l, .int 0 0] }).get? b = some o :=
          fun b o _ e => Heap.get?_push_of_some _ (Heap.get?_push_of_some _ e)
        refine set_loop ((Walks.list hh3 _ l hneI items).toS) s.heap.objs.size hSf J (fun h' => ∀ b o, b < s.heap.objs.size → s.heap.get? b = some o → h'.get? b = some o) ?_ ?_ (items.size - 0) 0 _ (setObj0 w) (by omega) (Nat.zero_le _)
          ⟨⟨_, Heap.get?_push_size _ rfl, rfl, rfl⟩, (hl1.push _)⟩ kold (Heap.get?_push_of_some _ hS) h0 ?_
        · intro ha hb hab hst b o hlt e
          refine hst b o ?_ (hab b o hlt e)
          intro z
          rcases List.mem_cons.mp z with z | z
          · exact Nat.ne_of_lt hlt z
          · exact Nat.ne_of_lt (Nat.lt_succ_of_lt hlt) ((List.mem_singleton.mp z).trans hz)
        · intro i v s1 o Q1 E1 hi hv kp ho hj hq
          exact hadd i v s1 o Q1 E1 hi hv (hK0 _ kp) ho hj hq
        · intro s' o' hm ho' hj'
          obtain ⟨h', g', d', tk', os'⟩ := s'
          have eg : g' = s.gens := hm.gens
          have ed : d' = s.drawn := hm.drawn
          have eo : os' = s.os := hm.os
          subst eg; subst ed; subst eo
          apply wpAny_pure
          refine wpAny_pure ⟨rfl, h', tk', o', rfl, ho', hj', fun b o hb e => ?_⟩
          refine hm.heap b o ?_ (Heap.get?_push_of_some _ (Heap.get?_push_of_some _ e))
          intro z
          rcases List.mem_cons.mp z with z | z
          · exact Nat.ne_of_lt hb z
          · exact Nat.ne_of_lt (Nat.lt_succ_of_lt hb) ((List.mem_singleton.mp z).trans hz)
      · cases r2 with
        | error e => exact hr2
        | ok fl2 =>
          cases fl2 with
          | ret r =>
            obtain ⟨rfl, h', tk, o', rfl, ho', hj', hk'⟩ := hr2
            repeat (any_goals (first | assumption | wp_step))
            exact h _ _ _ ho' hj' hk'
          | _ => exact hr2.elim
    | _ => exact hr.elim
end
end L2
namespace L2
open PySem PySem.Spec PyProof.Rows
/-! ### a set's walk -/
def slotAt (t : SetTable) : Nat → Nat
  | 0 => 0
  | i + 1 => t.place.getD i 0 + 1
section
variable {P : Program} {w : World} {A : Around} {E : Value → Shared → Prop} {s : Shared}
/-- the set at a, by its entries -/
def SAt (w : World) (h : Heap) (a : Addr) (es : Array (Int × Value)) (ep : Nat) (t : SetTable) : Prop :=
  (∃ o, h.get? a = some o ∧ o.ExactSet ∧ o.data = .set es ep t) ∧ SOk t es ∧ t.plain = true ∧ t.led = !byText w
def walked (w : World) (a : Addr) (es : Array (Int × Value)) (ep : Nat) : List (Int × Value) := if byText w then (pickOrder (w.params.setOrder a ep) es).toList else es.toList
def slotW (w : World) (t : SetTable) (i : Nat) : Nat := if byText w then 0 else slotAt t i
def IsSetIter (w : World) (h : Heap) (it a : Addr) (t : SetTable) (i n ep : Nat) : Prop :=
  ∃ o, h.get? it = some o ∧ o.cls = .type "set_iterator" ∧ o.data = .fields #[.int (slotW w t i) 0, .int i 0, .ref a, .int n 0, .int ep 0]
end
end L2
namespace L2
open PySem PySem.Spec PyProof.Rows
section
variable {P : Program} {w : World} {A : Around} {E : Value → Shared → Prop} {s : Shared}
end
/-! ### the rules -/
def SetO (P : Program) (w : World) (a : Addr) (ms : List Int) : HO := .ext fun h => ∃ o σ, h.get? a = some o ∧ SetI P w o σ ∧ σ.Perm ms
theorem take_succ_mem {α : Type} {l : List α} {i : Nat} {x y : α} (h : l[i]? = some x) : y ∈ l.take (i + 1) ↔ y ∈ l.take i ∨ y = x := by
  rw [List.take_succ, h]
  simp
section
variable {X : Cx} (K : PySem.W.Frag)
end
end L2
namespace L2
open PySem PySem.Spec PyProof.Rows
section
variable {P : Program} {w : World} {A : Around} {E : Value → Shared → Prop} {s : Shared}
end
section
variable {X : Cx}
end
end L2
namespace L2
open PySem PySem.Spec PyProof.Rows
section
variable {X : Cx} (P : Program) (w : World) (K : PySem.W.Frag)
end
end L2
namespace L2
open PySem PySem.Spec PyProof.Rows
section
variable {X : Cx}
/-! ### list.count(n) of a list of ints -/
def rCount : V → List V → Hp → VK → Prop := fun x vs H Q => ∃ (l : Addr) (ns : List Int) (i : Int), x = .ref l ∧ vs = [.int i] ∧ H l = some (.lst (ns.map V.int)) ∧ Q (.int ((ns.count i : Nat) : Int)) H
end
end L2
namespace L2
open PySem PySem.Spec PyProof.Rows
/-! ### sets of pairs -/
section
variable {P : Program} {w : World} {A : Around} {E : Value → Shared → Prop} {s : Shared}
abbrev hashP (P : Program) (w : World) (r : Int × Int) : Int := tupleKeyHash (intKind P w) [r.1, r.2]
def IsPr (P : Program) (w : World) (h : Heap) (r : Int × Int) (a : Addr) : Prop := IsTupleKey (intKind P w) h [r.1, r.2] a
def PEnt (P : Program) (w : World) (h : Heap) (e : Int × Value) (r : Int × Int) : Prop := e.1 = hashP P w r ∧ ∃ a, e.2 = .ref a ∧ IsPr P w h r a
theorem IsPr.keep {h h' : Heap} {r : Int × Int} {a : Addr} (x : IsPr P w h r a) (k : ∀ o, h.get? a = some o → h'.get? a = some o) : IsPr P w h' r a := by
  obtain ⟨o, its, n, h1, h2⟩ := x
  exact ⟨o, its, n, k _ h1, h2⟩
theorem pents_get : ∀ {h : Heap} {l : List (Int × Value)} {ps : List (Int × Int)}, Paired (PEnt P w h) l ps → ∀ {i : Nat} {e : Int × Value}, l[i]? = some e → ∃ r, ps[i]? = some r ∧ PEnt P w h e r
  | _, _, _, .nil, i, e, z => by simp at z
  | _, _, _, .cons h0 t, 0, e, z => by simp at z; subst z; exact ⟨_, rfl, h0⟩
  | _, _, _, .cons h0 t, i + 1, e, z => by
    obtain ⟨r, h1, h2⟩ := pents_get t (i := i) (e := e) (by simpa using z)
    exact ⟨r, by simpa using h1, h2⟩
theorem pents_perm {h : Heap} {l l' : List (Int × Value)} (p : l'.Perm l) : ∀ {σ : List (Int × Int)}, Paired (PEnt P w h) l σ → ∃ σ', Paired (PEnt P w h) l' σ' ∧ σ'.Perm σ := by
  induction p with
  | nil => intro σ h; cases h; exact ⟨[], .nil, .refl _⟩
  | cons x _ ih =>
    intro σ h
    cases h with
    | cons h t =>
      obtain ⟨σ', h1, h2⟩ := ih t
      exact ⟨_, .cons h h1, h2.cons _⟩
  | swap x y l =>
    intro σ h
    cases h with
    | cons h t =>
      cases t with
      | cons h' t => exact ⟨_, .cons h' (.cons h t), .swap _ _ _⟩
  | trans _ _ ih1 ih2 =>
    intro σ h
    obtain ⟨σ1, h1, p1⟩ := ih2 h
    obtain ⟨σ2, h2, p2⟩ := ih1 h1
    exact ⟨σ2, h2, p2.trans p1⟩
theorem pents_app : ∀ {h : Heap} {l k : List (Int × Value)} {σ τ : List (Int × Int)}, Paired (PEnt P w h) l σ → Paired (PEnt P w h) k τ → Paired (PEnt P w h) (l ++ k) (σ ++ τ)
  | _, _, _, _, _, .nil, h => h
  | _, _, _, _, _, .cons h t, k => .cons h (pents_app t k)
theorem items_byV {ks : List Int} {vs : List Value} (h : ItemsAre (intKind P w) ks vs) : ∀ v ∈ vs, ∃ i t, v = Value.int i t := by
  induction h with
  | nil => intro v hv; simp at hv
  | @cons k v' ks vs h1 _ ih =>
    intro v hv
    rcases List.mem_cons.mp hv with rfl | hv
    · cases v with
      | int i t => exact ⟨i, t, rfl⟩
      | _ => cases h1
    · exact ih v hv
/-- a pair is of no class of the text's own -/
theorem wp_noClass {a : Addr} {r : Int × Int} {Q : Bool → Shared → Prop} (hx : IsPr P w s.heap r a) (h : Q false s) : wpAny (model P w) A (ofAClassStatement 8 (.ref a)) Q E s := by
  have hT := IsTupleKey.typeIs hx
  obtain ⟨o, its, n, ho, hc, hd, hi⟩ := hx
  unfold ofAClassStatement
  apply wpAny_bind
  apply wpAny_typeOf hT
  apply wpAny_bind
  apply wpAny_pure
  apply wpAny_bind
  apply wpAny_seqItems ho hd
  dsimp only
  apply wpAny_bind
  rw [← Array.forIn_toList]
  refine wpAny_forIn_list _ (fun rest c s' => c.1 = none ∧ s' = s ∧ ∀ v ∈ rest, ∃ i t, v = Value.int i t) _ ?_ ?_ _ _ ⟨rfl, rfl, items_byV hi⟩
  · rintro v rest c s' ⟨hr, rfl, hall⟩
    obtain ⟨i, t, rfl⟩ := hall v List.mem_cons_self
    apply wpAny_bind
    apply wpAny_pure
    rw [if_neg Bool.false_ne_true]
    exact wpAny_pure ⟨rfl, rfl, fun u hu => hall u (List.mem_cons_of_mem _ hu)⟩
  · rintro ⟨c1, c2⟩ s' ⟨hr, rfl, _⟩
    simp only at hr
    subst hr
    exact wpAny_pure h
theorem wp_unseen {b : Addr} {r : Int × Int} {l : List Value} {Q : Bool → Shared → Prop} (hx : IsPr P w s.heap r b) (hl : ∀ v ∈ l, ∃ a r', v = Value.ref a ∧ IsPr P w s.heap r' a) (h : Q false s) : wpAny (model P w) A (searchCouldBeSeen (.ref b) l) Q E s := by
  unfold searchCouldBeSeen
  apply wpAny_bind
  refine wpAny_forIn_list _ (fun rest c s' => c.1 = none ∧ s' = s ∧ ∀ v ∈ rest, ∃ a r', v = Value.ref a ∧ IsPr P w s.heap r' a) _ ?_ ?_ _ _ ⟨rfl, rfl, hl⟩
  · rintro v rest c s' ⟨hr, rfl, hall⟩
    obtain ⟨a, r', rfl, hy⟩ := hall v List.mem_cons_self
    have nxt : ∀ u ∈ rest, ∃ a r', u = Value.ref a ∧ IsPr P w s'.heap r' a := fun u hu => hall u (List.mem_cons_of_mem _ hu)
    dsimp only
    by_cases hv : ((b == a) || (carriedByValue (.ref b) && carriedByValue (.ref a))) = true
    · rw [if_pos hv]
      exact wpAny_pure ⟨rfl, rfl, nxt⟩
    · rw [if_neg hv]
      apply wpAny_bind
      refine wpAny_eqIsQuiet_tuple hx ?_
      rw [if_neg (by decide)]
      apply wpAny_bind
      refine wpAny_eqIsQuiet_tuple hy ?_
      rw [if_neg (by decide)]
      apply wpAny_bind
      refine wp_noClass hx ?_
      rw [if_neg Bool.false_ne_true]
      apply wpAny_bind
      refine wp_noClass hy ?_
      rw [if_neg Bool.false_ne_true]
      exact wpAny_pure ⟨rfl, rfl, nxt⟩
  · rintro ⟨c1, c2⟩ s' ⟨hr, rfl, _⟩
    simp only at hr
    subst hr
    exact wpAny_pure h
def hAt (es : Array (Int × Value)) (i : Nat) : Int := (es[i]?.map (·.1)).getD 0
section
variable {a b : Addr} {o : Obj} {es : Array (Int × Value)} {ep : Nat} {t : SetTable} {ps : List (Int × Int)} {r : Int × Int} {Q : SetFound → Shared → Prop}
theorem wp_searchFrom (hu : A.units < cLine) (ho : s.heap.get? a = some o) (hd : o.data = .set es ep t) (S : SOk t es) (hE : Paired (PEnt P w s.heap) es.toList ps) (hx : IsPr P w s.heap r b)
    (hyes : r ∈ ps → Q (.there none) s)
    (hno : r ∉ ps → ∀ n, (advs t.mask n (st0 t.mask (hashP P w r))).j ∉ t.place.toList → (∀ q, q < n → (advs t.mask q (st0 t.mask (hashP P w r))).j ∈ t.place.toList) → Q (.free (advs t.mask n (st0 t.mask (hashP P w r))).j false) s)
    (N : Nat) (hN : N + 10 < 10 * SetTable.turns t.mask) (hNe : (advs t.mask N (st0 t.mask (hashP P w r))).j ∉ t.place.toList) :
    ∀ (fuel q : Nat) (stand : Option SetTable.Probe), stand.getD (st0 t.mask (hashP P w r)) = advs t.mask q (st0 t.mask (hashP P w r)) → q ≤ N → N - q < fuel →
      (∀ m, m < q → ∃ i : Nat, t.place[i]? = some (advs t.mask m (st0 t.mask (hashP P w r))).j ∧ ∀ r', ps[i]? = some r' → r' ≠ r) →
      wpAny (model P w) A (setSearchFrom a (.ref b) (hashP P w r) true fuel stand) Q E s
  | 0, q, stand, _, _, hf, _ => absurd hf (Nat.not_lt_zero _)
  | fuel + 1, q, stand, hst, hq, hf, hold => by
    have hlen : t.place.size = es.size := by rw [S.T.len, hsOf_len]
    have hpl := Paired.length hE
    rw [Array.length_toList] at hpl
    unfold setSearchFrom
    apply wpAny_bind
    refine wpAny_setState_of ho hd S.fits ?_
    dsimp only
    rw [S.T.odd, if_neg Bool.false_ne_true, st0_eq, hst]
    have hbase : (advs t.mask q (st0 t.mask (hashP P w r))).dummy = none := by rw [advs_dummy]; rfl
    have sp := go_spec (t := t) (ha := hAt es) (h := hashP P w r) S.T.rise S.T.dum (10 * SetTable.turns t.mask) (advs t.mask q (st0 t.mask (hashP P w r))) ⟨N - q, by omega, by rw [← advs_add, show q + (N - q) = N by omega]; exact hNe⟩
    have live_of : ∀ m, (∃ i : Nat, t.place[i]? = some (advs t.mask m (advs t.mask q (st0 t.mask (hashP P w r)))).j ∧ hAt es i ≠ hashP P w r) → ∃ i : Nat, t.place[i]? = some (advs t.mask (q + m) (st0 t.mask (hashP P w r))).j ∧ ∀ r', ps[i]? = some r' → r' ≠ r := by
      rintro m ⟨i, h1, h2⟩
      refine ⟨i, by rw [advs_add]; exact h1, fun r' hr' e => ?_⟩
      subst e
      apply h2
      have hi : i < es.size := by
        have := (List.getElem?_eq_some_iff.mp hr').1
        omega
      obtain ⟨r2, e1, e2⟩ := pents_get hE (i := i) (e := es[i]) (by rw [Array.getElem?_toList, Array.getElem?_eq_getElem hi])
      rw [hr'] at e1
      cases e1
      unfold hAt
      rw [Array.getElem?_eq_getElem hi]
      exact e2.1
    have upto : ∀ n, (∀ m, m < n → ∃ i : Nat, t.place[i]? = some (advs t.mask m (advs t.mask q (st0 t.mask (hashP P w r)))).j ∧ hAt es i ≠ hashP P w r) → ∀ m, m < q + n → ∃ i : Nat, t.place[i]? = some (advs t.mask m (st0 t.mask (hashP P w r))).j ∧ ∀ r', ps[i]? = some r' → r' ≠ r := by
      intro n h m hm
      rcases Nat.lt_or_ge m q with z | z
      · exact hold m z
      · have := live_of (m - q) (h (m - q) (by omega))
        rw [show q + (m - q) = m by omega] at this
        exact this
    rcases sp with ⟨n, g1, g2, g3⟩ | ⟨n, i, g1, g2, g3, g4⟩
    · have em : t.probe (hAt es) (hashP P w r) (advs t.mask q (st0 t.mask (hashP P w r))) = some (.empty (advs t.mask (q + n) (st0 t.mask (hashP P w r))).j none) := by
        unfold SetTable.probe
        rw [g1, hbase, advs_add]
      generalize hm : t.probe _ (hashP P w r) (advs t.mask q (st0 t.mask (hashP P w r))) = mm
      have hmm : mm = some (.empty (advs t.mask (q + n) (st0 t.mask (hashP P w r))).j none) := by rw [← hm]; exact em
      subst hmm
      dsimp only
      have all := upto n g3
      rw [← advs_add] at g2
      refine wpAny_pure (hno (fun hin => ?_) (q + n) g2 fun m hm' => by obtain ⟨i, hi, _⟩ := all m hm'; exact mem_place hi)
      obtain ⟨i, hi, e⟩ := List.getElem_of_mem hin
      have hi' : i < es.size := by omega
      have hpi : ps[i]? = some r := by rw [List.getElem?_eq_getElem hi, e]
      obtain ⟨r2, e1, e2⟩ := pents_get hE (i := i) (e := es[i]) (by rw [Array.getElem?_toList, Array.getElem?_eq_getElem hi'])
      rw [hpi] at e1
      cases e1
      have hpj : t.place[i]? = some (t.place[i]'(by omega)) := Array.getElem?_eq_getElem (by omega)
      obtain ⟨m, r1, r3⟩ := S.T.rch i (hashP P w r) _ (by rw [List.getElem?_map, Array.getElem?_toList, Array.getElem?_eq_getElem hi']; exact congrArg some e2.1) hpj
      rcases Nat.lt_trichotomy m (q + n) with z | z | z
      · obtain ⟨i2, h1, h2⟩ := all m z
        rw [r1] at h1
        have : i2 = i := by
          have b1 := below_at S.T.rise h1
          have b2 := below_at S.T.rise hpj
          omega
        subst this
        exact h2 r hpi rfl
      · subst z
        rw [r1] at g2
        exact g2 (mem_place hpj)
      · exact g2 (r3 (q + n) z)
    · have em : t.probe (hAt es) (hashP P w r) (advs t.mask q (st0 t.mask (hashP P w r))) = some (.candidate (advs t.mask (q + n) (st0 t.mask (hashP P w r))).j i (advs t.mask (q + n + 1) (st0 t.mask (hashP P w r)))) := by
        unfold SetTable.probe
        rw [g1, ← advs_add, ← advs_add, Nat.add_assoc]
      generalize hm : t.probe _ (hashP P w r) (advs t.mask q (st0 t.mask (hashP P w r))) = mm
      have hmm : mm = some (.candidate (advs t.mask (q + n) (st0 t.mask (hashP P w r))).j i (advs t.mask (q + n + 1) (st0 t.mask (hashP P w r)))) := by rw [← hm]; exact em
      subst hmm
      dsimp only
      rw [← advs_add] at g2
      have hi' : i < es.size := by
        have := (Array.getElem?_eq_some_iff.mp g2).1
        omega
      obtain ⟨r2, e1, e2, c, e3, e4⟩ := pents_get hE (i := i) (e := es[i]) (by rw [Array.getElem?_toList, Array.getElem?_eq_getElem hi'])
      have hnN : q + n < N := by
        rcases Nat.lt_trichotomy (q + n) N with z | z | z
        · exact z
        · subst z; exact absurd (mem_place g2) hNe
        · obtain ⟨i2, h1, _⟩ := upto n g4 N z
          exact absurd (mem_place h1) hNe
      have hsame : t.sameMemory t.moves t.mask = some true := by unfold SetTable.sameMemory; simp
      have hslot : t.slot (advs t.mask (q + n) (st0 t.mask (hashP P w r))).j = .live i := slot_live t S.T.rise g2
      have hget : es[i]? = some (es[i].1, es[i].2) := Array.getElem?_eq_getElem hi'
      rw [hget]
      rw [e3]
      rw [e3] at hget
      have lst : ∀ v ∈ List.map (fun x : Int × Value => x.2) (Array.filter (fun x : Int × Value => x.1 == hashP P w r) es).toList, ∃ a r', v = Value.ref a ∧ IsPr P w s.heap r' a := by
        intro v hv
        obtain ⟨e, he, rfl⟩ := List.mem_map.mp hv
        rw [Array.toList_filter] at he
        obtain ⟨j, hj, ej⟩ := List.getElem_of_mem (List.mem_filter.mp he).1
        obtain ⟨r3, _, _, c3, e5, e6⟩ := pents_get hE (i := j) (e := e) (by rw [List.getElem?_eq_getElem hj, ej])
        exact ⟨c3, r3, e5, e6⟩
      have hcase : ∀ {Z : Sem SetFound}, wpAny (model P w) A Z Q E s → wpAny (model P w) A (if (!t.led) = true then do
            let u ← searchCouldBeSeen (Value.ref b) (List.map (fun x : Int × Value => x.2) (Array.filter (fun x : Int × Value => x.1 == hashP P w r) es).toList)
            if u = true then do
              unsupported "set:the-search-would-show-the-table"
              Z
            else Z
          else Z) Q E s := by
        intro Z hZ
        cases hl : t.led with
        | true =>
          rw [if_neg (show ¬ ((!true) = true) by decide)]
          exact hZ
        | false =>
          rw [if_pos (show (!false) = true by decide)]
          apply wpAny_bind
          refine wp_unseen hx lst ?_
          rw [if_neg Bool.false_ne_true]
          exact hZ
      refine hcase ?_
      apply wpAny_bind
      apply wpAny_holding
      refine wpAny_eqBool_tuple hu e4 hx ?_
      apply wpAny_bind
      refine wpAny_setState_of ho hd S.fits ?_
      dsimp only
      by_cases heq : r2 = r
      · subst heq
        rw [decide_eq_true rfl, if_pos (show (true && true) = true from rfl)]
        exact wpAny_pure (hyes (List.mem_of_getElem? e1))
      · have hdec : decide ([r2.1, r2.2] = [r.1, r.2]) = false := decide_eq_false fun z => heq (by
          injection z with z1 z2
          injection z2 with z2 _
          exact Prod.ext z1 z2)
        rw [hdec, if_neg (show ¬ ((true && false) = true) from Bool.false_ne_true), hsame]
        dsimp only
        rw [if_pos rfl, hslot]
        dsimp only
        rw [hget]
        dsimp only
        apply wpAny_bind
        have hrr : (c == c) = true := by simp
        show wpAny _ _ (if (c == c) = true then pure true else _) _ _ s
        rw [if_pos hrr]
        apply wpAny_pure
        apply wpAny_bind
        apply wpAny_pure
        rw [if_pos rfl]
        dsimp only
        rw [if_neg Bool.false_ne_true]
        refine wp_searchFrom hu ho hd S hE hx hyes hno N hN hNe fuel (q + n + 1) _ rfl (by omega) (by omega) fun m hm' => ?_
        rcases Nat.lt_or_ge m (q + n) with z | z
        · exact upto n g4 m z
        · have : m = q + n := by omega
          subst this
          exact ⟨i, g2, fun r' hr' => by rw [e1] at hr'; cases hr'; exact heq⟩
end
end
end L2
namespace L2
open PySem PySem.Spec PyProof.Rows
section
variable {P : Program} {w : World} {A : Around} {E : Value → Shared → Prop} {s : Shared}
theorem wp_byValue {a : Addr} {r : Int × Int} {Q : Bool → Shared → Prop} (hx : IsPr P w s.heap r a) (h : Q true s) : wpAny (model P w) A (hashByValue 8 (.ref a)) Q E s := by
  have hT := IsTupleKey.typeIs hx
  obtain ⟨o, its, n, ho, hc, hd, hi⟩ := hx
  unfold hashByValue
  apply wpAny_bind
  refine wpAny_specialOf hT F.slot_tuple_hash.lookup ?_
  dsimp only
  apply wpAny_bind
  apply wpAny_seqItems ho hd
  apply wpAny_bind
  show wpAny _ _ (forIn its _ _) _ _ s
  rw [← Array.forIn_toList]
  refine wpAny_forIn_list _ (fun rest c s' => c.1 = none ∧ s' = s ∧ ∀ v ∈ rest, ∃ i t, v = Value.int i t) _ ?_ ?_ _ _ ⟨rfl, rfl, items_byV hi⟩
  · rintro v rest c s' ⟨hr, rfl, hall⟩
    obtain ⟨i, t, rfl⟩ := hall v List.mem_cons_self
    apply wpAny_bind
    rw [hashByValue_scannable 7 (x := .int i t) rfl]
    apply wpAny_pure
    rw [if_neg (show ¬ ((!plainKind (Value.int i t)) = true) from Bool.false_ne_true)]
    exact wpAny_pure ⟨rfl, rfl, fun u hu => hall u (List.mem_cons_of_mem _ hu)⟩
  · rintro ⟨c1, c2⟩ s' ⟨hr, rfl, _⟩
    simp only at hr
    subst hr
    exact wpAny_pure h
/-- the set's object, its pairs in the heap h0 -/
def SetPr (P : Program) (w : World) (h0 : Heap) (o : Obj) (ps : List (Int × Int)) : Prop := ∃ es ep t, o.ExactSet ∧ o.data = .set es ep t ∧ Paired (PEnt P w h0) es.toList ps ∧ ps.Nodup ∧ SOk t es
theorem pents_heap {h h' : Heap} : ∀ {l : List (Int × Value)} {ps : List (Int × Int)}, Paired (PEnt P w h) l ps → (∀ b o, h.get? b = some o → h'.get? b = some o) → Paired (PEnt P w h') l ps
  | _, _, .nil, _ => .nil
  | _, _, .cons ⟨h1, a, h2, h3⟩ t, k => .cons ⟨h1, a, h2, h3.keep fun o e => k a o e⟩ (pents_heap t k)
theorem wp_addP {a b : Addr} {o : Obj} {h0 : Heap} {ps : List (Int × Int)} {r : Int × Int} {Q : Bool → Shared → Prop} (hu : A.units < cLine) (h00 : ∀ c o', h0.get? c = some o' → s.heap.get? c = some o') (ho : s.heap.get? a = some o) (hS : SetPr P w h0 o ps) (hx : IsPr P w h0 r b) (h76 : ps.length + 1 ≤ 76)
    (h : ∀ (c : Bool) (h' : Heap) (o' : Obj) (ps' : List (Int × Int)), Heap.SameBut a s.heap h' → h'.get? a = some o' → SetPr P w h0 o' ps' → ps'.Perm (if r ∈ ps then ps else ps ++ [r]) → Q c { s with heap := h' }) :
    wpAny (model P w) A (setAddHashed a (.ref b) (hashP P w r)) Q E s := by
  obtain ⟨es, ep, t, hex, hd, hE, hnd, S⟩ := id hS
  have hlen := Paired.length hE
  rw [Array.length_toList] at hlen
  have hE' := pents_heap hE h00
  have hx' : IsPr P w s.heap r b := hx.keep fun o' e => h00 b o' e
  obtain ⟨N, hN, hNe⟩ := S.T.empty S.le (hashP P w r)
  have hturn : 10 * SetTable.turns t.mask ≤ 1420 := by
    unfold SetTable.turns
    rcases S.T.mask with e | e | e <;> omega
  unfold setAddHashed setAddHashedIn
  apply wpAny_holding
  apply wpAny_bind
  refine wpAny_setState_of ho hd S.fits ?_
  dsimp only
  have hbs : byScan (.ref b) es = false := rfl
  rw [hbs, if_neg Bool.false_ne_true]
  apply wpAny_bind
  unfold setSearch
  refine wp_searchFrom hu ho hd S hE' hx' ?_ ?_ N hN hNe 100000 0 none rfl (Nat.zero_le _) (by omega) (fun m hm => absurd hm (Nat.not_lt_zero _))
  · intro hin
    dsimp only
    refine wpAny_pure ?_
    exact h false s.heap o ps (Heap.SameBut.refl a s.heap) ho hS (by rw [if_pos hin])
  · intro hnot n hn hall
    dsimp only
    apply wpAny_bind
    refine wpAny_setState_of ho hd S.fits ?_
    dsimp only
    obtain ⟨T1, hf1⟩ := S.put (.ref b) hn hall
    have hz1 : (SetTable.insertAt es (t.put (advs t.mask n (st0 t.mask (hashP P w r))).j).2 (hashP P w r, Value.ref b)).size = es.size + 1 := insertAt_size _ _ _
    have hperm := SetTable.insertAt_perm es (t.put (advs t.mask n (st0 t.mask (hashP P w r))).j).2 (hashP P w r, Value.ref b)
    rw [Array.toList_push] at hperm
    have hm1 : (t.put (advs t.mask n (st0 t.mask (hashP P w r))).j).1.mask = t.mask := rfl
    generalize htp : t.put (advs t.mask n (st0 t.mask (hashP P w r))).j = tp at T1 hf1 hz1 hperm hm1 ⊢
    obtain ⟨t1, p1⟩ := tp
    dsimp only at T1 hf1 hz1 hperm hm1 ⊢
    have hE1 : Paired (PEnt P w h0) (es.toList ++ [(hashP P w r, Value.ref b)]) (ps ++ [r]) := pents_app hE (.cons ⟨rfl, b, rfl, hx⟩ .nil)
    obtain ⟨ps1, hE2, hp2⟩ := pents_perm hperm hE1
    have hnd1 : (ps ++ [r]).Nodup := List.nodup_append.mpr ⟨hnd, by simp, fun c hc d hd' => by
      rw [List.mem_singleton] at hd'
      subst hd'
      intro z
      exact hnot (z ▸ hc)⟩
    generalize hes1 : SetTable.insertAt es p1 (hashP P w r, Value.ref b) = es1 at T1 hz1 hperm hE2 ⊢
    have hz : es1.size ≤ sizeLine := by rw [sizeLine_eq]; omega
    -- what is stored, whatever is told of hashes
    have store : ∀ (bv : Bool), wpAny (model P w) A (do
        storeSet a es1 (if bv = true then t1 else { t1 with plain := false })
        if (!false && (if bv = true then t1 else { t1 with plain := false }).tooFull) = true then do
          setRelay a (SetTable.grown (es.size + 1))
          pure true
        else pure true) Q E s := by
      intro bv
      obtain ⟨t1', et1, T1', hm1'⟩ : ∃ t1' : SetTable, (if bv = true then t1 else { t1 with plain := false }) = t1' ∧ TOk t1' (hsOf es1) ∧ t1'.mask = t.mask := by
        cases bv with
        | true => exact ⟨t1, rfl, T1, hm1⟩
        | false => exact ⟨{ t1 with plain := false }, rfl, ⟨T1.mask, T1.dum, T1.len, T1.rise, T1.le, T1.rch⟩, hm1⟩
      rw [et1]
      apply wpAny_bind
      refine wpAny_storeSet_of ho hd ?_ hz
      have ho1 := putSet_at ho hd es1 t1'
      have sb1 := Heap.SameBut.update s.heap a (Obj.putSet es1 t1')
      rcases full_when S (by omega) T1' (by rw [hsOf_len]; exact hz1) hm1' with ⟨hfull, hwhen⟩ | ⟨hfull, hroom⟩
      · rw [hfull, if_pos (show (!false && true) = true from rfl)]
        rw [← hz1] at hwhen ⊢
        obtain ⟨t2, od, eR, hp, S2, hl2, hpl2, h128⟩ := relay_ok T1' hwhen
        have hfit1 : t1'.fits es1.size = true := by
          have := T1'.fits (by rw [hsOf_len]; rcases hwhen with ⟨q1, q2⟩ | ⟨q1, q2⟩ <;> omega)
          rw [hsOf_len] at this
          exact this
        apply wpAny_bind
        unfold setRelay
        apply wpAny_bind
        refine wpAny_setState_of ho1 rfl hfit1 ?_
        dsimp only
        rw [if_neg (by rw [sizeLine_eq]; omega)]
        apply wpAny_bind
        rw [eR]
        have hp3 := filterMap_perm hp
        have hz2 : (od.filterMap (es1[·]?)).size = es1.size := by
          have := hp3.length_eq
          rw [Array.length_toList, Array.length_toList] at this
          exact this
        obtain ⟨ps2, hE3, hp4⟩ := pents_perm hp3 hE2
        show wpAny _ _ (if ((od.filterMap (es1[·]?)).size != es1.size) = true then _ else _) _ _ _
        rw [if_neg (by rw [hz2]; simp)]
        apply wpAny_pure
        dsimp only
        refine wpAny_storeSet_of ho1 rfl ?_ (by rw [hz2]; exact hz)
        apply wpAny_pure
        refine h true _ _ ps2 (sb1.trans (Heap.SameBut.update _ a _)) (putSet_at ho1 rfl _ t2) ⟨_, _, t2, hex, rfl, hE3, (hp4.trans hp2).nodup_iff.mpr hnd1, S2⟩ ?_
        rw [if_neg hnot]
        exact hp4.trans hp2
      · rw [hfull, if_neg (show ¬ ((!false && false) = true) from Bool.false_ne_true)]
        apply wpAny_pure
        refine h true _ _ ps1 sb1 ho1 ⟨es1, _, t1', hex, rfl, hE2, hp2.nodup_iff.mpr hnd1, ⟨T1', by rw [hz1]; exact hroom⟩⟩ ?_
        rw [if_neg hnot]
        exact hp2
    cases hpl : t1.plain with
    | true =>
      rw [if_pos rfl]
      apply wpAny_bind
      refine wp_byValue hx' ?_
      exact store true
    | false =>
      rw [if_neg Bool.false_ne_true]
      apply wpAny_bind
      apply wpAny_pure
      exact store true
end
/-- a set of which the number of members alone is told -/
def SetN (a : Addr) (m : Nat) : HO := .ext fun h => ∃ o es ep t, h.get? a = some o ∧ o.ExactSet ∧ o.data = .set es ep t ∧ t.fits es.size = true ∧ es.size = m ∧ m ≤ 76
theorem setN_ok {P : Program} {w : World} {H : Hp} {h0 h : Heap} {a : Addr} {ps : List (Int × Int)} {o : Obj} (ho : h.get? a = some o) (hs : SetPr P w h0 o ps) : ObjOk P w H h a (SetN a ps.length) := by
  obtain ⟨es, ep, t, h1, h2, h3, h4, h5⟩ := hs
  have hlen := Paired.length h3
  rw [Array.length_toList] at hlen
  have hsm : es.size ≤ 76 := by
    have := h5.room
    rcases h5.T.mask with z | z | z <;> omega
  exact ⟨⟨o, es, ep, t, ho, h1, h2, h5.fits, hlen, by omega⟩, ⟨o, ho⟩, fun h1 h2 ⟨o', es', ep', t', e, r⟩ k => ⟨o', es', ep', t', k _ e, r⟩⟩
theorem setPr_nil (P : Program) (w : World) (h0 : Heap) : SetPr P w h0 (setObj0 w) [] := ⟨#[], 0, _, ⟨rfl, rfl, rfl⟩, rfl, .nil, List.nodup_nil, SOk.fresh 0 0 _⟩
section
variable {X : Cx} (K : PySem.W.Frag)
theorem isPr_of {P : Program} {w : World} {H : Hp} {h : Heap} (I : HOk P w H h) {t : Addr} {r : Int × Int} (e : H t = some (.tup [.int r.1, .int r.2])) : IsPr P w h r t := by
  obtain ⟨_, its, rv, o, ho, hc, n, hd⟩ := I t _ e
  refine ⟨o, its.toArray, n, ho, hc, hd, ?_⟩
  cases rv with
  | cons h1 rv =>
    cases rv with
    | cons h2 rv =>
      cases rv
      obtain ⟨t1, rfl⟩ := h1
      obtain ⟨t2, rfl⟩ := h2
      exact .cons (intKind_is _ _ _ _) (.cons (intKind_is _ _ _ _) .nil)
theorem kSetP (hc : X.calm = true) (hu : X.A.units + 64 < cLine) (h : X.K = K := by rfl) : CallR X (.type "set") (fun xs H Q => ∃ (p : Addr) (ys : List V) (rs : List (Int × Int)), xs = [.ref p] ∧ SqL K H p ys ∧ Prs H ys rs ∧ rs.length ≤ 76 ∧
    ∀ (l : Addr) (m : Nat), H l = none → m ≤ rs.length → (m = rs.length ↔ rs.Nodup) → Q (.ref l) (upd H l (SetN l m))) := by
  subst h
  intro pins s σ H xs us Q I rv h
  obtain ⟨p, ys, rs, rfl, hq, pr, hn, q⟩ := h
  obtain ⟨u, rfl, ru⟩ := rv.one
  cases ru
  obtain ⟨its, r, pl, hz⟩ := I.list hq
  have hl := r.length
  have hyl := pr.len
  have es : its.toArray.size = rs.length := by rw [List.size_toArray]; omega
  refine call_setL (I.ok.hd hc) pl.isList (fun i o => ∃ ps, SetPr X.prog X.w s.heap o ps ∧ ps.length ≤ i ∧ (∀ k, k ∈ ps ↔ k ∈ rs.take i) ∧ (ps.length = i ↔ (rs.take i).Nodup)) (fun h' => ∀ b o, b < s.heap.objs.size → s.heap.get? b = some o → h'.get? b = some o) ⟨[], setPr_nil _ _ _, Nat.le_refl _, fun k => by simp, by simp⟩ (fun _ k => k) ?_ ?_
  · intro i v s1 o Q1 E1 hi hv kp ho ⟨ps, hps, hle, hm, hlen⟩ hq1
    have hi' : i < ys.length := by omega
    have hir : i < rs.length := by omega
    have hv' : its[i]? = some v := by rw [List.getElem?_toArray] at hv; exact hv
    obtain ⟨t, rr, et, ett, er⟩ := pr.get (i := i) (x := ys[i]) (List.getElem?_eq_getElem hi')
    obtain ⟨u, eu, ru⟩ := r.get (i := i) (x := ys[i]) (List.getElem?_eq_getElem hi')
    rw [hv'] at eu
    cases eu
    rw [et] at ru
    cases ru
    have hx : IsPr X.prog X.w s.heap rr t := isPr_of I.hok ett
    have k00 : ∀ c o', s.heap.get? c = some o' → s1.heap.get? c = some o' := fun c o' e => kp c o' (Heap.lt_size e) e
    have hu3 : X.A.in1.in1.in1.units < cLine := by simp only [Around.in1_units]; omega
    unfold setAdd
    apply wpAny_holding
    apply wpAny_bind
    refine wpAny_pyHash_tuple hu3 (hx.keep fun o' e => k00 t o' e) ?_
    refine wp_addP (s := { s1 with toks := s1.toks + (([rr.1, rr.2] : List Int).length + 1) }) hu3 k00 ho hps hx (by omega) fun b h' o' ps' sb ho' hps' hp => ?_
    refine hq1 b h' _ o' (Nat.le_add_right _ _) sb ho' ⟨ps', hps', ?_, fun k => ?_, ?_⟩
    · rw [hp.length_eq]
      split
      · omega
      · rw [List.length_append, List.length_singleton]; omega
    · rw [hp.mem_iff, take_succ_mem er]
      split
      · rename_i hin
        rw [hm k]
        constructor
        · exact .inl
        · rintro (z | rfl)
          · exact z
          · exact (hm _).mp hin
      · rw [List.mem_append, hm k, List.mem_singleton]
    · have htk : rs.take (i + 1) = rs.take i ++ [rr] := by rw [List.take_add_one, er]; rfl
      have hnd : (rs.take (i + 1)).Nodup ↔ (rs.take i).Nodup ∧ rr ∉ rs.take i := by
        rw [htk, List.nodup_append]
        constructor
        · rintro ⟨h1, _, h3⟩
          exact ⟨h1, fun z => h3 rr z rr (List.mem_singleton.mpr rfl) rfl⟩
        · rintro ⟨h1, h2⟩
          exact ⟨h1, by simp, fun a ha b hb e => by rw [List.mem_singleton] at hb; subst hb; exact h2 (e ▸ ha)⟩
      rw [hp.length_eq, hnd, ← hlen, ← hm rr]
      split
      · rename_i hin
        constructor
        · intro z; omega
        · rintro ⟨_, z⟩; exact absurd hin z
      · rename_i hin
        rw [List.length_append, List.length_singleton]
        constructor
        · intro z; exact ⟨by omega, hin⟩
        · rintro ⟨z, _⟩; omega
  · intro h' tk o' ho' ⟨ps, hps, hle, hm, hlen⟩ hk
    rw [es] at hle hlen
    rw [List.take_length] at hlen
    exact ⟨.ref _, _, I.laid (o := SetN s.heap.objs.size ps.length) (fun b o e => hk b o (Heap.lt_size e) e) (Nat.le_refl _) (setN_ok ho' hps), rfl, q _ ps.length I.fresh hle hlen⟩
theorem kLenN : CallR X (.builtin "len") (fun xs H Q => ∃ p m, xs = [.ref p] ∧ H p = some (SetN p m) ∧ Q (.int (m : Nat)) H) := by
  intro pins s σ H xs us Q I rv h
  obtain ⟨p, m, rfl, hp, q⟩ := h
  obtain ⟨u, rfl, ru⟩ := rv.one
  cases ru
  obtain ⟨⟨o, es, ep, t, ho, h1, h2, h3, h4, h5⟩, _⟩ := I.hok p _ hp
  refine call_len_set ho h1 h2 h3 (by omega) ?_
  exact ⟨.int (m : Nat), H, I.tok _, ⟨s.toks + 1, by rw [h4]⟩, q⟩
end
end L2
namespace L2
open PySem PySem.Spec PyProof.Rows
/-! ### lists of triples of whole numbers -/
abbrev Tri := Int × Int × Int
inductive Trs (H : Hp) : List V → List Tri → Prop
  | nil : Trs H [] []
  | cons {p : Addr} {a b c : Int} {xs : List V} {rs : List Tri} : H p = some (.tup [.int a, .int b, .int c]) → Trs H xs rs → Trs H (.ref p :: xs) ((a, b, c) :: rs)
def trD (r : Tri) : PyData := .tuple [.int r.1, .int r.2.1, .int r.2.2]
section
variable {X : Cx} (K : PySem.W.Frag)
end
end L2
namespace L2
open PySem PySem.Spec PyProof.Rows
/-! ### tables: the mathematics -/
def Nd (ts : List Tri) (c : Int) (r : Tri) : Prop := 2 ≤ c ∧ ts[(c - 2).toNat]? = some r
/-- a number that a node of road lo may name -/
def At (ts : List Tri) (c lo : Int) : Prop := c = 0 ∨ c = 1 ∨ ∃ r, Nd ts c r ∧ lo < r.1
def TabOk (ts : List Tri) : Prop := ∀ (i : Nat) (r : Tri), ts[i]? = some r → (0 ≤ r.1 ∧ r.1 < 30) ∧ At ts r.2.1 r.1 ∧ At ts r.2.2 r.1
/-! the sets of a table -/
inductive Has (ts : List Tri) : Int → List Int → Prop
  | one : Has ts 1 []
  | low {c : Int} {r : Tri} {rs : List Int} : Nd ts c r → Has ts r.2.1 rs → Has ts c rs
  | high {c : Int} {r : Tri} {rs : List Int} : Nd ts c r → Has ts r.2.2 rs → Has ts c (r.1 :: rs)
/-! numbers given in the order of finding -/
def numI (fs : List Int) (n : Int) : Option Int := if n = 0 then some 0 else if n = 1 then some 1 else (fs.idxOf? n).map fun (i : Nat) => (i : Int) + 2
end L2
namespace L2
open PySem PySem.Spec PyProof.Rows
/-! ### tables put into order: the mathematics -/
/-- what is found stands in its dict -/
structure Fnd (ks : List Tri) (root : Int) (fs : List Int) (kvs : List (Key × V)) (k : Nat) : Prop where
  num : ∀ n : Int, valV kvs (.inl n) = (numI fs n).map V.int
  nd : fs.Nodup
  nod : ∀ x ∈ fs, ∃ r, Nd ks x r
  kle : k ≤ fs.length
  cl : ∀ (i : Nat), i < k → ∀ (x : Int) (r : Tri), fs[i]? = some x → Nd ks x r → (numI fs r.2.1).isSome ∧ (numI fs r.2.2).isSome
  kl : kvs.length ≤ fs.length + 2
/-- the table that is told -/
def Said (ks : List Tri) (fs : List Int) (us : List Tri) (i : Nat) : Prop := ∀ (j : Nat) (x : Int), j < i → fs[j]? = some x → ∃ (r : Tri) (a b : Int), Nd ks x r ∧ numI fs r.2.1 = some a ∧ numI fs r.2.2 = some b ∧ us[j]? = some (r.1, a, b)
/-! nodes made one where they are alike -/
def Bk (ts : List Tri) : Prop := ∀ (i : Nat) (r : Tri), ts[i]? = some r → r.2.1 < (i : Int) + 2 ∧ r.2.2 < (i : Int) + 2
structure MapOk (ts ks : List Tri) (sm : List Int) (i : Nat) : Prop where
  len : sm.length = i + 2
  at_ : ∀ c lo : Int, c < (i : Int) + 2 → At ts c lo → At ks (sm.getD c.toNat 0) lo
def keyT (r : Tri) : List Key := [.inl r.1, .inl r.2.1, .inl r.2.2]
def SeenOk (kvs : List (List Key × V)) (ks : List Tri) : Prop := ∀ r : Tri, ∀ v : V, valV kvs (keyT r) = some v → ∃ c : Int, v = .int c ∧ Nd ks c r
end L2
namespace L2
open PySem PySem.Spec PyProof.Rows
/-! ### sets of pairs -/
section
variable {P : Program} {w : World} {A : Around} {E : Value → Shared → Prop} {s : Shared}
abbrev hashL (P : Program) (w : World) (r : List Int) : Int := tupleKeyHash (intKind P w) r
def IsTu (P : Program) (w : World) (h : Heap) (r : List Int) (a : Addr) : Prop := IsTupleKey (intKind P w) h r a
def TEnt (P : Program) (w : World) (h : Heap) (e : Int × Value) (r : List Int) : Prop := e.1 = hashL P w r ∧ ∃ a, e.2 = .ref a ∧ IsTu P w h r a
section
variable {a b : Addr} {o : Obj} {es : Array (Int × Value)} {ep : Nat} {t : SetTable} {ps : List (List Int)} {r : List Int} {Q : SetFound → Shared → Prop}
end
end
end L2
namespace L2
open PySem PySem.Spec PyProof.Rows
section
variable {P : Program} {w : World} {A : Around} {E : Value → Shared → Prop} {s : Shared}
/-- the set's object, its pairs in the heap h0 -/
def SetTu (P : Program) (w : World) (h0 : Heap) (o : Obj) (ps : List (List Int)) : Prop := ∃ es ep t, o.ExactSet ∧ o.data = .set es ep t ∧ Paired (TEnt P w h0) es.toList ps ∧ ps.Nodup ∧ SOk t es
end
section
variable {X : Cx} (K : PySem.W.Frag)
/-- a list of tuples of whole numbers -/
inductive Tus (H : Hp) : List V → List (List Int) → Prop
  | nil : Tus H [] []
  | cons {p : Addr} {r : List Int} {xs : List V} {rs : List (List Int)} : H p = some (.tup (r.map V.int)) → Tus H xs rs → Tus H (.ref p :: xs) (r :: rs)
end
end L2
namespace L2
open PySem PySem.Spec PyProof.Rows
/-! ### set(list of triples) -/
def tl3 (r : Tri) : List Int := [r.1, r.2.1, r.2.2]
section
variable {X : Cx} (K : PySem.W.Frag)
end
end L2
namespace L2
open PySem PySem.Spec PyProof.Rows
/-! ### the order in which nodes are found: the mathematics -/
def chT (ks : List Tri) (x : Int) : List Int := match ks[(x - 2).toNat]? with | some r => [r.2.1, r.2.2] | none => []
def strm (ks : List Tri) (root : Int) (f : List Int) : List Int := root :: f.flatMap (chT ks)
def New (f : List Int) (x : Int) : Prop := x ≠ 0 ∧ x ≠ 1 ∧ x ∉ f
def Ext (ks : List Tri) (root : Int) (f : List Int) (x : Int) : Prop := ∃ p q, strm ks root f = p ++ x :: q ∧ New f x ∧ ∀ y ∈ p, ¬ New f y
inductive Rch (ks : List Tri) (root : Int) : List Int → Prop
  | nil : Rch ks root []
  | snoc {f : List Int} {x : Int} : Rch ks root f → Ext ks root f x → Rch ks root (f ++ [x])
def Fin (ks : List Tri) (root : Int) (f : List Int) : Prop := ∀ y ∈ strm ks root f, ¬ New f y
/-! what the loop of the finding knows -/
/-! the order is that of the table -/
def seq2 (n : Nat) : List Int := (List.range n).map fun (i : Nat) => (i : Int) + 2
end L2
namespace L2
open PySem PySem.Spec PyProof.Rows
/-! ### a comprehension over a tuple; list.extend(tuple) -/
section
variable {X : Cx}
def rExtendT : V → List V → Hp → VK → Prop := fun x vs H Q => ∃ l b xs zs, x = .ref l ∧ vs = [.ref b] ∧ H l = some (.lst xs) ∧ H b = some (.tup zs) ∧ xs.length + zs.length ≤ sizeLine ∧ Q .non (upd H l (.lst (xs ++ zs)))
end
end L2
namespace L2
open PySem PySem.Spec PyProof.Rows
/-! ### max(list of ints); list(range(a, b)) -/
section
variable {X : Cx}
end
/-! ### what found_from knows -/
structure Wk (ks : List Tri) (root : Int) (fs : List Int) (kvs : List (Key × V)) (pr ah : List Int) : Prop where
  e : strm ks root fs = pr ++ ah
  old : ∀ y ∈ pr, ¬ New fs y
  seen : ∀ n : Int, valV kvs (.inl n) = none ↔ New fs n
  nd : fs.Nodup
  nod : ∀ x ∈ fs, ∃ r, Nd ks x r
  rch : Rch ks root fs
  kl : kvs.length ≤ fs.length + 2
  ok : ∀ y ∈ ah, At ks y (-1)
/-! a table's nodes, looked at -/
structure NodeOk (ts : List Tri) (many : Int) (r : Tri) : Prop where
  road : 0 ≤ r.1 ∧ r.1 < many
  low : 0 ≤ r.2.1 ∧ r.2.1 < (ts.length : Int) + 2
  high : 0 < r.2.2 ∧ r.2.2 < (ts.length : Int) + 2
  lo : ∀ q, Nd ts r.2.1 q → r.1 < q.1
  hi : ∀ q, Nd ts r.2.2 q → r.1 < q.1
end L2
namespace L2
open PySem PySem.Spec PyProof.Rows
/-! ### lists of triples, cut and changed -/
/-! ### tables, a node changed -/
end L2
namespace L2
open PySem PySem.Spec PyProof.Rows
/-! ### things: whole numbers, truths, None, texts, lists and tuples of such, that stand in the heap -/
mutual
inductive Th (H : Hp) : V → PyData → Prop
  | non : Th H .non .none
  | bl (b : Bool) : Th H (.bl b) (.bool b)
  | int (i : Int) : Th H (.int i) (.int i)
  | str (x : Str) : Th H (.str x) (.str x)
  | lst {a : Addr} {xs : List V} {ds : List PyData} : H a = some (.lst xs) → xs.length ≤ 1000 → Ths H xs ds → Th H (.ref a) (.list ds)
  | tup {a : Addr} {xs : List V} {ds : List PyData} : H a = some (.tup xs) → xs.length ≤ 1000 → Ths H xs ds → Th H (.ref a) (.tuple ds)
inductive Ths (H : Hp) : List V → List PyData → Prop
  | nil : Ths H [] []
  | cons {x : V} {d : PyData} {xs : List V} {ds : List PyData} : Th H x d → Ths H xs ds → Ths H (x :: xs) (d :: ds)
end
mutual
theorem Th.same {H H' : Hp} (s : Same H H') : ∀ {v : V} {d : PyData}, Th H v d → Th H' v d
  | _, _, .non => .non
  | _, _, .bl b => .bl b
  | _, _, .int i => .int i
  | _, _, .str x => .str x
  | _, _, .lst e z h => .lst (s _ _ e) z (Ths.same s h)
  | _, _, .tup e z h => .tup (s _ _ e) z (Ths.same s h)
theorem Ths.same {H H' : Hp} (s : Same H H') : ∀ {vs : List V} {ds : List PyData}, Ths H vs ds → Ths H' vs ds
  | _, _, .nil => .nil
  | _, _, .cons h t => .cons (Th.same s h) (Ths.same s t)
end
theorem Ths.len {H : Hp} : ∀ {vs : List V} {ds : List PyData}, Ths H vs ds → vs.length = ds.length
  | _, _, .nil => rfl
  | _, _, .cons _ t => by rw [List.length_cons, List.length_cons, Ths.len t]
theorem Ths.get {H : Hp} : ∀ {vs : List V} {ds : List PyData}, Ths H vs ds → ∀ {i : Nat} {x : V}, vs[i]? = some x → ∃ d, ds[i]? = some d ∧ Th H x d
  | _, _, .nil, _, _, h => by simp at h
  | _, _, .cons h _, 0, _, e => by
    simp at e
    subst e
    exact ⟨_, rfl, h⟩
  | _, _, .cons _ t, i + 1, _, e => by
    rw [List.getElem?_cons_succ] at e ⊢
    exact Ths.get t e
/-! ### things written out -/
def tDat (d : PyData) : TE := fun _ H Q => ∀ v H', Same H H' → Th H' v d → Q v H'
def tDats (ds : List PyData) : TA := fun _ H Q => ∀ vs H', Same H H' → Ths H' vs ds → Q vs H'
section
variable {X : Cx} {e : Expr} {es : List Expr} {d : PyData} {ds : List PyData} {pos : Pos}
end
section
variable {X : Cx} {a : Expr} {ta : TE} {pos : Pos}
end
/-! ### wishes: the mathematics -/
def sJoin : List Str := ["and", "or", "but"]
def sBare : List Str := ["closed", "shy", "all"]
def sPair : List Str := ["open", "long"]
def sFour : List Str := ["with", "off", "over", "past"]
def small : PyData → Bool
  | .int i => decide (0 ≤ i) && decide (i ≤ 9999)
  | _ => false
def leafB (w : Str) (rest : List PyData) : Bool :=
  if w ∈ sBare then rest.isEmpty
  else if w ∈ sPair then (match rest with | [a, b] => small a && small b | _ => false)
  else if w ∈ sFour then (match rest with | [.tuple ds] => ds.all small | _ => false)
  else false
def wishB : Nat → PyData → Bool
  | 0, _ => false
  | n + 1, .tuple (.str w :: rest) => if w ∈ sJoin ∧ rest.length = 2 then rest.all (wishB n) else leafB w rest
  | _ + 1, _ => false
inductive Ws : PyData → Nat → Prop
  | leaf {w : Str} {rest : List PyData} : leafB w rest = true → Ws (.tuple (.str w :: rest)) 1
  | join {w : Str} {a b : PyData} {m n : Nat} : w ∈ sJoin → Ws a m → Ws b n → Ws (.tuple [.str w, a, b]) (max m n + 1)
def Non (d : PyData) : Prop := ∀ n, wishB n d = false
end L2
namespace L2
open PySem PySem.Spec PyProof.Rows
variable {X : Cx}
/-! ### texts: str(n), len, +, startswith, int(text), f'..' -/
abbrev num (i : Int) : Str := Str.ofString (toString i)
theorem kStr : CallR X (.type "str") (fun xs H Q => ∃ i : Int, xs = [.int i] ∧ (0 ≤ i ∧ i < 10 ^ 10) ∧ Q (.str (num i)) H) := by
  intro pins s σ H xs us Q I rv h
  obtain ⟨i, rfl, ⟨h0, h1⟩, q⟩ := h
  obtain ⟨u, rfl, ru⟩ := rv.one
  obtain ⟨t, rfl⟩ := ru
  refine P.str_of_int (shown (N := 10 ^ 10) (by omega) h1 (by decide +kernel)) ?_
  exact ⟨.str _, H, I.tok _, ⟨_, rfl⟩, q⟩
theorem kLenS : CallR X (.builtin "len") (fun xs H Q => ∃ x : Str, xs = [.str x] ∧ x.length ≤ 16777216 ∧ Q (.int x.length) H) := by
  intro pins s σ H xs us Q I rv h
  obtain ⟨x, rfl, hl, q⟩ := h
  obtain ⟨u, rfl, ru⟩ := rv.one
  obtain ⟨t, rfl⟩ := ru
  refine P.len_str (by omega) ?_
  exact ⟨.int _, H, I.tok _, ⟨_, rfl⟩, q⟩
theorem kIntS : CallR X (.type "int") (fun xs H Q => ∃ (x : Str) (n : Int), xs = [.str x] ∧ PySem.intText? x = some n ∧ x.length ≤ 640 ∧ Q (.int n) H) := by
  intro pins s σ H xs us Q I rv h
  obtain ⟨x, n, rfl, hn, hl, q⟩ := h
  obtain ⟨u, rfl, ru⟩ := rv.one
  obtain ⟨t, rfl⟩ := ru
  refine PySem.W.KIN.call_text hn hl ?_
  exact ⟨.int _, H, I.tok _, ⟨_, rfl⟩, q⟩
/-! `+` of texts -/
def tAddS (ta tb : TE) : TE := fun σ H Q => ta σ H fun x H1 => tb σ H1 fun y H2 => ∃ a b, x = .str a ∧ y = .str b ∧ a.length + b.length ≤ 16777216 ∧ Q (.str (a ++ b)) H2
theorem pe_addS {a b : Expr} {ta tb : TE} {pos : Pos} (ha : PE X a ta) (hb : PE X b tb) : PE X (.BinOp a .Add b pos) (tAddS ta tb) := by
  intro pins s σ H Q I h
  refine wpAny_BinOp (bin ha hb I h fun v u s2 x y H2 I2 rx ry q => ?_)
  obtain ⟨i, j, rfl, rfl, hl, q⟩ := q
  obtain ⟨t, rfl⟩ := rx
  obtain ⟨t', rfl⟩ := ry
  exact SBL.add (hsz := hl) fun t' k _ => ⟨.str _, H2, I2.tok _, ⟨_, rfl⟩, q⟩
/-! startswith -/
theorem mt_starts : MtR X "str.startswith" (fun x xs H Q => ∃ a b, x = .str a ∧ xs = [.str b] ∧ Q (.bl (Txt.startswith a b)) H) := by
  intro pins s σ H x xs v us Q I rx rv h
  obtain ⟨a, b, rfl, rfl, q⟩ := h
  obtain ⟨u, rfl, ru⟩ := rv.one
  obtain ⟨t, rfl⟩ := ru
  obtain ⟨t', rfl⟩ := rx
  exact SC.startswith ⟨.bl _, H, I, rfl, q⟩
/-! a list of texts joined -/
theorem strs_back : ∀ {ys : List Str} {its : List Value}, Vals (ys.map V.str) its → ∃ l : List (Str × Tok), strValues l = its ∧ l.map (·.1) = ys
  | [], _, h => by cases h; exact ⟨[], rfl, rfl⟩
  | y :: ys, _, h => by
    cases h with
    | cons r h =>
      obtain ⟨t, rfl⟩ := r
      obtain ⟨l, rfl, e⟩ := strs_back h
      exact ⟨(y, t) :: l, rfl, by rw [List.map_cons, e]⟩
theorem strs_on : ∀ (tk : Nat) (ys : List Str), Vals (ys.map V.str) (strsFrom tk ys)
  | _, [] => .nil
  | tk, y :: ys => .cons ⟨_, rfl⟩ (strs_on (tk + 1) ys)
theorem mt_join (K : PySem.W.Frag) (hK : X.K = K := by rfl) : MtR X "str.join" (fun x xs H Q => ∃ a l ys, x = .str a ∧ xs = [.ref l] ∧ SqL K H l (ys.map V.str) ∧ JoinOk a ys = true ∧ Q (.str (Txt.join a ys)) H) := by
  subst hK
  intro pins s σ H x xs v us Q I rx rv h
  obtain ⟨a, l, ys, rfl, rfl, hl, hj, q⟩ := h
  obtain ⟨u, rfl, ru⟩ := rv.one
  cases ru
  obtain ⟨t', rfl⟩ := rx
  obtain ⟨its, hv, pl, _⟩ := I.list hl
  obtain ⟨ls, rfl, e⟩ := strs_back hv
  exact SC.join pl.isList e hj fun t' k => ⟨.str _, H, I.tok _, ⟨_, rfl⟩, q⟩
/-! a text split at another -/
theorem mt_split : MtR X "str.split" (fun x xs H Q => ∃ a b, x = .str a ∧ xs = [.str b] ∧ (b.length == 0) = false ∧ a.length ≤ sizeLine ∧ (Builtin.Str.partsBetween a (Builtin.Str.occurrences a b 0 a.length (a.length + 1)) b.length).length ≤ sizeLine ∧
    ∀ l, H l = none → Q (.ref l) (upd H l (.lst ((Txt.split a b).map V.str)))) := by
  intro pins s σ H x xs v us Q I rx rv h
  obtain ⟨a, b, rfl, rfl, hy, hsz, hsz2, q⟩ := h
  obtain ⟨u, rfl, ru⟩ := rv.one
  obtain ⟨t, rfl⟩ := ru
  obtain ⟨t', rfl⟩ := rx
  have hf : H s.heap.objs.size = none := I.hok.fresh (Nat.le_refl _)
  have one : ∀ k, Txt.split a b = [a] → EP X pins σ Q (.ref s.heap.objs.size) { s with toks := k, heap := s.heap.push { cls := .type "list", data := .seq [Value.str a t'].toArray } } := fun k e =>
    ⟨.ref s.heap.objs.size, upd H s.heap.objs.size (.lst ((Txt.split a b).map V.str)), I.laid (t' := k) (fun b u e => Heap.get?_push_of_some _ e) (Nat.le_refl _) (by
      rw [e]; exact ⟨by show 1 ≤ sizeLine; decide +kernel, _, 0, .cons ⟨_, rfl⟩ .nil, Heap.get?_push_size _ rfl⟩), rfl, q _ hf⟩
  cases h1 : (decide (a.length < b.length) || decide (Builtin.Str.strKind a < Builtin.Str.strKind b))
  · cases h2 : (Builtin.Str.occurrences a b 0 a.length (a.length + 1)).isEmpty
    · refine call_meets F.slot_str_split (typeIs_str _ _ _) F.entry_str_split (F.args_str_split_2 _ _) (meets_str_split_sep a b t' t h1 hy h2 hsz hsz2) ?_
      have e : Txt.split a b = Builtin.Str.partsBetween a (Builtin.Str.occurrences a b 0 a.length (a.length + 1)) b.length := (if_neg (ne_true_of_eq_false h1)).trans (if_neg (ne_true_of_eq_false h2))
      refine ⟨.ref s.heap.objs.size, upd H s.heap.objs.size (.lst ((Txt.split a b).map V.str)), I.laid (fun b u e => Heap.get?_push_of_some _ e) (Nat.le_refl _) ?_, rfl, q _ hf⟩
      rw [e]
      exact ⟨by rw [List.length_map]; exact hsz2, _, 0, strs_on _ _, Heap.get?_push_size _ rfl⟩
    · exact call_meets F.slot_str_split (typeIs_str _ _ _) F.entry_str_split (F.args_str_split_2 _ _) (meets_str_split_not_found a b t' t h1 hy h2) (one _ ((if_neg (ne_true_of_eq_false h1)).trans (if_pos h2)))
  · exact call_meets F.slot_str_split (typeIs_str _ _ _) F.entry_str_split (F.args_str_split_2 _ _) (meets_str_split_cannot_occur a b t' t h1) (one _ (if_pos h1))
/-! a text parted at another -/
theorem mt_part : MtR X "str.partition" (fun x xs H Q => ∃ a b, x = .str a ∧ xs = [.str b] ∧ (b.length == 0) = false ∧ a.length ≤ sizeLine ∧
    ∀ l, H l = none → Q (.ref l) (upd H l (.tup [.str (Txt.partition a b).1, .str (Txt.partition a b).2.1, .str (Txt.partition a b).2.2]))) := by
  intro pins s σ H x xs v us Q I rx rv h
  obtain ⟨a, b, rfl, rfl, hy, hsz, q⟩ := h
  obtain ⟨u, rfl, ru⟩ := rv.one
  obtain ⟨t, rfl⟩ := ru
  obtain ⟨t', rfl⟩ := rx
  have hf : H s.heap.objs.size = none := I.hok.fresh (Nat.le_refl _)
  refine call_meets F.slot_str_partition (typeIs_str _ _ _) F.entry_str_partition (F.args_str_partition_2 _ _) (meets_str_partition a b t' t hy hsz) ?_
  unfold Txt.partition at q
  revert q
  cases Builtin.Str.occurrences a b 0 a.length 1 with
  | nil =>
    intro q
    exact ⟨.ref s.heap.objs.size, upd H s.heap.objs.size (.tup [.str a, .str Str.empty, .str Str.empty]), I.laid (fun b u e => Heap.get?_push_of_some _ e) (Nat.le_refl _) ⟨by show 3 ≤ sizeLine; decide +kernel, _, .cons ⟨_, rfl⟩ (.cons ⟨_, rfl⟩ (.cons ⟨_, rfl⟩ .nil)), ⟨_, Heap.get?_push_size _ rfl, rfl, _, rfl⟩⟩, rfl, q _ hf⟩
  | cons i r =>
    intro q
    exact ⟨.ref s.heap.objs.size, upd H s.heap.objs.size (.tup [.str (Builtin.Str.strSub a 0 i), .str b, .str (Builtin.Str.strSub a (i + b.length) a.length)]), I.laid (fun b u e => Heap.get?_push_of_some _ e) (Nat.le_refl _) ⟨by show 3 ≤ sizeLine; decide +kernel, _, .cons ⟨_, rfl⟩ (.cons ⟨_, rfl⟩ (.cons ⟨_, rfl⟩ .nil)), ⟨_, Heap.get?_push_size _ rfl, rfl, _, rfl⟩⟩, rfl, q _ hf⟩
/-! f'{a}..{b}' of whole numbers -/
def tFmt (te : TE) : TE := fun σ H Q => te σ H fun v H1 => ∃ i : Int, v = .int i ∧ (0 ≤ i ∧ i < 10 ^ 10) ∧ Q (.str (num i)) H1
theorem pe_fmt {e : Expr} {te : TE} {pos : Pos} (he : PE X e te) : PE X (.FormattedValue e (-1) none pos) (tFmt te) := by
  intro pins s σ H Q I h
  refine FormattedValue_plain (thn (he pins s σ H _ I h) fun v s1 ⟨x, H1, I1, r1, q1⟩ => ?_)
  obtain ⟨i, rfl, ⟨h0, h1⟩, q⟩ := q1
  obtain ⟨t, rfl⟩ := r1
  exact wpAny_formatField_int (shown (N := 10 ^ 10) (by omega) h1 (by decide +kernel)) ⟨.str _, H1, I1.tok _, ⟨_, rfl⟩, q⟩
def PJ (X : Cx) (es : List Expr) (t : Str → TE) : Prop := ∀ (pins : List (Addr × Obj)) (s : Shared) (σ : St) (H : Hp) (Q : VK) (out : Str), Inv X pins σ H s → t out σ H Q →
  wpAny (model X.prog X.w) X.A (joinParts out (evalEach es X.env)) (EP X pins σ Q) X.xe s
theorem pj_nil : PJ X [] (fun out _ H Q => out.length ≤ sizeLine ∧ Q (.str out) H) := fun pins s σ H Q out I h =>
  joinParts_nil ⟨.str _, H, I.tok _, ⟨_, rfl⟩, h.2⟩ h.1
theorem pj_cons {e : Expr} {es : List Expr} {te : TE} {t : Str → TE} (he : PE X e te) (h : PJ X es t) :
    PJ X (e :: es) (fun out σ H Q => te σ H fun v H1 => ∃ y, v = .str y ∧ (out ++ y).length ≤ sizeLine ∧ t (out ++ y) σ H1 Q) := by
  intro pins s σ H Q out I q
  refine joinParts_cons (thn (he pins s σ H _ I q) fun v s1 ⟨x, H1, I1, r1, y, e1, hl, q1⟩ => ?_)
  subst e1
  obtain ⟨t, rfl⟩ := r1
  exact ⟨hl, h pins s1 σ H1 Q _ I1 q1⟩
theorem pe_fstr {e1 e2 : Expr} {es : List Expr} {t : Str → TE} {pos : Pos} (h : PJ X (e1 :: e2 :: es) t) : PE X (.JoinedStr (e1 :: e2 :: es) pos) (t Str.empty) := fun pins s σ H Q I q =>
  JoinedStr_many (h pins s σ H Q _ I q)
end L2
namespace L2
open PySem PySem.Spec PyProof.Rows
/-! ### a text cut at one sign -/
def cutsFrom (c : Nat) : Nat → List Nat → List Nat
  | _, [] => []
  | k, x :: xs => if x = c then k :: cutsFrom c (k + 1) xs else cutsFrom c (k + 1) xs
theorem cutsFrom_len (c : Nat) : ∀ (k : Nat) (l : List Nat), (cutsFrom c k l).length ≤ l.length
  | _, [] => Nat.le_refl _
  | k, x :: xs => by
    have := cutsFrom_len c (k + 1) xs
    unfold cutsFrom
    split <;> simp only [List.length_cons] <;> omega
theorem occ_go (x : Str) (c limit : Nat) : ∀ (m k : Nat) (st : Array Nat × Nat), k + m = x.length + 1 → st.2 ≤ k →
    (forIn (List.range' k m) st (StrLaws.occBody x ⟨#[c]⟩ x.length limit)).run.fst.toList = st.1.toList ++ (cutsFrom c k (x.cps.toList.drop k)).take (limit - st.1.size)
  | 0, k, st, e, _ => by
    have : x.cps.toList.drop k = [] := List.drop_eq_nil_of_le (by show x.cps.toList.length ≤ k; have : x.cps.toList.length = x.length := Array.length_toList; omega)
    rw [this]
    show st.1.toList = st.1.toList ++ _
    simp [cutsFrom]
  | m + 1, k, st, e, hf => by
    have hL : x.cps.toList.length = x.length := Array.length_toList
    rw [List.range'_succ, List.forIn_cons]
    unfold StrLaws.occBody
    by_cases hc : x.cps.toList[k]? = some c
    · obtain ⟨hk, hv⟩ := List.getElem?_eq_some_iff.mp hc
      have hd : x.cps.toList.drop k = c :: x.cps.toList.drop (k + 1) := by rw [List.drop_eq_getElem_cons hk, hv]
      have hs := (StrLaws.subAt_one x c k).mpr hc
      rw [hd]
      unfold cutsFrom
      rw [if_pos rfl]
      by_cases hl : st.1.size < limit
      · rw [if_pos ⟨⟨⟨hl, hf⟩, hs.1⟩, hs.2⟩]
        refine (occ_go x c limit m (k + 1) (st.1.push k, k + 1) (by omega) (Nat.le_refl _)).trans ?_
        obtain ⟨d, hd⟩ : ∃ d, limit - st.1.size = d + 1 := ⟨limit - st.1.size - 1, by omega⟩
        have hd2 : limit - (st.1.push k).size = d := by rw [Array.size_push]; omega
        simp only [hd, hd2, Array.toList_push, List.take_succ_cons, List.append_assoc, List.singleton_append]
      · rw [if_neg fun h => hl h.1.1.1]
        refine (occ_go x c limit m (k + 1) (st.1, st.2) (by omega) (Nat.le_succ_of_le hf)).trans ?_
        have hd2 : limit - st.1.size = 0 := by omega
        simp only [hd2, List.take_zero]
    · rw [if_neg fun h => hc ((StrLaws.subAt_one x c k).mp ⟨h.1.2, h.2⟩)]
      refine (occ_go x c limit m (k + 1) (st.1, st.2) (by omega) (Nat.le_succ_of_le hf)).trans ?_
      by_cases hk : k < x.cps.toList.length
      · rw [List.drop_eq_getElem_cons hk]
        have hn : x.cps.toList[k] ≠ c := fun e => hc (by rw [List.getElem?_eq_getElem hk, e])
        rw [cutsFrom, if_neg hn]
      · rw [List.drop_eq_nil_of_le (by omega), List.drop_eq_nil_of_le (by omega)]
        rfl
theorem occ_one (x : Str) (c limit : Nat) : Builtin.Str.occurrences x ⟨#[c]⟩ 0 x.length limit = (cutsFrom c 0 x.cps.toList).take limit := by
  rw [StrLaws.occ_eq]
  refine (occ_go x c limit (x.length + 1 - 0) 0 (#[], 0) (by omega) (Nat.le_refl _)).trans ?_
  simp
def splitB (c : Nat) : List Nat → List Nat → List (List Nat)
  | B, [] => [B]
  | B, x :: xs => if x = c then B :: splitB c [] xs else splitB c (B ++ [x]) xs
theorem parts_go (c : Nat) : ∀ (R A B : List Nat), ((A.length :: (cutsFrom c (A.length + B.length) R).map (· + 1)).zip (cutsFrom c (A.length + B.length) R ++ [(A ++ B ++ R).length])).map (fun p => ((A ++ B ++ R).take p.2).drop p.1) = splitB c B R
  | [], A, B => by
    simp [cutsFrom, splitB]
    rw [List.take_of_length_le (by simp)]; simp
  | x :: xs, A, B => by
    unfold cutsFrom splitB
    by_cases h : x = c
    · subst h
      rw [if_pos rfl, if_pos rfl]
      have ih := parts_go x xs (A ++ B ++ [x]) []
      have e : A ++ B ++ [x] ++ [] ++ xs = A ++ B ++ x :: xs := by simp
      have e2 : (A ++ B ++ [x]).length = A.length + B.length + 1 := by simp [Nat.add_assoc]
      rw [e, e2] at ih
      simp only [List.length_nil, Nat.add_zero] at ih
      rw [List.map_cons, List.cons_append, List.zip_cons_cons, List.map_cons, ih]
      congr 1
      have : (A ++ B ++ x :: xs).take (A.length + B.length) = A ++ B := by
        rw [List.take_append_of_le_length (by simp), List.take_of_length_le (by simp)]
      show ((A ++ B ++ x :: xs).take (A.length + B.length)).drop A.length = B
      rw [this]; simp
    · rw [if_neg h, if_neg h]
      have ih := parts_go c xs A (B ++ [x])
      have e : A ++ (B ++ [x]) ++ xs = A ++ B ++ x :: xs := by simp
      have e2 : (B ++ [x]).length = B.length + 1 := by simp
      rw [e, e2] at ih
      exact ih
def mkS (l : List Nat) : Str := ⟨l.toArray⟩
theorem sub_list (x : Str) (i j : Nat) : Builtin.Str.strSub x i j = mkS ((x.cps.toList.take j).drop i) := by
  unfold Builtin.Str.strSub mkS
  congr 1
  apply Array.ext'
  rw [Array.toList_extract]
  simp [List.extract_eq_take_drop, List.drop_take]
theorem parts_one (x : Str) (c : Nat) : Builtin.Str.partsBetween x (cutsFrom c 0 x.cps.toList) 1 = (splitB c [] x.cps.toList).map mkS := by
  have h := parts_go c x.cps.toList [] []
  simp only [List.length_nil, Nat.add_zero, List.nil_append] at h
  unfold Builtin.Str.partsBetween
  have hL : x.cps.toList.length = x.length := Array.length_toList
  rw [← h, List.map_map, hL]
  refine List.map_congr_left fun p _ => ?_
  exact sub_list x p.1 p.2
theorem splitB_app {c : Nat} : ∀ {w : List Nat} {B R : List Nat}, c ∉ w → splitB c B (w ++ R) = splitB c (B ++ w) R
  | [], B, R, _ => by simp
  | y :: w, B, R, h => by
    have hy : y ≠ c := fun e => h (e ▸ List.mem_cons_self ..)
    rw [List.cons_append, splitB, if_neg hy, splitB_app (w := w) (fun e => h (List.mem_cons_of_mem _ e))]
    simp
theorem splitB_words {c : Nat} : ∀ {ws : List (List Nat)} {w : List Nat}, (∀ v ∈ w :: ws, c ∉ v) → splitB c [] (w ++ ws.flatMap (fun v => c :: v)) = w :: ws
  | [], w, h => by
    rw [List.flatMap_nil, splitB_app (h w (List.mem_cons_self ..))]
    simp [splitB]
  | v :: ws, w, h => by
    rw [List.flatMap_cons, splitB_app (h w (List.mem_cons_self ..)), List.cons_append, splitB, if_pos rfl, splitB_words (fun u hu => h u (List.mem_cons_of_mem _ hu))]
    simp
/-- what is split at the sign c, where x is words with c between -/
theorem split_words {x : Str} {c : Nat} (hc : c < 256) {w : List Nat} {ws : List (List Nat)} (hx : x.cps.toList = w ++ ws.flatMap (fun v => c :: v)) (h : ∀ v ∈ w :: ws, c ∉ v) : Txt.split x ⟨#[c]⟩ = (w :: ws).map mkS := by
  have key : (splitB c [] x.cps.toList).map mkS = (w :: ws).map mkS := by rw [hx, splitB_words h]
  have self : mkS x.cps.toList = x := rfl
  have none : cutsFrom c 0 x.cps.toList = [] → [x] = (w :: ws).map mkS := by
    intro e
    rw [← key, ← parts_one, e]
    simp [Builtin.Str.partsBetween, sub_list]
    rw [List.take_of_length_le (by rw [Array.length_toList]; exact Nat.le_refl _)]; exact self.symm
  unfold Txt.split
  split
  · rename_i h1
    rw [Bool.or_eq_true, decide_eq_true_eq, decide_eq_true_eq] at h1
    refine none ?_
    rcases h1 with h1 | h1
    · have : x.cps.toList = [] := by
        apply List.eq_nil_of_length_eq_zero
        rw [Array.length_toList]
        have : x.length < 1 := h1
        have e : x.length = x.cps.size := rfl
        omega
      rw [this]; rfl
    · exfalso
      have k1 : Builtin.Str.strKind ⟨#[c]⟩ = 1 := by unfold Builtin.Str.strKind; rw [if_pos (by simp; omega)]
      have k2 : 1 ≤ Builtin.Str.strKind x := by unfold Builtin.Str.strKind; split; omega; split <;> omega
      omega
  · have hlim : Builtin.Str.occurrences x ⟨#[c]⟩ 0 x.length (x.length + 1) = cutsFrom c 0 x.cps.toList := by
      rw [occ_one, List.take_of_length_le]
      have := cutsFrom_len c 0 x.cps.toList
      rw [Array.length_toList] at this
      exact Nat.le_succ_of_le this
    rw [hlim]
    split
    · rename_i h2
      exact none (List.isEmpty_iff.mp h2)
    · exact (parts_one x c).trans key
theorem cuts_mid {c : Nat} : ∀ {u : List Nat} {k : Nat} {v : List Nat}, c ∉ u → cutsFrom c k (u ++ c :: v) = (k + u.length) :: cutsFrom c (k + u.length + 1) v
  | [], k, v, _ => by simp [cutsFrom]
  | y :: u, k, v, h => by
    have hy : y ≠ c := fun e => h (e ▸ List.mem_cons_self ..)
    rw [List.cons_append, cutsFrom, if_neg hy, cuts_mid (fun e => h (List.mem_cons_of_mem _ e))]
    simp only [List.length_cons]
    rw [show k + 1 + u.length = k + (u.length + 1) by omega]
theorem part_mid {x : Str} {c : Nat} {u v : List Nat} (hx : x.cps.toList = u ++ c :: v) (h : c ∉ u) : Txt.partition x ⟨#[c]⟩ = (mkS u, ⟨#[c]⟩, mkS v) := by
  unfold Txt.partition
  rw [occ_one, hx, cuts_mid h]
  simp only [List.take_succ_cons, List.take_zero, Nat.zero_add]
  have hL : x.length = u.length + (v.length + 1) := by
    have e : x.cps.toList.length = x.length := Array.length_toList
    rw [← e, hx]; simp
  rw [sub_list, sub_list, hx, hL]
  have e1 : (u ++ c :: v).take u.length = u := by rw [List.take_append_of_le_length (Nat.le_refl _), List.take_of_length_le (Nat.le_refl _)]
  have e2 : ((u ++ c :: v).take (u.length + (v.length + 1))).drop (u.length + (⟨#[c]⟩ : Str).length) = v := by
    rw [List.take_of_length_le (by simp)]
    show (u ++ c :: v).drop (u.length + 1) = v
    rw [List.drop_append]; simp
  rw [e1, e2, List.drop_zero]
end L2
namespace L2
open PySem PySem.Spec PyProof.Rows
/-! ### the signs of a text walked -/
def Its (x : Str) : It := ⟨fun i _ => i < x.cps.size, fun i H v H' => H' = H ∧ ∃ c, x.cps[i]? = some c ∧ v = .str ⟨#[c]⟩, fun i _ => x.cps.size ≤ i⟩
theorem turn_str {P : Program} {w : World} {K : PySem.W.Frag} {tg : Expr} (it : Addr) (x : Str) (t : Tok) : Turn P w K tg (Its x) [it] it (fun i h => h.IsStrIter it "str_ascii_iterator" x t i) where
  mem := by simp
  obj := fun i h st b hb => by
    have e : b = it := by simpa using hb
    subst e
    obtain ⟨o, e, c, d⟩ := st
    exact ⟨o, e, fun v z => by rw [d] at z; cases z⟩
  keep := fun i h h' st k => by
    obtain ⟨o, e, r⟩ := st
    exact ⟨o, k it (by simp) o e, r⟩
  item := by
    intro X hP hw hK hc i pins s σ H E I hf st hg
    subst hP hw hK
    have hg : i < x.cps.size := hg
    obtain ⟨f0, f1, f2, f3, f4, f5⟩ := hf it (by simp)
    refine wpAny_pyNext_ascii_item st (c := x.cps[i]) (by simp [hg]) fun h' st' sb => ?_
    have I1 : Inv X pins σ H { s with heap := h', toks := s.toks + 1 } := I.turned (fun b o hb e => (sb.2 b hb).trans e) f0 f1 f3 f4 f5
    obtain ⟨o, e, c, d⟩ := id st'
    exact ⟨_, rfl, go_of (s := { s with heap := h', toks := s.toks + 1 }) e c d (by decide) ⟨.str ⟨#[x.cps[i]]⟩, H, I1, ⟨_, rfl⟩, ⟨rfl, x.cps[i], by simp [hg], rfl⟩, st', fun b hb => (hf b hb).1⟩⟩
  done := by
    intro X hP hw hK hc i pins s σ H E I hf st hg
    subst hP hw hK
    obtain ⟨f0, f1, f2, f3, f4, f5⟩ := hf it (by simp)
    have hg : x.cps.size ≤ i := hg
    exact wpAny_pyNext_ascii_end (I.ok.hd hc) st (by simp; omega) fun h' eb => ⟨rfl, I.turned (t' := s.toks) (fun b o hb e => eb b o hb e) f0 f1 f3 f4 f5⟩
  self := fun _ _ _ _ _ st h => wpAny_pyIter_striter_ascii st h
section
variable {X : Cx} {tg : Expr}
def iStr (tl : TE) : TI := fun σ H R => tl σ H fun v H1 => ∃ x : Str, v = .str x ∧ x.cps.all (· < 128) = true ∧ R (Its x) H1
theorem pi_str {l : Expr} {tl : TE} (hl : PE X l tl) : PI X tg l (iStr tl) := by
  intro pins s σ H R I h
  refine thn (hl pins s σ H _ I h) fun v s1 ⟨x, H1, I1, r1, q1⟩ => ?_
  obtain ⟨y, e, ha, q⟩ := q1
  subst e
  obtain ⟨t, rfl⟩ := r1
  refine wpAny_pyIter_ascii ha ?_
  refine ⟨s1.heap.objs.size, [s1.heap.objs.size], _, _, H1, rfl, I1.kept (t' := s1.toks) fun b o e => Heap.get?_push_of_some _ e, turn_str _ y t, ⟨_, Heap.get?_push_size _ rfl, rfl, rfl⟩, fun b hb => ?_, q⟩
  have e : b = s1.heap.objs.size := by simpa using hb
  subst e
  exact I1.fpOk (Nat.le_refl _) (I1.hok.fresh (Nat.le_refl _))
theorem comp_str {x : Str} {D : Addr} {g : TG} {tc : TT} {te : TE} {σ0 : St} {R : Hp → Prop} {H1 : Hp} (Pv : Nat → List V → Hp → Prop) (h0 : Pv 0 [] (upd H1 D (.lst [])))
    (hs : ∀ i c ys H, x.cps[i]? = some c → Pv i ys H → g (.str ⟨#[c]⟩) σ0 H fun σ4 H4 => keepSt σ0 σ4 ∧ tc σ4 H4 fun b H5 => if b = true then te σ4 H5 fun y H6 => H6 D = some (.lst ys) ∧ ys.length < sizeLine ∧ Pv (i + 1) (ys ++ [y]) (upd H6 D (.lst (ys ++ [y]))) else Pv (i + 1) ys H5)
    (hd : ∀ ys H, Pv x.cps.size ys H → R H) : ∃ W : Nat → Nat → List V → Hp → Prop, (∃ m, W 0 m [] (upd H1 D (.lst []))) ∧ CompTurns (Its x) D g tc te σ0 W R := by
  refine ⟨fun i m ys H => m = x.cps.size - i ∧ i ≤ x.cps.size ∧ Pv i ys H, ⟨_, rfl, Nat.zero_le _, h0⟩, ?_⟩
  rintro i m ys H ⟨rfl, hi, p⟩
  by_cases hlt : i < x.cps.size
  · refine .inr ⟨hlt, Pv (i + 1), fun ys' H' p' => ⟨x.cps.size - (i + 1), by omega, rfl, hlt, p'⟩, fun v H' y => ?_⟩
    obtain ⟨e, c, hc, rfl⟩ := y
    subst e
    exact hs i c ys _ hc p
  · have e : i = x.cps.size := by omega
    subst e
    exact .inl ⟨Nat.le_refl _, hd ys H p⟩
/-! a sign in a text -/
theorem kInS : OpR X (compareOp .In) (fun x y H Q => ∃ (c : Nat) (b : Str), x = .str ⟨#[c]⟩ ∧ y = .str b ∧ Q (.bl (decide (c ∈ b.cps.toList))) H) := by
  intro pins s σ H x y v u Q I rx ry h
  obtain ⟨c, b, rfl, rfl, q⟩ := h
  obtain ⟨t, rfl⟩ := rx
  obtain ⟨t', rfl⟩ := ry
  refine P.in_str ?_
  rw [StrLaws.found_one]
  exact ⟨.bl _, H, I, rfl, q⟩
end
end L2
namespace L2
open PySem PySem.Spec PyProof.Rows
/-! ### try: return e, where e raises nothing -/
theorem ps_tryRet {X : Cx} {e : Expr} {te : TE} {h : ExceptHandler} {hs : List ExceptHandler} {bpos pos : Pos} (he : PE X.nox e te) : PS X (.Try [.Return (some e) bpos] (h :: hs) [] [] pos) (tRet te) := by
  intro pins s σ H D I q
  refine wpAny_Try_except (wpAny_execs_cons (wpAny_Return_some (wpAny_mono (he pins s σ H _ (I.wish _) q) (fun v s1 ⟨x, H1, I1, r1, q1⟩ => ?_) fun _ _ z => False.elim z)))
  exact ⟨x, σ, H1, I1.unwish, r1, q1⟩
end L2
namespace M
open PySem L2
def top (i : Nat) : Stmt := PySem.Challenge.pw_onceways_k83_webs_written_and_read.main.body.getD i (.Pass ⟨0, 0, 0, 0⟩)
abbrev sWri : Stmt := top 7
abbrev sIsn : Stmt := top 8
abbrev sWebOf : Stmt := top 10
abbrev sSho : Stmt := top 14
abbrev sRoa : Stmt := top 15
abbrev sRea : Stmt := top 16
abbrev sCel : Stmt := top 18
abbrev sNum : Stmt := top 19
abbrev sBig : Stmt := top 20
abbrev sWww : Stmt := top 21
abbrev sAli : Stmt := top 22
abbrev sLaw : Stmt := top 23
end M
namespace M
open PySem L2
theorem boot_str : bootBuiltins "str" = some (.type "str") := by first | rfl | decide +kernel
/-! ### what is known of the texts of small numbers -/
structure SmallNum (i : Int) : Prop where
  le : (num i).length ≤ 2
  ge : 1 ≤ (num i).length
  dg : ∀ c ∈ (num i).cps.toList, c ∈ ("0123456789" : Str).cps.toList
  sp : 32 ∉ (num i).cps.toList
  da : 45 ∉ (num i).cps.toList
  rd : PySem.intText? (num i) = some i
  zr : (num i = ("0" : Str)) ∨ Txt.startswith (num i) ("0" : Str) = false
  as : (num i).cps.all (· < 128) = true
  ok : PyData.strOk (num i) = true
theorem small_num {i : Int} (h0 : 0 ≤ i) (h1 : i ≤ 16) : SmallNum i := by
  have key : ∀ k : Fin 17, ((num (k : Nat)).length ≤ 2 ∧ 1 ≤ (num (k : Nat)).length) ∧ (∀ c ∈ (num (k : Nat)).cps.toList, c ∈ ("0123456789" : Str).cps.toList) ∧ (32 ∉ (num (k : Nat)).cps.toList ∧ 45 ∉ (num (k : Nat)).cps.toList) ∧
      ((num (k : Nat) = ("0" : Str)) ∨ Txt.startswith (num (k : Nat)) ("0" : Str) = false) ∧ (num (k : Nat)).cps.all (· < 128) = true ∧ PyData.strOk (num (k : Nat)) = true := by decide +kernel
  obtain ⟨n, rfl⟩ : ∃ n : Nat, i = n := ⟨i.toNat, by omega⟩
  obtain ⟨⟨a, b⟩, c, ⟨d, e⟩, f, g, h⟩ := key ⟨n, by omega⟩
  exact ⟨a, b, c, d, e, PySem.W.KIN.num_reads (by omega) (by omega), f, g, h⟩
end M
namespace M
open PySem L2
theorem str_shaped {x : Str} (h : PyData.strOk x = true) : SeqAt.shaped (.str x) = true := by
  unfold SeqAt.shaped
  rw [Bool.and_eq_true]
  refine ⟨by simp only [PyData.canLay0]; exact h, decide_eq_true ?_⟩
  simp only [PyData.depth]
  omega
section
variable {P : Program} {w : World} {K : PySem.W.Frag} {mg : Str → Option Value} {base : Heap}
/-! ### is_written, is_number: of a small number's text -/
def spWri : Sp := fun vs H Q _ => ∃ i : Int, vs = [.str (num i), .int 4] ∧ (0 ≤ i ∧ i ≤ 16) ∧ ∀ H', Same H H' → Q (.bl true) H'
theorem scWri : FnScope ["word", "most"] ["word", "most"] (defScope sWri) := ⟨rfl, rfl, rfl, by decide +kernel, rfl, by decide +kernel, by decide +kernel⟩
theorem ok_wri {f : Addr} {fd : FuncData} {tF : Tok} (F : Fun K "is_written" "is_written" sWri f fd) (mFig : mg "FIGURES" = some (.str "0123456789" tF)) (mLen : mg "len" = none) (mAll : mg "all" = none) : FnOk P w K mg base CX0 1 f fd ["word", "most"] spWri := by
  refine F.ok scWri (fun vs H Q E h => ?_) (fun cdv A outer s H vs Q E hr h => ?_)
  · obtain ⟨_, rfl, _⟩ := h
    rfl
  · obtain ⟨i, rfl, ⟨h0, h1⟩, q⟩ := h
    have hu := hr.units
    have N := small_num h0 h1
    refine ⟨_, pss_cons (ps_if (PW.pt (pw_or (pt_not (pt_chain op_lt op_le pe_int (pe_callB kLenS rfl mLen PySem.boot_len (pa_cons (pv 0) pa_nil)) (pv 1))) (pw_or1 (pt_not (pt_val (pe_callB (kAll K rfl) rfl mAll boot_all (pa_cons (pe_comp (own := ["sign"]) rfl (compScope_plain (by decide +kernel) (by decide +kernel) rfl (by decide +kernel)) (pi_str (pv 0)) (fun _ _ _ _ => pg_name (i := 0) (show List.Nodup (["sign"] : List Str) by decide +kernel) rfl (Or.inl rfl)) (fun _ _ _ _ => pifs_nil) (fun _ _ _ _ => pe_cmpR kInS (pv 0) (pe_glob (v := .str "0123456789") rfl mFig ⟨_, rfl⟩) (by with_unfolding_all rfl))) pa_nil))))))) (pss_one (ps_ret pe_bl)) pss_nil)
       (pss_one (ps_ret (pe_or (pe_cmpR (kEqD K hu) (pv 0) pe_str (nomark _)) (pe_one (pe_not (pe_bm PySem.F.plainAttrs_str PySem.F.slot_str_startswith PySem.F.type_str_startswith mt_starts (pv 0) (pa_cons pe_str pa_nil))))))), ?_⟩
    refine ⟨_, rfl, num i, rfl, by have := N.le; omega, 0, _, rfl, rfl, _, rfl, ite2 (fun c => ?_) (fun c => absurd (decide_eq_true (show (0 : Int) < ((num i).length : Int) by have := N.ge; omega)) c)⟩
    refine ⟨_, rfl, _, _, rfl, rfl, _, rfl, ?_⟩
    have c4 : decide (((num i).length : Int) ≤ 4) = true := decide_eq_true (by have := N.le; omega)
    rw [c4]
    refine iteF ?_
    refine ⟨_, rfl, num i, rfl, N.as, fun D hD => ?_⟩
    refine comp_str (x := num i) (fun j vs H2 => Same H H2 ∧ H2 D = some (.lst vs) ∧ ∃ bs : List Bool, vs = bs.map V.bl ∧ bs.length = j ∧ bs.all id = true) ⟨Same.new hD, upd_same, [], rfl, rfl, rfl⟩ ?_ ?_
    · rintro j c vs H2 hc ⟨s2, hD2, bs, rfl, hbl, hba⟩
      refine ⟨trivial, ?_⟩
      unfold tYes
      refine iteT ?_
      obtain ⟨hj, hv⟩ := Array.getElem?_eq_some_iff.mp hc
      have hm : c ∈ (num i).cps.toList := by rw [← hv]; simp
      have hj2 : j < (num i).length := hj
      refine ⟨_, rfl, c, _, rfl, rfl, hD2, by have := N.le; rw [List.length_map, hbl, sizeLine_eq]; omega, s2.put hD, upd_same, bs ++ [true], ?_, by rw [List.length_append, hbl]; rfl, by rw [List.all_append, hba]; rfl⟩
      rw [List.map_append, decide_eq_true (N.dg c hm)]
      rfl
    · rintro vs H2 ⟨s2, hD2, bs, rfl, hbl, hba⟩
      refine ⟨D, bs, rfl, SqL.of hD2, ?_⟩
      rw [hba]
      refine ⟨_, rfl, ?_⟩
      refine iteF ?_
      refine ⟨_, rfl, .str (num i), .str ("0" : Str), .str _, .str _, str_shaped N.ok, str_shaped (by decide +kernel), _, rfl, ?_⟩
      show if (false != PyData.eqv (.str (num i)) (.str ("0" : Str))) = true then Q (.bl true) H2 else _
      rcases N.zr with z | z
      · rw [z]
        exact q _ s2
      · refine ite2 (fun _ => q _ s2) (fun _ => ?_)
        refine ⟨_, rfl, rfl, num i, _, rfl, rfl, _, rfl, ?_⟩
        rw [z]
        exact q _ s2
/-! is_number -/
def spIsn : Sp := fun vs H Q _ => ∃ i : Int, vs = [.str (num i)] ∧ (0 ≤ i ∧ i ≤ 16) ∧ ∀ H', Same H H' → Q (.bl true) H'
theorem scIsn : FnScope ["word"] ["word"] (defScope sIsn) := ⟨rfl, rfl, rfl, by decide +kernel, rfl, by decide +kernel, by decide +kernel⟩
theorem ok_isn {f fWri : Addr} {fd fdWri : FuncData} {t4 : Tok} (F : Fun K "is_number" "is_number" sIsn f fd) (FWri : Fun K "is_written" "is_written" sWri fWri fdWri) (bWri : Binds K fdWri ["word", "most"] []) (mWri : mg "is_written" = some (.ref fWri))
    (GWri : FnOk P w K mg base CX0 1 fWri fdWri ["word", "most"] spWri) (mMoF : mg "MOST_FIGURES" = some (.int 4 t4)) : FnOk P w K mg base CX0 2 f fd ["word"] spIsn := by
  refine F.ok scIsn (fun vs H Q E h => ?_) (fun cdv A outer s H vs Q E hr h => ?_)
  · obtain ⟨_, rfl, _⟩ := h
    rfl
  · obtain ⟨i, rfl, hi, q⟩ := h
    refine ⟨_, pss_one (ps_ret (pe_call GWri (hr.mono (by decide)) rfl mWri FWri.kp bWri .nil pass0 (pa_cons (pv 0) (pa_cons (pe_glob (v := .int 4) rfl mMoF ⟨_, rfl⟩) pa_nil)))), ?_⟩
    exact ⟨_, rfl, i, rfl, hi, q⟩
/-! ### road_of: of a road written -/
def roadS (a b : Int) : Str := num a ++ (("-" : Str) ++ num b)
def spRoa : Sp := fun vs H Q _ => ∃ (x : Str) (a b : Int), vs = [.str x] ∧ x.cps.toList = (num a).cps.toList ++ 45 :: (num b).cps.toList ∧ (0 ≤ a ∧ a ≤ 16) ∧ (0 ≤ b ∧ b ≤ 16) ∧ ∀ H' p, Same H H' → H' p = none → Q (.ref p) (upd H' p (.tup [.int a, .int b]))
theorem scRoa : FnScope ["word", "a", "dash", "b"] ["word"] (defScope sRoa) := ⟨rfl, rfl, rfl, by decide +kernel, rfl, by decide +kernel, by decide +kernel⟩
theorem ok_roa {f fIsn : Addr} {fd fdIsn : FuncData} (F : Fun K "road_of" "road_of" sRoa f fd) (FIsn : Fun K "is_number" "is_number" sIsn fIsn fdIsn) (bIsn : Binds K fdIsn ["word"] []) (mIsn : mg "is_number" = some (.ref fIsn))
    (GIsn : FnOk P w K mg base CX0 2 fIsn fdIsn ["word"] spIsn) (mInt : mg "int" = none) : FnOk P w K mg base CX0 3 f fd ["word"] spRoa := by
  refine F.ok scRoa (fun vs H Q E h => ?_) (fun cdv A outer s H vs Q E hr h => ?_)
  · obtain ⟨_, _, _, rfl, _⟩ := h
    rfl
  · obtain ⟨x, a, b, rfl, hx, ha, hb, q⟩ := h
    have Na := small_num ha.1 ha.2
    have Nb := small_num hb.1 hb.2
    refine ⟨_, pss_cons (ps_asg (pe_bm PySem.F.plainAttrs_str PySem.F.slot_str_partition PySem.F.type_str_partition mt_part (pv 0) (pa_cons pe_str pa_nil)) (kTup K (n := 3) rfl (pgs_cons (pg_name (i := 1) scRoa.nd rfl (Or.inl rfl)) (pgs_cons (pg_name (i := 2) scRoa.nd rfl (Or.inl rfl)) (pgs_cons (pg_name (i := 3) scRoa.nd rfl (Or.inl rfl)) pgs_nil)))))
       (pss_cons (ps_if (PW.pt (pw_or (pt_not (pt_val (pe_call GIsn (hr.mono (by decide)) rfl mIsn FIsn.kp bIsn .nil pass0 (pa_cons (pv 1) pa_nil)))) (pw_or1 (pt_not (pt_val (pe_call GIsn (hr.mono (by decide)) rfl mIsn FIsn.kp bIsn .nil pass0 (pa_cons (pv 3) pa_nil))))))) pss_never pss_nil)
       (pss_one (ps_ret (pe_tup (pa_cons (pe_callTy kIntS rfl mInt boot_int (pa_cons (pv 1) pa_nil)) (pa_cons (pe_callTy kIntS rfl mInt boot_int (pa_cons (pv 3) pa_nil)) pa_nil)))))), ?_⟩
    have hl : x.length ≤ sizeLine := by
      have e : x.cps.toList.length = x.length := Array.length_toList
      have e1 : (num a).cps.toList.length = (num a).length := Array.length_toList
      have e2 : (num b).cps.toList.length = (num b).length := Array.length_toList
      rw [← e, hx, List.length_append, List.length_cons, e1, e2, sizeLine_eq]
      have := Na.le; have := Nb.le; omega
    refine ⟨_, rfl, rfl, x, ("-" : Str), rfl, rfl, rfl, hl, fun l hll => ?_⟩
    rw [show Txt.partition x ("-" : Str) = (num a, ("-" : Str), num b) from part_mid hx Na.da]
    have s1 : Same H (upd H l (.tup [.str (num a), .str ("-" : Str), .str (num b)])) := Same.new hll
    refine ⟨l, _, rfl, SqT.of upd_same, rfl, ?_⟩
    generalize upd H l _ = H1 at s1 ⊢
    dsimp only [gCons, gName, gNil]
    refine ⟨_, _, rfl, _, _, rfl, _, _, rfl, rfl, ?_⟩
    refine ⟨_, rfl, a, rfl, ha, fun H2 s2 => ⟨_, rfl, iteF ?_⟩⟩
    refine ⟨_, rfl, b, rfl, hb, fun H3 s3 => ⟨_, rfl, iteF ?_⟩⟩
    refine ⟨_, rfl, num a, a, rfl, Na.rd, by have := Na.le; omega, _, rfl, num b, b, rfl, Nb.rd, by have := Nb.le; omega, ?_⟩
    exact ⟨by show 2 ≤ sizeLine; rw [sizeLine_eq]; omega, fun p hp => q _ _ (s1.trans (s2.trans s3)) hp⟩
end
end M
namespace M
open PySem L2
/-! ### the text of a web -/
theorem str_ext {a b : Str} (h : a.cps.toList = b.cps.toList) : a = b := by
  cases a; cases b
  congr 1
  exact Array.ext' h
theorem app_toL (a b : Str) : (a ++ b).cps.toList = a.cps.toList ++ b.cps.toList := by rw [PySem.Str.cps_append, Array.toList_append]
theorem toL_len (x : Str) : x.cps.toList.length = x.length := Array.length_toList
def roadL (p : Int × Int) : List Nat := (num p.1).cps.toList ++ 45 :: (num p.2).cps.toList
def webL (n : Int) (rs : List (Int × Int)) : List Nat := (num n).cps.toList ++ rs.flatMap (fun p => 32 :: roadL p)
def webT (n : Int) (rs : List (Int × Int)) : Str := mkS (webL n rs)
theorem webL_snoc (n : Int) (rs : List (Int × Int)) (p : Int × Int) : webL n (rs ++ [p]) = webL n rs ++ 32 :: roadL p := by
  unfold webL
  rw [List.flatMap_append, List.flatMap_cons, List.flatMap_nil, List.append_nil, List.append_assoc]
theorem roadL_len {p : Int × Int} (h1 : 0 ≤ p.1 ∧ p.1 ≤ 16) (h2 : 0 ≤ p.2 ∧ p.2 ≤ 16) : (roadL p).length ≤ 5 := by
  unfold roadL
  rw [List.length_append, List.length_cons, toL_len, toL_len]
  have := (small_num h1.1 h1.2).le
  have := (small_num h2.1 h2.2).le
  omega
/-- the web's numbers are small -/
def SmallWeb (n : Int) (rs : List (Int × Int)) : Prop := (0 ≤ n ∧ n ≤ 16) ∧ rs.length ≤ 30 ∧ ∀ p ∈ rs, (0 ≤ p.1 ∧ p.1 ≤ 16) ∧ (0 ≤ p.2 ∧ p.2 ≤ 16)
theorem flat_len : ∀ {rs : List (Int × Int)}, (∀ p ∈ rs, (0 ≤ p.1 ∧ p.1 ≤ 16) ∧ (0 ≤ p.2 ∧ p.2 ≤ 16)) → (rs.flatMap (fun p => 32 :: roadL p)).length ≤ 6 * rs.length
  | [], _ => Nat.le_refl _
  | p :: rs, h => by
    have h1 := h p (List.mem_cons_self ..)
    have := roadL_len h1.1 h1.2
    have ih := flat_len (rs := rs) fun q hq => h q (List.mem_cons_of_mem _ hq)
    rw [List.flatMap_cons, List.length_append, List.length_cons, List.length_cons]
    omega
theorem webT_len {n : Int} {rs : List (Int × Int)} (h : SmallWeb n rs) : (webT n rs).length ≤ 200 := by
  rw [← toL_len]
  show (webL n rs).length ≤ 200
  unfold webL
  have := flat_len h.2.2
  have := (small_num h.1.1 h.1.2).le
  have := h.2.1
  rw [List.length_append, toL_len]
  omega
theorem fold_join : ∀ (rs : List (Int × Int)) (acc : Array Nat), ((rs.map fun p => mkS (roadL p)).foldl (fun acc p => acc ++ (" " : Str).cps ++ p.cps) acc).toList = acc.toList ++ rs.flatMap (fun p => 32 :: roadL p)
  | [], acc => by simp
  | p :: rs, acc => by
    rw [List.map_cons, List.foldl_cons, fold_join rs, List.flatMap_cons]
    simp only [Array.toList_append]
    show acc.toList ++ [32] ++ roadL p ++ _ = _
    simp
theorem join_web (n : Int) (rs : List (Int × Int)) : Txt.join (" " : Str) (num n :: rs.map fun p => mkS (roadL p)) = webT n rs := by
  apply str_ext
  show (((num n :: rs.map fun p => mkS (roadL p)).drop 1).foldl (fun acc p => acc ++ (" " : Str).cps ++ p.cps) ((num n :: rs.map fun p => mkS (roadL p)).headD Str.empty).cps).toList = webL n rs
  exact fold_join rs (num n).cps
theorem join_ok {n : Int} {rs : List (Int × Int)} (h : SmallWeb n rs) : PySem.JoinOk (" " : Str) (num n :: rs.map fun p => mkS (roadL p)) = true := by
  unfold PySem.JoinOk
  have key : ∀ (l : List (Int × Int)) (a : Nat), (∀ p ∈ l, (0 ≤ p.1 ∧ p.1 ≤ 16) ∧ (0 ≤ p.2 ∧ p.2 ≤ 16)) → (l.map fun p => mkS (roadL p)).foldl (fun a s => a + s.length + (" " : Str).length) a ≤ a + 6 * l.length := by
    intro l
    induction l with
    | nil => intro a _; exact Nat.le_refl _
    | cons p l ih =>
      intro a hl
      have h1 := hl p (List.mem_cons_self ..)
      have h2 := roadL_len h1.1 h1.2
      have h3 : (mkS (roadL p)).length = (roadL p).length := rfl
      have h4 : (" " : Str).length = 1 := by decide +kernel
      rw [List.map_cons, List.foldl_cons]
      refine Nat.le_trans (ih _ fun q hq => hl q (List.mem_cons_of_mem _ hq)) ?_
      rw [List.length_cons]
      omega
  have h1 := (small_num h.1.1 h.1.2).le
  have h2 := h.2.1
  have h4 : (" " : Str).length = 1 := by decide +kernel
  have h3 := key rs (0 + (num n).length + (" " : Str).length) h.2.2
  rw [List.foldl_toArray', List.foldl_cons] <;> try rfl
  simp only [Bool.not_eq_true']
  unfold Builtin.Str.tooLong
  apply decide_eq_false
  rw [sizeLine_eq]
  omega
theorem fstr_road (r : Int × Int) : Str.empty ++ num r.1 ++ ("-" : Str) ++ num r.2 = mkS (roadL r) := by
  apply str_ext
  rw [app_toL, app_toL, app_toL]
  show [] ++ (num r.1).cps.toList ++ [45] ++ (num r.2).cps.toList = roadL r
  unfold roadL
  simp
structure WebAt (H : Hp) (wb l : Addr) (k : Int) (xs : List V) (rs : List (Int × Int)) : Prop where
  w : H wb = some (.tup [.int k, .ref l])
  l : H l = some (.lst xs)
  p : Prs H xs rs
theorem WebAt.same {H H' : Hp} {wb l : Addr} {k : Int} {xs : List V} {rs : List (Int × Int)} (h : WebAt H wb l k xs rs) (s : Same H H') : WebAt H' wb l k xs rs := ⟨s _ _ h.w, s _ _ h.l, h.p.same s⟩
section
variable {P : Program} {w : World} {K : PySem.W.Frag} {mg : Str → Option Value} {base : Heap}
/-! ### show_web -/
def spSho : Sp := fun vs H Q _ => ∃ (wb l : Addr) (n : Int) (xs : List V) (rs : List (Int × Int)), vs = [.ref wb] ∧ WebAt H wb l n xs rs ∧ SmallWeb n rs ∧ ∀ H', Same H H' → Q (.str (webT n rs)) H'
theorem scSho : FnScope ["web"] ["web"] (defScope sSho) := ⟨rfl, rfl, rfl, by decide +kernel, rfl, by decide +kernel, by decide +kernel⟩
theorem ok_sho {f : Addr} {fd : FuncData} (F : Fun K "show_web" "show_web" sSho f fd) (mStr : mg "str" = none) : FnOk P w K mg base CX0 1 f fd ["web"] spSho := by
  refine F.ok scSho (fun vs H Q E h => ?_) (fun cdv A outer s H vs Q E hr h => ?_)
  · obtain ⟨_, _, _, _, _, rfl, _⟩ := h
    rfl
  · obtain ⟨wb, l, n, xs, rs, rfl, W, S, q⟩ := h
    have h16 : (16777216 : Nat) = sizeLine := sizeLine_eq.symm
    refine ⟨_, pss_one (ps_ret (pe_bm PySem.F.plainAttrs_str PySem.F.slot_str_join PySem.F.type_str_join (mt_join K) pe_str (pa_cons (pe_op op_cat (pe_lst (pa_cons (pe_callTy kStr rfl mStr boot_str (pa_cons (pe_ix (kIxT K) (pv 0) pe_int (fun _ _ => rfl)) pa_nil)) pa_nil)) (pe_comp (own := ["a", "b"]) rfl (compScope_plain (by decide +kernel) (by decide +kernel) rfl (by decide +kernel)) (kList K (pe_ix (kIxT K) (pv 0) pe_int (fun _ _ => rfl))) (fun _ _ _ _ => kTup K (n := 2) rfl (pgs_cons (pg_name (i := 0) (show List.Nodup (["a", "b"] : List Str) by decide +kernel) rfl (Or.inl rfl)) (pgs_cons (pg_name (i := 1) (show List.Nodup (["a", "b"] : List Str) by decide +kernel) rfl (Or.inl rfl)) pgs_nil))) (fun _ _ _ _ => pifs_nil) (fun _ _ _ _ => pe_fstr (pj_cons (pe_fmt (pv 0)) (pj_cons pe_str (pj_cons (pe_fmt (pv 1)) pj_nil)))))) pa_nil))), ?_⟩
    refine ⟨rfl, _, rfl, wb, _, _, _, rfl, rfl, SqT.of W.w, atI_nat (j := 0) rfl, n, rfl, ⟨S.1.1, by have := S.1.2; omega⟩, by show 1 ≤ sizeLine; omega, fun p hp => ?_⟩
    have s1 : Same H (upd H p (.lst [.str (num n)])) := Same.new hp
    have e1 : upd H p (.lst [.str (num n)]) p = some (.lst [.str (num n)]) := upd_same
    generalize upd H p (.lst [.str (num n)]) = H1 at s1 e1 ⊢
    refine ⟨_, rfl, wb, _, _, _, rfl, rfl, SqT.of (s1 _ _ W.w), atI_nat (j := 1) rfl, l, rfl, ⟨_, SqL.of (s1 _ _ W.l)⟩, fun D hD => ?_⟩
    refine comp_list (K := K) (a := l) (xs := xs) (fun i ys H2 => Same H1 H2 ∧ H2 D = some (.lst ys) ∧ ys = ((rs.take i).map fun r => mkS (roadL r)).map V.str) ⟨Same.new hD, upd_same, rfl⟩ (fun i ys H2 _ ⟨s2, _⟩ => SqL.of (s2 _ _ (s1 _ _ W.l))) ?_ ?_
    · rintro i x ys H2 hxi ⟨s2, hD2, rfl⟩
      obtain ⟨t, r, rfl, et, er⟩ := W.p.get hxi
      obtain ⟨hi, er'⟩ := List.getElem?_eq_some_iff.mp er
      have hm : r ∈ rs := by rw [← er']; exact List.getElem_mem hi
      obtain ⟨ha, hb⟩ := S.2.2 r hm
      have Na := small_num ha.1 ha.2
      have Nb := small_num hb.1 hb.2
      refine ⟨t, _, rfl, SqT.of (s2 _ _ (s1 _ _ et)), rfl, _, _, rfl, _, _, rfl, rfl, trivial, ?_⟩
      unfold tYes
      refine iteT ?_
      have l0 : Str.empty.length = 0 := rfl
      have l1 : ("-" : Str).length = 1 := by decide +kernel
      have l2 := Na.le
      have l3 := Nb.le
      have lf : (Str.empty ++ num r.1 ++ ("-" : Str) ++ num r.2).length ≤ sizeLine := by rw [PySem.Str.length_append, PySem.Str.length_append, PySem.Str.length_append]; omega
      refine ⟨_, rfl, r.1, rfl, ⟨ha.1, by omega⟩, num r.1, rfl, by rw [PySem.Str.length_append]; omega, ("-" : Str), rfl, by rw [PySem.Str.length_append, PySem.Str.length_append]; omega, _, rfl, r.2, rfl, ⟨hb.1, by omega⟩, num r.2, rfl, lf, lf, hD2, ?_, s2.put hD, upd_same, ?_⟩
      · rw [List.length_map, List.length_map, List.length_take]
        have := S.2.1
        omega
      · rw [List.take_succ_eq_append_getElem hi, er', List.map_append, List.map_append, fstr_road]
        rfl
    · rintro ys H2 ⟨s2, hD2, rfl⟩
      rw [W.p.len, List.take_length] at hD2
      have h30 := S.2.1
      refine ⟨p, D, _, _, rfl, rfl, s2 _ _ e1, hD2, by simp only [List.length_map, List.length_singleton]; omega, fun c hc => ?_⟩
      refine ⟨(" " : Str), c, num n :: rs.map (fun r => mkS (roadL r)), rfl, rfl, SqL.of (by rw [upd_same]; rfl), join_ok S, ?_⟩
      rw [join_web]
      exact q _ (s1.trans (s2.trans (Same.new hc)))
/-! ### _law_web_written -/
def spWww : Sp := fun vs H Q _ => ∃ (wb l : Addr) (n : Int) (xs : List V) (rs : List (Int × Int)), vs = [.ref wb] ∧ WebAt H wb l n xs rs ∧ SmallWeb n rs ∧ Q (.str (webT n rs)) H
theorem scWww : FnScope ["web", "found", "one", "other"] ["web"] (defScope sWww) := ⟨rfl, rfl, rfl, by decide +kernel, rfl, by decide +kernel, by decide +kernel⟩
theorem ok_www {f : Addr} {fd : FuncData} (F : Fun K "_law_web_written" "_law_web_written" sWww f fd) (mStr : mg "str" = none) : FnOk P w K mg base CX0 1 f fd ["web"] spWww := by
  refine F.ok scWww (fun vs H Q E h => ?_) (fun cdv A outer s H vs Q E hr h => ?_)
  · obtain ⟨_, _, _, _, _, rfl, _⟩ := h
    rfl
  · obtain ⟨wb, l, n, xs, rs, rfl, W, S, q⟩ := h
    have h16 : (16777216 : Nat) = sizeLine := sizeLine_eq.symm
    refine ⟨_, pss_cons (ps_set (i := 1) scWww.nd rfl (Or.inl rfl) (pe_callTy kStr rfl mStr boot_str (pa_cons (pe_ix (kIxT K) (pv 0) pe_int (fun _ _ => rfl)) pa_nil)))
       (pss_cons (ps_for PassesOwn.never rfl (kList K (pe_ix (kIxT K) (pv 0) pe_int (fun _ _ => rfl))) (kTup K (n := 2) rfl (pgs_cons (pg_name (i := 2) scWww.nd rfl (Or.inl rfl)) (pgs_cons (pg_name (i := 3) scWww.nd rfl (Or.inl rfl)) pgs_nil)))
       (pss_one (ps_set (i := 1) scWww.nd rfl (Or.inl rfl) (pe_addS (pe_addS (pe_addS (pe_addS (pv 1) pe_str) (pe_callTy kStr rfl mStr boot_str (pa_cons (pv 2) pa_nil))) pe_str) (pe_callTy kStr rfl mStr boot_str (pa_cons (pv 3) pa_nil))))))
       (pss_one (ps_ret (pv 1)))), ?_⟩
    refine ⟨_, rfl, wb, _, _, _, rfl, rfl, SqT.of W.w, atI_nat (j := 0) rfl, n, rfl, ⟨S.1.1, by have := S.1.2; omega⟩, ?_⟩
    refine ⟨_, rfl, wb, _, _, _, rfl, rfl, SqT.of W.w, atI_nat (j := 1) rfl, l, rfl, ⟨_, SqL.of W.l⟩, ?_⟩
    refine for_list (K := K) (a := l) (xs := xs) (fun i σ H2 => ∃ v2 v3 : Option V, σ = [some (.ref wb), some (.str (webT n (rs.take i))), v2, v3] ∧ H2 = H) ⟨none, none, ?_, rfl⟩ (fun i σ H2 _ ⟨_, _, _, e⟩ => e ▸ SqL.of W.l) ?_ ?_
    · have e : webT n [] = num n := by apply str_ext; show webL n [] = _; unfold webL; simp
      rw [List.take_zero, e]
      rfl
    · rintro i x σ H2 hxi ⟨v2, v3, rfl, rfl⟩
      obtain ⟨t, r, rfl, et, er⟩ := W.p.get hxi
      obtain ⟨hi, er'⟩ := List.getElem?_eq_some_iff.mp er
      have hm : r ∈ rs := by rw [← er']; exact List.getElem_mem hi
      obtain ⟨ha, hb⟩ := S.2.2 r hm
      have Na := small_num ha.1 ha.2
      have Nb := small_num hb.1 hb.2
      have l2 := Na.le
      have l3 := Nb.le
      have l1 : ("-" : Str).length = 1 := by decide +kernel
      have l0 : (" " : Str).length = 1 := by decide +kernel
      have lw : (webT n (rs.take i)).length ≤ 200 := webT_len ⟨S.1, by rw [List.length_take]; have := S.2.1; omega, fun p hp => S.2.2 p (List.mem_of_mem_take hp)⟩
      refine ⟨t, _, rfl, SqT.of et, rfl, _, _, rfl, _, _, rfl, rfl, ?_⟩
      refine ⟨_, rfl, webT n (rs.take i), (" " : Str), rfl, rfl, by omega, ?_⟩
      refine ⟨_, rfl, r.1, rfl, ⟨ha.1, by omega⟩, _, num r.1, rfl, rfl, by rw [PySem.Str.length_append]; omega, ?_⟩
      refine ⟨_, ("-" : Str), rfl, rfl, by rw [PySem.Str.length_append, PySem.Str.length_append]; omega, ?_⟩
      refine ⟨_, rfl, r.2, rfl, ⟨hb.1, by omega⟩, _, num r.2, rfl, rfl, by rw [PySem.Str.length_append, PySem.Str.length_append, PySem.Str.length_append]; omega, ?_⟩
      refine ⟨some (.int r.1), some (.int r.2), ?_, rfl⟩
      have e : webT n (rs.take i) ++ (" " : Str) ++ num r.1 ++ ("-" : Str) ++ num r.2 = webT n (rs.take (i + 1)) := by
        apply str_ext
        rw [app_toL, app_toL, app_toL, app_toL, List.take_succ_eq_append_getElem hi, er']
        show webL n (rs.take i) ++ [32] ++ (num r.1).cps.toList ++ [45] ++ (num r.2).cps.toList = webL n (rs.take i ++ [r])
        rw [webL_snoc]
        unfold roadL
        simp
      rw [← e]
      rfl
    · rintro σ H2 ⟨v2, v3, rfl, rfl⟩
      refine ⟨_, rfl, ?_⟩
      rw [W.p.len, List.take_length]
      exact q
end
end M
namespace M
open PySem L2
theorem two_le : 2 ≤ sizeLine := by decide
section
variable {P : Program} {w : World} {K : PySem.W.Frag} {mg : Str → Option Value} {base : Heap}
theorem boot_max : bootBuiltins "max" = some (.builtin "max") := by first | rfl | decide +kernel
theorem lt2_lit {p : Nat} {a : Int} (h : a.natAbs < 2 ^ p := by decide +kernel) : Lt2 p a := h
theorem at_int {ns : List Int} {i : Int} (h0 : 0 ≤ i) (h1 : i < ns.length) : atI (ns.map V.int) i = some (.int (ns.getD i.toNat 0)) := by
  obtain ⟨k, rfl⟩ := Int.eq_ofNat_of_zero_le h0
  have hk : k < ns.length := by omega
  refine atI_nat ?_
  show (ns.map V.int)[k]? = some (.int (ns.getD k 0))
  rw [List.getElem?_map, List.getD_eq_getElem?_getD, List.getElem?_eq_getElem hk]
  rfl
/-! ### _law_cell_at -/
def spCel (K : PySem.W.Frag) : Sp := fun vs H Q _ => ∃ (a : Addr) (ns : List Int) (k : Nat), vs = [.ref a, .int (k : Int)] ∧ SqL K H a (ns.map V.int) ∧ ∀ z : Int, Q (.int z) H
theorem scCel : FnScope ["script", "k"] ["script", "k"] (defScope sCel) := ⟨rfl, rfl, rfl, by decide +kernel, rfl, by decide +kernel, by decide +kernel⟩
theorem ok_cel {f : Addr} {fd : FuncData} (F : Fun K "_law_cell_at" "_law_cell_at" sCel f fd) (mLen : mg "len" = none) : FnOk P w K mg base CX0 1 f fd ["script", "k"] (spCel K) := by
  refine F.ok scCel (fun vs H Q E h => ?_) (fun cdv A outer s H vs Q E hr h => ?_)
  · obtain ⟨_, _, _, rfl, _⟩ := h
    rfl
  · obtain ⟨a, ns, k, rfl, hS, q⟩ := h
    refine ⟨_, pss_cons (ps_if (pt_cmpR op_lt (pv 1) (pe_callB (kLen K) rfl mLen PySem.boot_len (pa_cons (pv 0) pa_nil)) (nomark _)) (pss_one (ps_ret (pe_ix (kIxL K) (pv 0) (pv 1) (fun _ _ => rfl)))) pss_nil)
       (pss_one (ps_ret pe_int)), ?_⟩
    refine ⟨_, rfl, _, rfl, a, _, rfl, .inl hS, _, _, rfl, rfl, _, rfl, ?_⟩
    rw [List.length_map]
    refine ite2 (fun z => ?_) (fun _ => q 0)
    have z' := of_decide_eq_true z
    exact ⟨_, rfl, _, rfl, a, _, _, _, rfl, rfl, hS, at_int (by omega) z', q _⟩
/-! ### _law_numbers -/
def spNum : Sp := fun vs H Q _ => ∃ (c : Int) (m : Nat), vs = [.int c, .int (m : Int)] ∧ m ≤ 70 ∧ ∀ (l : Addr) (row : List Int) (H' : Hp), Same H H' → H' l = some (.lst (row.map V.int)) → row.length = m → Q (.ref l) H'
theorem scNum : FnScope ["cell", "many", "found", "rest", "stir", "k", "again"] ["cell", "many"] (defScope sNum) := ⟨rfl, rfl, rfl, by decide +kernel, rfl, by decide +kernel, by decide +kernel⟩
theorem ok_num {f : Addr} {fd : FuncData} (F : Fun K "_law_numbers" "_law_numbers" sNum f fd) (mRange : mg "range" = none) : FnOk P w K mg base CX0 1 f fd ["cell", "many"] spNum := by
  refine F.ok scNum (fun vs H Q E h => ?_) (fun cdv A outer s H vs Q E hr h => ?_)
  · obtain ⟨_, _, rfl, _⟩ := h
    rfl
  · obtain ⟨c, m, rfl, hm, q⟩ := h
    have h16 : (16777216 : Nat) = sizeLine := sizeLine_eq.symm
    refine ⟨_, pss_cons (ps_set (i := 2) scNum.nd rfl (Or.inl rfl) (pe_lst pa_nil))
       (pss_cons (ps_set (i := 3) scNum.nd rfl (Or.inl rfl) (pv 0))
       (pss_cons (ps_set (i := 4) scNum.nd rfl (Or.inl rfl) (pe_op op_mod (pv 0) pe_int))
       (pss_cons (ps_for PassesOwn.never rfl (pi_range1 rfl mRange (pa_cons (pv 1) pa_nil)) (pg_name (i := 5) scNum.nd rfl (Or.inl rfl))
       (pss_one (ps_if (PW.pt (pw_and (pt_cmpR op_ge (pv 0) (pe_op op_pow pe_int pe_int) (nomark _)) (pw_and1 (pt_cmpR op_gt (pv 3) pe_int (nomark _))))) (pss_cons (ps_expr (pe_bm PySem.F.plainAttrs_list PySem.F.slot_list_append PySem.F.type_list_append mt_append (pv 2) (pa_cons (pe_op op_mod (pv 3) pe_int) pa_nil)))
       (pss_one (ps_set (i := 3) scNum.nd rfl (Or.inl rfl) (pe_op op_fdivB (pv 3) pe_int)))) (pss_cons (ps_set (i := 4) scNum.nd rfl (Or.inl rfl) (pe_op op_mod (pe_op op_mul (pe_op op_add (pe_op op_add (pv 4) (pe_op op_mul pe_int (pv 5))) pe_int) pe_int) pe_int))
       (pss_cons (ps_set (i := 6) scNum.nd rfl (Or.inl rfl) (pe_op op_mod (pe_op op_mul (pe_op op_mod (pe_op op_mul (pv 4) (pv 4)) pe_int) pe_int) pe_int))
       (pss_one (ps_expr (pe_bm PySem.F.plainAttrs_list PySem.F.slot_list_append PySem.F.type_list_append mt_append (pv 2) (pa_cons (pe_op op_mod (pe_op op_fdivB (pv 6) pe_int) pe_int) pa_nil)))))))))
       (pss_one (ps_ret (pv 2)))))), ?_⟩
    refine ⟨Nat.zero_le _, fun l hl => ?_⟩
    refine ⟨_, rfl, ?_⟩
    refine ⟨_, rfl, _, _, rfl, rfl, (by show (0 : Int) < 2147483647; decide), ?_⟩
    refine ⟨_, rfl, _, rfl, by omega, by omega, ?_⟩
    rw [Int.toNat_natCast]
    refine for_range (lo := 0) (n := m) (fun i σ H2 => ∃ (row : List Int) (r st : Int) (v5 v6 : Option V), σ = [some (.int c), some (.int (m : Int)), some (.ref l), some (.int r), some (.int st), v5, v6] ∧ Same H H2 ∧ H2 l = some (.lst (row.map V.int)) ∧ row.length = i) ⟨[], _, _, none, none, rfl, Same.new hl, upd_same, rfl⟩ ?_ ?_
    · rintro i σ H2 hi ⟨row, r, st, v5, v6, rfl, s2, e2, rl⟩
      rw [Int.zero_add]
      refine ⟨_, rfl, _, _, rfl, rfl, ⟨by decide, by decide, by decide⟩, _, _, rfl, rfl, _, rfl, ite2 (fun _ => ?_) (fun _ => ?_)⟩
      · refine ⟨_, rfl, _, _, rfl, rfl, _, rfl, ite2 (fun _ => ?_) (fun _ => ?_)⟩
        · refine ⟨_, rfl, .inl ⟨rfl, _, SqL.of e2⟩, _, rfl, _, _, rfl, rfl, (by show (0 : Int) < 64; decide), l, _, _, rfl, rfl, e2, by rw [List.length_map]; omega, ?_⟩
          refine ⟨_, rfl, _, _, rfl, rfl, ⟨by decide, lt2_lit⟩, ?_⟩
          exact ⟨row ++ [_], _, _, _, _, rfl, s2.put hl, by rw [upd_same, List.map_append]; rfl, by rw [List.length_append, List.length_singleton, rl]⟩
        · refine ⟨_, rfl, _, rfl, _, _, rfl, rfl, .inl ⟨by decide, by decide⟩, _, _, rfl, rfl, _, _, rfl, rfl, _, _, rfl, rfl, .inr ⟨by decide, by decide⟩, _, _, rfl, rfl, (by show (0 : Int) < 2147483647; decide), ?_⟩
          refine ⟨_, rfl, _, rfl, _, _, rfl, rfl, .inl ⟨by omega, by omega⟩, _, _, rfl, rfl, (by show (0 : Int) < 2147483629; decide), _, _, rfl, rfl, .inr ⟨by decide, by decide⟩, _, _, rfl, rfl, (by show (0 : Int) < 2147483587; decide), ?_⟩
          refine ⟨_, rfl, .inl ⟨rfl, _, SqL.of e2⟩, _, rfl, _, _, rfl, rfl, ⟨by decide, lt2_lit⟩, _, _, rfl, rfl, (by show (0 : Int) < 720720; decide), l, _, _, rfl, rfl, e2, by rw [List.length_map]; omega, ?_⟩
          exact ⟨row ++ [_], _, _, _, _, rfl, s2.put hl, by rw [upd_same, List.map_append]; rfl, by rw [List.length_append, List.length_singleton, rl]⟩
      · refine iteF ?_
        refine ⟨_, rfl, _, rfl, _, _, rfl, rfl, .inl ⟨by decide, by decide⟩, _, _, rfl, rfl, _, _, rfl, rfl, _, _, rfl, rfl, .inr ⟨by decide, by decide⟩, _, _, rfl, rfl, (by show (0 : Int) < 2147483647; decide), ?_⟩
        refine ⟨_, rfl, _, rfl, _, _, rfl, rfl, .inl ⟨by omega, by omega⟩, _, _, rfl, rfl, (by show (0 : Int) < 2147483629; decide), _, _, rfl, rfl, .inr ⟨by decide, by decide⟩, _, _, rfl, rfl, (by show (0 : Int) < 2147483587; decide), ?_⟩
        refine ⟨_, rfl, .inl ⟨rfl, _, SqL.of e2⟩, _, rfl, _, _, rfl, rfl, ⟨by decide, lt2_lit⟩, _, _, rfl, rfl, (by show (0 : Int) < 720720; decide), l, _, _, rfl, rfl, e2, by rw [List.length_map]; omega, ?_⟩
        exact ⟨row ++ [_], _, _, _, _, rfl, s2.put hl, by rw [upd_same, List.map_append]; rfl, by rw [List.length_append, List.length_singleton, rl]⟩
    · rintro σ H2 ⟨row, r, st, v5, v6, rfl, s2, e2, rl⟩
      exact ⟨_, rfl, q l row H2 s2 e2 rl⟩
/-! ### _law_big_web -/
def IsWebR (n : Int) (rs : List (Int × Int)) : Prop := rs.length ≤ 30 ∧ (∀ p ∈ rs, 0 ≤ p.1 ∧ p.1 < p.2 ∧ p.2 < n) ∧ rs.Nodup
def spBig : Sp := fun vs H Q _ => ∃ (xl : Addr) (ns : List Int) (n m : Int), vs = [.ref xl, .int n, .int m] ∧ H xl = some (.lst (ns.map V.int)) ∧ ns.length = 62 ∧ (1 ≤ n ∧ n ≤ 16) ∧ (0 ≤ m ∧ m ≤ 30) ∧
  ∀ (wb l : Addr) (xs : List V) (rs : List (Int × Int)) (H' : Hp), Same H H' → WebAt H' wb l n xs rs → IsWebR n rs → H l = none → Q (.ref wb) H'
theorem scBig : FnScope ["xs", "places", "many", "roads", "k", "one", "other", "pair"] ["xs", "places", "many"] (defScope sBig) := ⟨rfl, rfl, rfl, by decide +kernel, rfl, by decide +kernel, by decide +kernel⟩
theorem ok_big {f : Addr} {fd : FuncData} (F : Fun K "_law_big_web" "_law_big_web" sBig f fd) (mRange : mg "range" = none) (mMin : mg "min" = none) (mMax : mg "max" = none) : FnOk P w K mg base CX0 1 f fd ["xs", "places", "many"] spBig := by
  refine F.ok scBig (fun vs H Q E h => ?_) (fun cdv A outer s H vs Q E hr h => ?_)
  · obtain ⟨_, _, _, _, rfl, _⟩ := h
    rfl
  · obtain ⟨xl, ns, n, m, rfl, ex, hn, hN, hM, q⟩ := h
    have hu5 : (A.deeper (PyProof.Rows.envOfC "_law_big_web" (defScope sBig) s.heap.objs.size f cdv)).units + 65 < cLine := by have := hr.un; omega
    have h16 : (16777216 : Nat) = sizeLine := sizeLine_eq.symm
    obtain ⟨mm, rfl⟩ : ∃ mm : Nat, m = mm := ⟨m.toNat, by omega⟩
    refine ⟨_, pss_cons (ps_set (i := 3) scBig.nd rfl (Or.inl rfl) (pe_lst pa_nil))
       (pss_cons (ps_for PassesOwn.never rfl (pi_range1 rfl mRange (pa_cons (pv 2) pa_nil)) (pg_name (i := 4) scBig.nd rfl (Or.inl rfl))
       (pss_cons (ps_set (i := 5) scBig.nd rfl (Or.inl rfl) (pe_op op_mod (pe_ix (kIxL K) (pv 0) (pe_op op_mul pe_int (pv 4)) (fun _ _ => rfl)) (pv 1)))
       (pss_cons (ps_set (i := 6) scBig.nd rfl (Or.inl rfl) (pe_op op_mod (pe_ix (kIxL K) (pv 0) (pe_op op_add (pe_op op_mul pe_int (pv 4)) pe_int) (fun _ _ => rfl)) (pv 1)))
       (pss_cons (ps_set (i := 7) scBig.nd rfl (Or.inl rfl) (pe_tup (pa_cons (pe_callB (call_min2 rfl) rfl mMin boot_min (pa_cons (pv 5) (pa_cons (pv 6) pa_nil))) (pa_cons (pe_callB (call_max2 rfl) rfl mMax boot_max (pa_cons (pv 5) (pa_cons (pv 6) pa_nil))) pa_nil))))
       (pss_one (ps_if (PW.pt (pw_and (pt_cmpR op_ne (pv 5) (pv 6) (nomark _)) (pw_and1 (pt_cmpR (kNotInD K hu5) (pv 7) (pv 3) (by with_unfolding_all rfl))))) (pss_one (ps_expr (pe_bm PySem.F.plainAttrs_list PySem.F.slot_list_append PySem.F.type_list_append mt_append (pv 3) (pa_cons (pv 7) pa_nil)))) pss_nil))))))
       (pss_one (ps_ret (pe_tup (pa_cons (pv 1) (pa_cons (pv 3) pa_nil)))))), ?_⟩
    refine ⟨Nat.zero_le _, fun l hl => ?_⟩
    refine ⟨_, rfl, _, rfl, by omega, by omega, ?_⟩
    rw [Int.toNat_natCast]
    refine for_range (lo := 0) (n := mm) (fun i σ H2 => ∃ (xs : List V) (rs : List (Int × Int)) (v4 v5 v6 v7 : Option V), σ = [some (.ref xl), some (.int n), some (.int (mm : Int)), some (.ref l), v4, v5, v6, v7] ∧ Same H H2 ∧ H2 l = some (.lst xs) ∧ Prs H2 xs rs ∧ rs.length ≤ i ∧ (∀ p ∈ rs, 0 ≤ p.1 ∧ p.1 < p.2 ∧ p.2 < n) ∧ rs.Nodup)
      ⟨[], [], none, none, none, none, rfl, Same.new hl, upd_same, .nil, Nat.zero_le _, (fun p hp => by simp at hp), List.nodup_nil⟩ ?_ ?_
    · rintro i σ H2 hi ⟨xs, rs, v4, v5, v6, v7, rfl, s2, e2, pr, hlen, hrs, hnd⟩
      rw [Int.zero_add]
      refine ⟨_, rfl, _, rfl, _, _, rfl, rfl, .inl ⟨by decide, by decide⟩, xl, _, _, _, rfl, rfl, SqL.of (s2 _ _ ex), at_int (by omega) (by omega), _, rfl, _, _, rfl, rfl, by show 0 < n; omega, ?_⟩
      refine ⟨_, rfl, _, rfl, _, _, rfl, rfl, .inl ⟨by decide, by decide⟩, _, _, rfl, rfl, xl, _, _, _, rfl, rfl, SqL.of (s2 _ _ ex), at_int (by omega) (by omega), _, rfl, _, _, rfl, rfl, by show 0 < n; omega, ?_⟩
      dsimp only [gName]
      have ha : 0 ≤ ns.getD (2 * (i : Int)).toNat 0 % n ∧ ns.getD (2 * (i : Int)).toNat 0 % n < n := ⟨Int.emod_nonneg _ (by omega), Int.emod_lt_of_pos _ (by omega)⟩
      have hb : 0 ≤ ns.getD (2 * (i : Int) + 1).toNat 0 % n ∧ ns.getD (2 * (i : Int) + 1).toNat 0 % n < n := ⟨Int.emod_nonneg _ (by omega), Int.emod_lt_of_pos _ (by omega)⟩
      generalize ns.getD (2 * (i : Int)).toNat 0 % n = a at ha ⊢
      generalize ns.getD (2 * (i : Int) + 1).toNat 0 % n = b at hb ⊢
      refine ⟨_, rfl, _, rfl, _, _, rfl, _, rfl, _, rfl, _, _, rfl, two_le, fun T hT => ?_⟩
      have s3 : Same H2 (upd H2 T (.tup [.int (if b < a then b else a), .int (if b > a then b else a)])) := Same.new hT
      have e3 : upd H2 T (.tup [.int (if b < a then b else a), .int (if b > a then b else a)]) T = some (.tup [.int (if b < a then b else a), .int (if b > a then b else a)]) := upd_same
      generalize upd H2 T (.tup [.int (if b < a then b else a), .int (if b > a then b else a)]) = H3 at s3 e3 ⊢
      refine ⟨_, rfl, _, rfl, rfl, _, rfl, ite2 (fun c => ?_) (fun c => ?_)⟩
      · have hab : a ≠ b := fun e => by subst e; exact absurd c (by simp)
        refine ⟨_, rfl, _, rfl, l, xs, prD (if b < a then b else a, if b > a then b else a), rs.map prD, rfl, .inl (SqL.of (s3 _ _ e2)), .tup (SqT.of e3) (.cons (.int _) (.cons (.int _) .nil)), (pr.same s3).dats, prD_shaped _, prs_each _, _, rfl, ?_⟩
        rw [prs_any]
        refine ite2 (fun z => ?_) (fun z => ?_)
        · have hn' : (if b < a then b else a, if b > a then b else a) ∉ rs := fun y => by rw [decide_eq_true y] at z; exact absurd z (by decide)
          have hxl := pr.len
          refine ⟨_, rfl, .inl ⟨rfl, _, SqL.of (s3 _ _ e2)⟩, _, rfl, l, _, _, rfl, rfl, s3 _ _ e2, by omega, ?_⟩
          refine ⟨_, rs ++ [(if b < a then b else a, if b > a then b else a)], _, _, _, _, rfl, (s2.trans s3).put hl, upd_same, ((pr.same s3).snoc e3).keep (tups_lst (s3 _ _ e2)), by rw [List.length_append, List.length_singleton]; omega, ?_, ?_⟩
          · intro p hp
            rcases List.mem_append.mp hp with hp | hp
            · exact hrs p hp
            · rw [List.mem_singleton] at hp
              subst hp
              show 0 ≤ (if b < a then b else a) ∧ (if b < a then b else a) < (if b > a then b else a) ∧ (if b > a then b else a) < n
              split <;> split <;> omega
          · rw [List.nodup_append]
            refine ⟨hnd, by simp, ?_⟩
            intro p hp r hr' e
            rw [List.mem_singleton] at hr'
            subst e
            exact hn' (hr' ▸ hp)
        · exact ⟨xs, rs, _, _, _, _, rfl, s2.trans s3, s3 _ _ e2, pr.same s3, by omega, hrs, hnd⟩
      · exact ⟨xs, rs, _, _, _, _, rfl, s2.trans s3, s3 _ _ e2, pr.same s3, by omega, hrs, hnd⟩
    · rintro σ H2 ⟨xs, rs, v4, v5, v6, v7, rfl, s2, e2, pr, hlen, hrs, hnd⟩
      refine ⟨_, rfl, _, rfl, two_le, fun wb hwb => ?_⟩
      have s3 : Same H2 (upd H2 wb (.tup [.int n, .ref l])) := Same.new hwb
      exact q wb l xs rs _ (s2.trans s3) ⟨upd_same, s3 _ _ e2, pr.same s3⟩ ⟨by omega, hrs, hnd⟩ hl
end
end M
namespace M
open PySem L2
section
variable {P : Program} {w : World} {K : PySem.W.Frag} {mg : Str → Option Value} {base : Heap}
theorem all_map_dec {α : Type} (p : α → Prop) [DecidablePred p] (l : List α) : (l.map fun x => decide (p x)).all id = true ↔ ∀ x ∈ l, p x := by
  rw [List.all_map, List.all_eq_true]
  constructor
  · intro h x hx
    exact of_decide_eq_true (h x hx)
  · intro h x hx
    exact decide_eq_true (h x hx)
theorem map_succ {α β : Type} {l : List α} {i : Nat} {x : α} (f : α → β) (h : l[i]? = some x) : (l.take (i + 1)).map f = (l.take i).map f ++ [f x] := by
  rw [List.take_add_one, h, List.map_append]
  rfl
/-! ### web_of -/
def IsWeb (n : Int) (rs : List (Int × Int)) : Prop := 1 ≤ n ∧ (∀ p ∈ rs, 0 ≤ p.1 ∧ p.1 < p.2 ∧ p.2 < n) ∧ rs.Nodup
def spWebOf (C : Addr) : Sp := fun vs H Q E => ∃ (l : Addr) (n : Int) (xs : List V) (rs : List (Int × Int)), vs = [.int n, .ref l] ∧ H l = some (.lst xs) ∧ Prs H xs rs ∧ rs.length ≤ 60 ∧
  ((IsWeb n rs ∧ ∀ (t l2 : Addr) (H' : Hp), Same H H' → H t = none → H l2 = none → t ≠ l2 → H' t = some (.tup [.int n, .ref l2]) → H' l2 = some (.lst xs) → Q (.ref t) H') ∨ (¬ IsWeb n rs ∧ ∀ H' : Hp, Same H H' → E (.ref C) none H'))
theorem scWebOf : FnScope ["places", "roads"] ["places", "roads"] (defScope sWebOf) := ⟨rfl, rfl, rfl, by decide +kernel, rfl, by decide +kernel, by decide +kernel⟩
theorem ok_webof {f C : Addr} {fd : FuncData} (F : Fun K "web_of" "web_of" sWebOf f fd) (mC : mg "NoWeb" = some (.ref C)) (xC : ExcC K C) (mAll : mg "all" = none) (mLen : mg "len" = none) (mSet : mg "set" = none) (mLst : mg "list" = none) : FnOk P w K mg base (CXr P w) 1 f fd ["places", "roads"] (spWebOf C) := by
  refine F.okR scWebOf (fun vs H Q E h => ?_) (fun cdv A outer s H vs Q E hr h => ?_)
  · obtain ⟨_, _, _, _, rfl, _⟩ := h
    rfl
  · obtain ⟨l, n, xs, rs, rfl, hl, pr, hn, h⟩ := h
    have hu := hr.units
    have h16 : (16777216 : Nat) = sizeLine := sizeLine_eq.symm
    have hxl := pr.len
    refine ⟨_, pss_cons (ps_if (pt_cmpR op_lt (pv 0) pe_int (nomark _)) (pss_one (ps_raise (E := E) rfl raisesTo_def rfl mC xC (pa_cons pe_str pa_nil))) pss_nil)
       (pss_cons (ps_if (pt_not (pt_val (pe_callB (kAll K rfl) rfl mAll boot_all (pa_cons (pe_comp (own := ["a", "b"]) rfl (compScope_free (fr := [("places", 0)]) [(".0", .local), ("a", .local), ("b", .local), ("places", .cell)] rfl rfl (by decide +kernel) rfl (by decide +kernel) ⟨rfl, trivial⟩ ⟨fun h => no_cf h, fun h => no_cf h, fun h => no_cf h, fun _ => ⟨_, rfl⟩, trivial⟩ ⟨⟨rfl, .inl rfl, .inl rfl⟩, trivial⟩) (kList K (pv 1)) (fun _ _ _ _ => kTup K (n := 2) rfl (pgs_cons (pg_name (i := 0) (show List.Nodup (["a", "b", "places"] : List Str) by decide +kernel) rfl (Or.inl rfl)) (pgs_cons (pg_name (i := 1) (show List.Nodup (["a", "b", "places"] : List Str) by decide +kernel) rfl (Or.inl rfl)) pgs_nil))) (fun _ _ _ _ => pifs_nil) (fun _ _ _ _ => pe_chain3 op_le op_lt op_lt pe_int (pv 0) (pv 1) (pv 2))) pa_nil)))) (pss_one (ps_raise (E := E) rfl raisesTo_def rfl mC xC (pa_cons pe_str pa_nil))) pss_nil)
       (pss_cons (ps_if (pt_cmpR op_lt (pe_callB kLenN rfl mLen PySem.boot_len (pa_cons (pe_callTy (kSetP K rfl hu) rfl mSet boot_set (pa_cons (pv 1) pa_nil)) pa_nil)) (pe_callB (kLen K) rfl mLen PySem.boot_len (pa_cons (pv 1) pa_nil)) (nomark _)) (pss_one (ps_raise (E := E) rfl raisesTo_def rfl mC xC (pa_cons pe_str pa_nil))) pss_nil)
       (pss_one (ps_ret (pe_tup (pa_cons (pv 0) (pa_cons (pe_callTy (kListOf K) rfl mLst boot_list (pa_cons (pv 1) pa_nil)) pa_nil))))))), ?_⟩
    refine ⟨_, rfl, _, _, rfl, rfl, _, rfl, ?_⟩
    have bad : ∀ H', Same H H' → ¬ IsWeb n rs → E (.ref C) none H' := fun H' s z => by
      rcases h with ⟨g, _⟩ | ⟨_, e⟩
      · exact absurd g z
      · exact e H' s
    refine ite2 (fun c0 => ?_) (fun c0 => ?_)
    · have c0' := of_decide_eq_true c0
      exact ⟨by decide, bad _ (Same.refl _) fun z => by have := z.1; omega⟩
    have c0' : ¬ n < 1 := fun z => c0 (decide_eq_true z)
    refine ⟨_, rfl, l, rfl, ⟨_, SqL.of hl⟩, fun D hD => ?_⟩
    refine comp_list (K := K) (a := l) (xs := xs) (fun i ys H3 => Same H H3 ∧ H3 D = some (.lst ys) ∧ ys = ((rs.take i).map fun r => decide (0 ≤ r.1 ∧ r.1 < r.2 ∧ r.2 < n)).map V.bl) ⟨Same.new hD, upd_same, rfl⟩ (fun i ys H3 _ ⟨s3, _⟩ => SqL.of (s3 _ _ hl)) ?_ ?_
    · rintro i x ys H3 hxi ⟨s3, hD3, rfl⟩
      obtain ⟨t, r, rfl, et, er⟩ := pr.get hxi
      have hi : i < xs.length := (List.getElem?_eq_some_iff.mp hxi).1
      refine ⟨t, _, rfl, SqT.of (s3 _ _ et), rfl, _, _, rfl, _, _, rfl, rfl, ⟨rfl, trivial⟩, ?_⟩
      unfold tYes
      refine iteT ?_
      have fin : ∀ b : Bool, b = decide (0 ≤ r.1 ∧ r.1 < r.2 ∧ r.2 < n) → H3 D = some (.lst (((rs.take i).map fun r => decide (0 ≤ r.1 ∧ r.1 < r.2 ∧ r.2 < n)).map V.bl)) ∧ (((rs.take i).map fun r => decide (0 ≤ r.1 ∧ r.1 < r.2 ∧ r.2 < n)).map V.bl).length < sizeLine ∧
          Same H (upd H3 D (.lst (((rs.take i).map fun r => decide (0 ≤ r.1 ∧ r.1 < r.2 ∧ r.2 < n)).map V.bl ++ [.bl b]))) ∧ upd H3 D (.lst (((rs.take i).map fun r => decide (0 ≤ r.1 ∧ r.1 < r.2 ∧ r.2 < n)).map V.bl ++ [.bl b])) D = some (.lst (((rs.take i).map fun r => decide (0 ≤ r.1 ∧ r.1 < r.2 ∧ r.2 < n)).map V.bl ++ [.bl b])) ∧
          ((rs.take i).map fun r => decide (0 ≤ r.1 ∧ r.1 < r.2 ∧ r.2 < n)).map V.bl ++ [.bl b] = ((rs.take (i + 1)).map fun r => decide (0 ≤ r.1 ∧ r.1 < r.2 ∧ r.2 < n)).map V.bl := by
        intro b hb
        refine ⟨hD3, by rw [List.length_map, List.length_map, List.length_take]; omega, s3.put hD, upd_same, ?_⟩
        rw [map_succ _ er, List.map_append, hb]
        rfl
      refine ⟨_, rfl, _, _, rfl, rfl, _, rfl, ?_⟩
      refine ite2 (fun d1 => ?_) (fun d1 => ?_)
      · have d1' := of_decide_eq_true d1
        refine ⟨_, rfl, _, _, rfl, rfl, _, rfl, ?_⟩
        refine ite2 (fun d2 => ?_) (fun d2 => ?_)
        · have d2' := of_decide_eq_true d2
          refine ⟨_, rfl, _, _, rfl, rfl, ?_⟩
          refine fin _ ?_
          by_cases d3 : r.2 < n
          · rw [decide_eq_true d3, decide_eq_true (⟨d1', d2', d3⟩ : 0 ≤ r.1 ∧ r.1 < r.2 ∧ r.2 < n)]
          · rw [decide_eq_false d3, decide_eq_false fun z : 0 ≤ r.1 ∧ r.1 < r.2 ∧ r.2 < n => d3 z.2.2]
        · exact fin _ (decide_eq_false fun z => d2 (decide_eq_true z.2.1)).symm
      · exact fin _ (decide_eq_false fun z => d1 (decide_eq_true z.1)).symm
    rintro ys H3 ⟨s3, hD3, rfl⟩
    rw [hxl, List.take_length] at hD3
    refine ⟨D, _, rfl, SqL.of hD3, ⟨_, rfl, ?_⟩⟩
    have hal := all_map_dec (fun r : Int × Int => 0 ≤ r.1 ∧ r.1 < r.2 ∧ r.2 < n) rs
    by_cases c2 : (rs.map fun r => decide (0 ≤ r.1 ∧ r.1 < r.2 ∧ r.2 < n)).all id = true
    case neg =>
      rw [Bool.not_eq_true] at c2
      rw [c2]
      refine iteT ?_
      exact ⟨by decide, bad _ s3 fun z => by
        have := hal.mpr z.2.1
        rw [c2] at this; cases this⟩
    rw [c2]
    refine iteF ?_
    have c2' := hal.mp c2
    refine ⟨_, rfl, l, xs, rs, rfl, SqL.of (s3 _ _ hl), pr.same s3, by omega, fun st m hst hm1 hm2 => ?_⟩
    have s4 := s3.put (o := SetN st m) (s3.free hst)
    refine ⟨st, m, rfl, upd_same, _, rfl, l, xs, rfl, .inl (SqL.of (s4 _ _ hl)), _, _, rfl, rfl, _, rfl, ?_⟩
    refine ite2 (fun c3 => ?_) (fun c3 => ?_)
    · have c3' := of_decide_eq_true c3
      exact ⟨by decide, bad _ s4 fun z => by
        have := hm2.mpr z.2.2
        omega⟩
    · have c3' : ¬ ((m : Int) < (xs.length : Int)) := fun z => c3 (decide_eq_true z)
      have good : IsWeb n rs := ⟨by omega, c2', hm2.mp (by omega)⟩
      rcases h with ⟨_, q⟩ | ⟨g, _⟩
      case inr => exact absurd good g
      refine ⟨_, rfl, _, rfl, l, xs, rfl, .inl (SqL.of (s4 _ _ hl)), fun l2 hl2 => ⟨two_le, fun t ht => ?_⟩⟩
      have s5 := s4.put (o := .lst xs) (s4.free hl2)
      have e5 : upd (upd H3 st (SetN st m)) l2 (.lst xs) l2 = some (.lst xs) := upd_same
      exact q t l2 _ (s5.put (o := .tup [.int n, .ref l2]) (s5.free ht)) (s5.free ht) (s4.free hl2) (ne_of_none e5 ht).symm upd_same (upd_eq e5 (ne_of_none e5 ht))
end
theorem no_space {r : Int × Int} (ha : 0 ≤ r.1 ∧ r.1 ≤ 16) (hb : 0 ≤ r.2 ∧ r.2 ≤ 16) : 32 ∉ roadL r := by
  unfold roadL
  intro h
  rcases List.mem_append.mp h with h | h
  · exact (small_num ha.1 ha.2).sp h
  · rcases List.mem_cons.mp h with h | h
    · exact absurd h (by decide)
    · exact (small_num hb.1 hb.2).sp h
theorem split_web {n : Int} {rs : List (Int × Int)} (S : SmallWeb n rs) : Txt.split (webT n rs) (" " : Str) = num n :: rs.map (fun r => mkS (roadL r)) := by
  have h := split_words (x := webT n rs) (c := 32) (by decide) (w := (num n).cps.toList) (ws := rs.map roadL) (by
    show webL n rs = _
    unfold webL
    rw [List.flatMap_map]) (by
    intro v hv
    rcases List.mem_cons.mp hv with rfl | hv
    · exact (small_num S.1.1 S.1.2).sp
    · obtain ⟨r, hr, rfl⟩ := List.mem_map.mp hv
      exact no_space (S.2.2 r hr).1 (S.2.2 r hr).2)
  refine (show Txt.split (webT n rs) (" " : Str) = _ from h).trans ?_
  rw [List.map_cons, List.map_map]
  rfl
theorem parts_le (x y : Str) (k : Nat) (h : x.length ≤ 200) : (Builtin.Str.partsBetween x (Builtin.Str.occurrences x (⟨#[32]⟩ : Str) 0 x.length (x.length + 1)) k).length ≤ sizeLine := by
  unfold Builtin.Str.partsBetween
  have := List.length_take_le (x.length + 1) (cutsFrom 32 0 x.cps.toList)
  rw [occ_one, sizeLine_eq]
  simp only [List.length_map, List.length_zip, List.length_cons, List.length_append, List.length_nil]
  omega
section
variable {P : Program} {w : World} {K : PySem.W.Frag} {mg : Str → Option Value} {base : Heap}
/-! ### read_web: of a web's text -/
def spRea : Sp := fun vs H Q _ => ∃ (n : Int) (rs : List (Int × Int)), vs = [.str (webT n rs)] ∧ SmallWeb n rs ∧ IsWeb n rs ∧ ∀ (wb l : Addr) (xs : List V) (H' : Hp), Same H H' → WebAt H' wb l n xs rs → H l = none → Q (.ref wb) H'
theorem scRea : FnScope ["text", "words"] ["text"] (defScope sRea) := ⟨rfl, rfl, rfl, by decide +kernel, rfl, by decide +kernel, by decide +kernel⟩
theorem ok_rea {f fIsn fRoa fO C : Addr} {fd fdIsn fdRoa fdO : FuncData} {t16 t30 : Tok} (F : Fun K "read_web" "read_web" sRea f fd) (FIsn : Fun K "is_number" "is_number" sIsn fIsn fdIsn) (bIsn : Binds K fdIsn ["word"] []) (mIsn : mg "is_number" = some (.ref fIsn))
    (GIsn : FnOk P w K mg base CX0 2 fIsn fdIsn ["word"] spIsn) (FRoa : Fun K "road_of" "road_of" sRoa fRoa fdRoa) (bRoa : Binds K fdRoa ["word"] []) (mRoa : mg "road_of" = some (.ref fRoa)) (GRoa : FnOk P w K mg base CX0 3 fRoa fdRoa ["word"] spRoa)
    (FO : Fun K "web_of" "web_of" sWebOf fO fdO) (bO : Binds K fdO ["places", "roads"] []) (mO : mg "web_of" = some (.ref fO)) (GO : FnOk P w K mg base (CXr P w) 1 fO fdO ["places", "roads"] (spWebOf C))
    (mMoP : mg "MOST_PLACES" = some (.int 16 t16)) (mMoR : mg "MOST_ROADS" = some (.int 30 t30)) (mIsi : mg "isinstance" = none) (mStr : mg "str" = none) (mInt : mg "int" = none) (mLen : mg "len" = none) : FnOk P w K mg base CX0 4 f fd ["text"] spRea := by
  refine F.ok scRea (fun vs H Q E h => ?_) (fun cdv A outer s H vs Q E hr h => ?_)
  · obtain ⟨_, _, rfl, _⟩ := h
    rfl
  · obtain ⟨n, rs, rfl, S, IW, q⟩ := h
    have h16 : (16777216 : Nat) = sizeLine := sizeLine_eq.symm
    refine ⟨_, pss_cons (ps_set (i := 1) scRea.nd rfl (Or.inl rfl) (pe_ifExp (pt_val (pe_callB (kIsi K) rfl mIsi boot_isi (pa_cons (pv 0) (pa_cons (pe_typ mStr boot_str) pa_nil)))) (pe_bm PySem.F.plainAttrs_str PySem.F.slot_str_split PySem.F.type_str_split mt_split (pv 0) (pa_cons pe_str pa_nil)) (pe_lst (pa_cons pe_str pa_nil))))
       (pss_cons (ps_if (PW.pt (pw_or (pt_not (pt_val (pe_call GIsn (hr.mono (by decide)) rfl mIsn FIsn.kp bIsn .nil pass0 (pa_cons (pe_ix (kIxL K) (pv 1) pe_int (fun _ _ => rfl)) pa_nil)))) (pw_or (pt_cmpR op_gt (pe_callTy kIntS rfl mInt boot_int (pa_cons (pe_ix (kIxL K) (pv 1) pe_int (fun _ _ => rfl)) pa_nil)) (pe_glob (v := .int 16) rfl mMoP ⟨_, rfl⟩) (nomark _)) (pw_or1 (pt_cmpR op_gt (pe_op op_sub (pe_callB (kLen K) rfl mLen PySem.boot_len (pa_cons (pv 1) pa_nil)) pe_int) (pe_glob (v := .int 30) rfl mMoR ⟨_, rfl⟩) (nomark _)))))) pss_never pss_nil)
       (pss_one (ps_tryRet (pe_call GO (hr.mono (by decide)) rfl mO FO.kp bO .nil passR (pa_cons (pe_callTy kIntS rfl mInt boot_int (pa_cons (pe_ix (kIxL K) (pv 1) pe_int (fun _ _ => rfl)) pa_nil)) (pa_cons (pe_comp (own := ["word"]) rfl (compScope_plain (by decide +kernel) (by decide +kernel) rfl (by decide +kernel)) (kList K (pe_slice (kSl K) (pv 1) (po_some pe_int) po_none)) (fun _ _ _ _ => pg_name (i := 0) (show List.Nodup (["word"] : List Str) by decide +kernel) rfl (Or.inl rfl)) (fun _ _ _ _ => pifs_nil) (fun _ _ _ _ => pe_call GRoa (hr.mono (by decide)) rfl mRoa FRoa.kp bRoa .nil pass0 (pa_cons (pv 0) pa_nil))) pa_nil)))))), ?_⟩
    have N := small_num S.1.1 S.1.2
    have hl1 := N.le
    have hwl := webT_len S
    refine ⟨_, rfl, _, _, true, rfl, ⟨_, rfl, iteT ?_⟩, .inl ⟨_, .str _, rfl, kit_self⟩⟩
    refine ⟨_, rfl, rfl, webT n rs, (" " : Str), rfl, rfl, by decide +kernel, by omega, parts_le _ (" " : Str) _ hwl, fun l hl => ?_⟩
    rw [split_web S]
    have s1 : Same H (upd H l (.lst ((num n :: rs.map (fun r => mkS (roadL r))).map V.str))) := Same.new hl
    have e1 : upd H l (.lst ((num n :: rs.map (fun r => mkS (roadL r))).map V.str)) l = some (.lst ((num n :: rs.map (fun r => mkS (roadL r))).map V.str)) := upd_same
    generalize upd H l (.lst ((num n :: rs.map (fun r => mkS (roadL r))).map V.str)) = H1 at s1 e1 ⊢
    dsimp only [gName]
    refine ⟨_, rfl, l, _, _, _, rfl, rfl, SqL.of e1, atI_nat (j := 0) rfl, n, rfl, S.1, fun H2 s2 => ⟨_, rfl, iteF ?_⟩⟩
    refine ⟨_, rfl, l, _, _, _, rfl, rfl, SqL.of (s2 _ _ e1), atI_nat (j := 0) rfl, num n, n, rfl, N.rd, by omega, _, _, rfl, rfl, _, rfl, ?_⟩
    have c1 : decide ((16 : Int) < n) = false := decide_eq_false (by have := S.1.2; omega)
    rw [c1]
    refine iteF ?_
    refine ⟨_, rfl, l, _, rfl, .inl (SqL.of (s2 _ _ e1)), _, _, rfl, rfl, _, _, rfl, rfl, _, rfl, ?_⟩
    have h30 := S.2.1
    have c2 : decide ((30 : Int) < (((num n :: rs.map (fun r => mkS (roadL r))).map V.str).length : Int) - 1) = false := decide_eq_false (by simp only [List.length_map, List.length_cons]; omega)
    rw [c2]
    refine iteF ?_
    refine ⟨_, rfl, l, _, _, _, rfl, rfl, SqL.of (s2 _ _ e1), atI_nat (j := 0) rfl, num n, n, rfl, N.rd, by omega, ?_⟩
    refine ⟨_, rfl, 1, rfl, l, _, rfl, SqL.of (s2 _ _ e1), fun p hp => ?_⟩
    have ec : cutV ((num n :: rs.map (fun r => mkS (roadL r))).map V.str) (some 1) none = (rs.map fun r => mkS (roadL r)).map V.str := (cut_from (k := 1)).trans rfl
    rw [ec]
    have s3 : Same H2 (upd H2 p (.lst ((rs.map fun r => mkS (roadL r)).map V.str))) := Same.new hp
    have e3 : upd H2 p (.lst ((rs.map fun r => mkS (roadL r)).map V.str)) p = some (.lst ((rs.map fun r => mkS (roadL r)).map V.str)) := upd_same
    generalize upd H2 p (.lst ((rs.map fun r => mkS (roadL r)).map V.str)) = H3 at s3 e3 ⊢
    refine ⟨p, rfl, ⟨_, SqL.of e3⟩, fun D hD => ?_⟩
    refine comp_list (K := K) (a := p) (xs := (rs.map fun r => mkS (roadL r)).map V.str) (fun i ys H4 => Same H3 H4 ∧ H4 D = some (.lst ys) ∧ Prs H4 ys (rs.take i)) ⟨Same.new hD, upd_same, .nil⟩ (fun i ys H4 _ ⟨s4, _⟩ => SqL.of (s4 _ _ e3)) ?_ ?_
    · rintro i x ys H4 hxi ⟨s4, hD4, pr4⟩
      rw [List.map_map, List.getElem?_map] at hxi
      obtain ⟨r, hr1, rfl⟩ := Option.map_eq_some_iff.mp hxi
      obtain ⟨hi, er'⟩ := List.getElem?_eq_some_iff.mp hr1
      have hm : r ∈ rs := by rw [← er']; exact List.getElem_mem hi
      obtain ⟨ha, hb⟩ := S.2.2 r hm
      refine ⟨trivial, ?_⟩
      unfold tYes
      refine iteT ?_
      refine ⟨_, rfl, mkS (roadL r), r.1, r.2, rfl, rfl, ha, hb, fun H5 T s5 hT => ?_⟩
      have s6 : Same H5 (upd H5 T (.tup [.int r.1, .int r.2])) := Same.new hT
      have hlen := pr4.len
      rw [List.length_take] at hlen
      refine ⟨s6 _ _ (s5 _ _ hD4), by omega, (s4.trans (s5.trans s6)).put hD, upd_same, ?_⟩
      rw [List.take_succ_eq_append_getElem hi, er']
      exact ((pr4.same (s5.trans s6)).snoc upd_same).keep (tups_lst (s6 _ _ (s5 _ _ hD4)))
    · rintro ys H4 ⟨s4, hD4, pr4⟩
      rw [List.length_map, List.length_map, List.take_length] at pr4
      refine ⟨D, n, ys, rs, rfl, hD4, pr4, by omega, .inl ⟨IW, fun t l2 H5 s5 ht hl2 _ et el => ?_⟩⟩
      have sA := s1.trans (s2.trans (s3.trans s4))
      exact q t l2 ys H5 (sA.trans s5) ⟨et, el, pr4.same s5⟩ (sA.free hl2)
end
end M
namespace M
open PySem L2
/-- an index of a list or of a tuple -/
theorem kIxA {X : Cx} (K : PySem.W.Frag) (h : X.K = K := by rfl) : IxR X (fun x i H Q => rIxL K x i H Q ∨ rIxT K x i H Q) := by
  subst h
  intro value slice pins s σ H x y v u Q I rx ry q e
  rcases q with q | q
  · exact ix_list value slice pins s σ H x y v u Q I rx ry q e
  · exact ix_tup value slice pins s σ H x y v u Q I rx ry q e
/-- ints, and tuples and lists of such, of a depth below m -/
def plainB : Nat → PyData → Bool
  | 0, _ => false
  | _ + 1, .int _ => true
  | m + 1, .tuple ds => ds.all (plainB m)
  | m + 1, .list ds => ds.all (plainB m)
  | _ + 1, _ => false
structure KitA (K : PySem.W.Frag) : Prop where
  is : PySem.W.kitOne K (.type "int") (.type "str") = some false
  ls : PySem.W.kitOne K (.type "list") (.type "str") = some false
  ts : PySem.W.kitOne K (.type "tuple") (.type "str") = some false
  it : PySem.W.kitOne K (.type "int") (.type "tuple") = some false
  il : PySem.W.kitOne K (.type "int") (.type "list") = some false
  lt : PySem.W.kitOne K (.type "list") (.type "tuple") = some false
  tl : PySem.W.kitOne K (.type "tuple") (.type "list") = some false
  ib : PySem.W.kitOne K (.type "int") (.type "bool") = some false
section
variable {P : Program} {w : World} {K : PySem.W.Frag} {mg : Str → Option Value} {base : Heap}
/-! ### _law_alike: of the same plain thing twice -/
def spAli (m : Nat) : Sp := fun vs H Q _ => ∃ (v u : V) (d : PyData), vs = [v, u] ∧ Th H v d ∧ Th H u d ∧ plainB m d = true ∧ ∀ H', Same H H' → Q (.bl true) H'
theorem scAli : FnScope ["found", "due"] ["found", "due"] (defScope sAli) := ⟨rfl, rfl, rfl, by decide +kernel, rfl, by decide +kernel, by decide +kernel⟩
theorem ok_ali {f : Addr} {fd : FuncData} (FAli : Fun K "_law_alike" "_law_alike" sAli f fd) (bAli : Binds K fd ["found", "due"] []) (mAli : mg "_law_alike" = some (.ref f)) (k : KitA K) (mIsi : mg "isinstance" = none) (mStr : mg "str" = none) (mTup : mg "tuple" = none) (mLst : mg "list" = none)
    (mInt : mg "int" = none) (mBool : mg "bool" = none) (mLen : mg "len" = none) (mRange : mg "range" = none) : ∀ m, FnOk P w K mg base CX0 m f fd ["found", "due"] (spAli m)
  | 0 => ⟨fun vs H Q E h => by obtain ⟨_, _, _, _, _, _, z, _⟩ := h; exact absurd z (by simp [plainB]), fun A outer s H args us vs Q E _ _ _ _ h => by obtain ⟨_, _, _, _, _, _, z, _⟩ := h; exact absurd z (by simp [plainB])⟩
  | m + 1 => by
    have GAli := ok_ali FAli bAli mAli k mIsi mStr mTup mLst mInt mBool mLen mRange m
    refine FAli.ok scAli (fun vs H Q E h => ?_) (fun cdv A outer s H vs Q E hr h => ?_)
    · obtain ⟨_, _, _, rfl, _⟩ := h
      rfl
    · obtain ⟨v, u, d, rfl, hv, hu', hp, q⟩ := h
      have hu := hr.units
      have h16 : (16777216 : Nat) = sizeLine := sizeLine_eq.symm
      refine ⟨_, pss_cons (ps_if (pt_val (pe_callB (kIsi K) rfl mIsi boot_isi (pa_cons (pv 1) (pa_cons (pe_typ mStr boot_str) pa_nil)))) (pss_one (ps_ret (pe_and (pe_callB (kIsi K) rfl mIsi boot_isi (pa_cons (pv 0) (pa_cons (pe_typ mStr boot_str) pa_nil))) (pe_one (pe_cmpR op_eq (pv 0) (pv 1) (nomark _)))))) pss_nil)
       (pss_cons (ps_if (PW.pt (pw_or (pt_val (pe_callB (kIsi K) rfl mIsi boot_isi (pa_cons (pv 1) (pa_cons (pe_typ mTup boot_tuple) pa_nil)))) (pw_or1 (pt_val (pe_callB (kIsi K) rfl mIsi boot_isi (pa_cons (pv 1) (pa_cons (pe_typ mLst boot_list) pa_nil))))))) (pss_cons (ps_if (PW.pt (pw_or (pt_cmpR op_ne (pe_callB (kIsi K) rfl mIsi boot_isi (pa_cons (pv 0) (pa_cons (pe_typ mTup boot_tuple) pa_nil))) (pe_callB (kIsi K) rfl mIsi boot_isi (pa_cons (pv 1) (pa_cons (pe_typ mTup boot_tuple) pa_nil))) (nomark _)) (pw_or1 (pt_cmpR op_ne (pe_callB (kIsi K) rfl mIsi boot_isi (pa_cons (pv 0) (pa_cons (pe_typ mLst boot_list) pa_nil))) (pe_callB (kIsi K) rfl mIsi boot_isi (pa_cons (pv 1) (pa_cons (pe_typ mLst boot_list) pa_nil))) (nomark _))))) (pss_one (ps_ret pe_bl)) pss_nil)
       (pss_cons (ps_if (pt_cmpR op_ne (pe_callB (kLen K) rfl mLen PySem.boot_len (pa_cons (pv 0) pa_nil)) (pe_callB (kLen K) rfl mLen PySem.boot_len (pa_cons (pv 1) pa_nil)) (nomark _)) (pss_one (ps_ret pe_bl)) pss_nil)
       (pss_one (ps_ret (pe_cmpR (kEqD K hu) (pe_comp (own := ["k"]) rfl (compScope_free (fr := [("found", 0), ("due", 1)]) [(".0", .local), ("k", .local), ("_law_alike", .globalImplicit), ("due", .cell), ("found", .cell)] rfl rfl (by decide +kernel) rfl (by decide +kernel) ⟨rfl, rfl, trivial⟩ ⟨fun h => no_cf h, fun h => no_cf h, fun h => no_cf h, fun _ => ⟨_, rfl⟩, fun _ => ⟨_, rfl⟩, trivial⟩ ⟨⟨rfl, .inl rfl, .inl rfl⟩, ⟨rfl, .inl rfl, .inl rfl⟩, trivial⟩) (pi_range1 rfl mRange (pa_cons (pe_callB (kLen K) rfl mLen PySem.boot_len (pa_cons (pv 1) pa_nil)) pa_nil)) (fun _ _ _ _ => pg_name (i := 0) (show List.Nodup (["k", "found", "due"] : List Str) by decide +kernel) rfl (Or.inl rfl)) (fun _ _ _ _ => pifs_one (pt_not (pt_val (pe_call GAli (hr.mono (by omega)) rfl mAli FAli.kp bAli .nil pass0 (pa_cons (pe_ix (kIxA K) (pv 1) (pv 0) (fun _ _ => rfl)) (pa_cons (pe_ix (kIxA K) (pv 2) (pv 0) (fun _ _ => rfl)) pa_nil)))))) (fun _ _ _ _ => pv 0)) (pe_lst pa_nil) (nomark _)))))) pss_nil)
       (pss_one (ps_ret (pe_and (pe_callB (kIsi K) rfl mIsi boot_isi (pa_cons (pv 0) (pa_cons (pe_typ mInt boot_int) pa_nil))) (pe_and (pe_not (pe_callB (kIsi K) rfl mIsi boot_isi (pa_cons (pv 0) (pa_cons (pe_typ mBool boot_bool) pa_nil)))) (pe_one (pe_cmpR op_eq (pv 0) (pv 1) (nomark _)))))))), ?_⟩
      cases hu' with
      | int i =>
        cases hv
        refine ⟨_, rfl, _, _, false, rfl, ⟨_, rfl, iteF ?_⟩, .inl ⟨_, .int _, rfl, k.is⟩⟩
        refine ⟨_, rfl, _, _, false, rfl, ⟨_, rfl, iteF ?_⟩, .inl ⟨_, .int _, rfl, k.it⟩⟩
        refine ⟨_, rfl, _, _, false, rfl, ⟨_, rfl, iteF ?_⟩, .inl ⟨_, .int _, rfl, k.il⟩⟩
        refine ⟨_, rfl, _, _, true, rfl, ⟨_, rfl, iteT ⟨_, rfl, _, _, false, rfl, ⟨_, rfl, _, rfl, iteT ?_⟩, .inl ⟨_, .int _, rfl, k.ib⟩⟩⟩, .inl ⟨_, .int _, rfl, kit_self⟩⟩
        refine ⟨_, rfl, _, rfl, rfl, ?_⟩
        rw [decide_eq_true rfl]
        exact q _ (Same.refl _)
      | @tup a xs ds e z hd =>
        cases hv with
        | @tup a' xs' _ e' z' hd' =>
          refine ⟨_, rfl, _, _, false, rfl, ⟨_, rfl, iteF ?_⟩, .inl ⟨_, .tup e, rfl, k.ts⟩⟩
          refine ⟨_, rfl, _, _, true, rfl, ⟨_, rfl, iteT ?_⟩, .inl ⟨_, .tup e, rfl, kit_self⟩⟩
          refine iteT ?_
          have cT : (!decide (V.bl true = V.bl true)) = false := by decide
          have cF : (!decide (V.bl false = V.bl false)) = false := by decide
          refine ⟨_, rfl, _, _, true, rfl, ⟨_, rfl, _, _, true, rfl, ⟨rfl, _, rfl, ?_⟩, .inl ⟨_, .tup e, rfl, kit_self⟩⟩, .inl ⟨_, .tup e', rfl, kit_self⟩⟩
          rw [cT]
          refine iteF ?_
          refine ⟨_, rfl, _, _, false, rfl, ⟨_, rfl, _, _, false, rfl, ⟨rfl, _, rfl, ?_⟩, .inl ⟨_, .tup e, rfl, k.tl⟩⟩, .inl ⟨_, .tup e', rfl, k.tl⟩⟩
          rw [cF]
          refine iteF ?_
          have hl : xs'.length = xs.length := by rw [hd'.len, hd.len]
          refine ⟨_, rfl, a', xs', rfl, .inr (SqT.of e'), _, rfl, a, xs, rfl, .inr (SqT.of e), rfl, _, rfl, ?_⟩
          have cL : (!decide (V.int (xs'.length : Int) = V.int (xs.length : Int))) = false := by rw [hl]; simp
          rw [cL]
          refine iteF ?_
          have hlen := hd.len
          have hpl : ∀ x ∈ ds, plainB m x = true := List.all_eq_true.mp (by simpa only [plainB] using hp)
          refine ⟨_, rfl, a, xs, rfl, .inr (SqT.of e), _, rfl, by omega, by omega, fun D hD => ?_⟩
          rw [Int.toNat_natCast]
          refine comp_range (lo := 0) (n := xs.length) (fun j zs H3 => Same H H3 ∧ H3 D = some (.lst zs) ∧ zs = []) ⟨Same.new hD, upd_same, rfl⟩ ?_ ?_
          · rintro j zs H3 hj ⟨s3, e3, rfl⟩
            rw [Int.zero_add]
            refine ⟨⟨rfl, rfl, trivial⟩, ?_⟩
            obtain ⟨dx, ex, tx⟩ := (hd.same s3).get (List.getElem?_eq_getElem hj)
            obtain ⟨dx', ex', tx'⟩ := (hd'.same s3).get (List.getElem?_eq_getElem (l := xs') (i := j) (by omega))
            rw [ex] at ex'
            cases ex'
            refine ⟨_, rfl, _, rfl, .inr ⟨a', xs', _, _, rfl, rfl, SqT.of (s3 _ _ e'), atI_nat (List.getElem?_eq_getElem (by omega)), ?_⟩⟩
            refine ⟨_, rfl, _, rfl, .inr ⟨a, xs, _, _, rfl, rfl, SqT.of (s3 _ _ e), atI_nat (List.getElem?_eq_getElem hj), ?_⟩⟩
            refine ⟨_, _, dx, rfl, tx', tx, hpl dx (List.mem_of_getElem? ex), fun H4 s4 => ⟨_, rfl, ?_⟩⟩
            exact ⟨s3.trans s4, s4 _ _ e3, rfl⟩
          · rintro zs H3 ⟨s3, e3, rfl⟩
            refine ⟨Nat.zero_le _, fun B hB => ?_⟩
            have s4 : Same H3 (upd H3 B (.lst [])) := Same.new hB
            refine ⟨.list (([] : List Int).map PyData.int), .list (([] : List Int).map PyData.int), .lst (SqL.of (s4 _ _ e3)) .nil, .lst (SqL.of upd_same) .nil, ints_shaped _, ints_shaped _, ?_⟩
            exact q _ (s3.trans s4)
      | @lst a xs ds e z hd =>
        cases hv with
        | @lst a' xs' _ e' z' hd' =>
          refine ⟨_, rfl, _, _, false, rfl, ⟨_, rfl, iteF ?_⟩, .inl ⟨_, .lst e, rfl, k.ls⟩⟩
          refine ⟨_, rfl, _, _, false, rfl, ⟨_, rfl, iteF ?_⟩, .inl ⟨_, .lst e, rfl, k.lt⟩⟩
          refine ⟨_, rfl, _, _, true, rfl, ⟨_, rfl, iteT ?_⟩, .inl ⟨_, .lst e, rfl, kit_self⟩⟩
          have cT : (!decide (V.bl true = V.bl true)) = false := by decide
          have cF : (!decide (V.bl false = V.bl false)) = false := by decide
          refine ⟨_, rfl, _, _, false, rfl, ⟨_, rfl, _, _, false, rfl, ⟨rfl, _, rfl, ?_⟩, .inl ⟨_, .lst e, rfl, k.lt⟩⟩, .inl ⟨_, .lst e', rfl, k.lt⟩⟩
          rw [cF]
          refine iteF ?_
          refine ⟨_, rfl, _, _, true, rfl, ⟨_, rfl, _, _, true, rfl, ⟨rfl, _, rfl, ?_⟩, .inl ⟨_, .lst e, rfl, kit_self⟩⟩, .inl ⟨_, .lst e', rfl, kit_self⟩⟩
          rw [cT]
          refine iteF ?_
          have hl : xs'.length = xs.length := by rw [hd'.len, hd.len]
          refine ⟨_, rfl, a', xs', rfl, .inl (SqL.of e'), _, rfl, a, xs, rfl, .inl (SqL.of e), rfl, _, rfl, ?_⟩
          have cL : (!decide (V.int (xs'.length : Int) = V.int (xs.length : Int))) = false := by rw [hl]; simp
          rw [cL]
          refine iteF ?_
          have hlen := hd.len
          have hpl : ∀ x ∈ ds, plainB m x = true := List.all_eq_true.mp (by simpa only [plainB] using hp)
          refine ⟨_, rfl, a, xs, rfl, .inl (SqL.of e), _, rfl, by omega, by omega, fun D hD => ?_⟩
          rw [Int.toNat_natCast]
          refine comp_range (lo := 0) (n := xs.length) (fun j zs H3 => Same H H3 ∧ H3 D = some (.lst zs) ∧ zs = []) ⟨Same.new hD, upd_same, rfl⟩ ?_ ?_
          · rintro j zs H3 hj ⟨s3, e3, rfl⟩
            rw [Int.zero_add]
            refine ⟨⟨rfl, rfl, trivial⟩, ?_⟩
            obtain ⟨dx, ex, tx⟩ := (hd.same s3).get (List.getElem?_eq_getElem hj)
            obtain ⟨dx', ex', tx'⟩ := (hd'.same s3).get (List.getElem?_eq_getElem (l := xs') (i := j) (by omega))
            rw [ex] at ex'
            cases ex'
            refine ⟨_, rfl, _, rfl, .inl ⟨a', xs', _, _, rfl, rfl, SqL.of (s3 _ _ e'), atI_nat (List.getElem?_eq_getElem (by omega)), ?_⟩⟩
            refine ⟨_, rfl, _, rfl, .inl ⟨a, xs, _, _, rfl, rfl, SqL.of (s3 _ _ e), atI_nat (List.getElem?_eq_getElem hj), ?_⟩⟩
            refine ⟨_, _, dx, rfl, tx', tx, hpl dx (List.mem_of_getElem? ex), fun H4 s4 => ⟨_, rfl, ?_⟩⟩
            exact ⟨s3.trans s4, s4 _ _ e3, rfl⟩
          · rintro zs H3 ⟨s3, e3, rfl⟩
            refine ⟨Nat.zero_le _, fun B hB => ?_⟩
            have s4 : Same H3 (upd H3 B (.lst [])) := Same.new hB
            refine ⟨.list (([] : List Int).map PyData.int), .list (([] : List Int).map PyData.int), .lst (SqL.of (s4 _ _ e3)) .nil, .lst (SqL.of upd_same) .nil, ints_shaped _, ints_shaped _, ?_⟩
            exact q _ (s3.trans s4)
      | _ => exact absurd hp (by simp [plainB])
end
end M
namespace M
open PySem L2
theorem at_ints (ns : List Int) {j : Int} (h0 : 0 ≤ j) (h1 : j < ns.length) : ∃ z ∈ ns, atI (ns.map V.int) j = some (.int z) := by
  obtain ⟨k, rfl⟩ := Int.eq_ofNat_of_zero_le h0
  have hk : k < ns.length := by omega
  refine ⟨ns[k], List.getElem_mem hk, atI_nat ?_⟩
  show (ns.map V.int)[k]? = some (.int ns[k])
  rw [List.getElem?_map, List.getElem?_eq_getElem hk]
  rfl
theorem smallWeb {n : Int} {rs : List (Int × Int)} (h1 : 1 ≤ n ∧ n ≤ 16) (h : IsWebR n rs) : SmallWeb n rs :=
  ⟨⟨by omega, h1.2⟩, h.1, fun p hp => by have := h.2.1 p hp; exact ⟨⟨by omega, by omega⟩, by omega, by omega⟩⟩
theorem isWeb {n : Int} {rs : List (Int × Int)} (h1 : 1 ≤ n) (h : IsWebR n rs) : IsWeb n rs := ⟨h1, h.2.1, h.2.2⟩
theorem ths_prs {H : Hp} : ∀ {xs : List V} {rs : List (Int × Int)}, Prs H xs rs → Ths H xs (rs.map prD)
  | _, _, .nil => .nil
  | _, _, .cons e h => .cons (.tup e (by show 2 ≤ 1000; omega) (.cons (.int _) (.cons (.int _) .nil))) (ths_prs h)
theorem th_web {H : Hp} {wb l : Addr} {n : Int} {xs : List V} {rs : List (Int × Int)} (W : WebAt H wb l n xs rs) (h : rs.length ≤ 30) : Th H (.ref wb) (.tuple [.int n, .list (rs.map prD)]) :=
  .tup W.w (by show 2 ≤ 1000; omega) (.cons (.int _) (.cons (.lst W.l (by rw [W.p.len]; omega) (ths_prs W.p)) .nil))
theorem plain_web (n : Int) (rs : List (Int × Int)) : plainB 4 (.tuple [.int n, .list (rs.map prD)]) = true := by
  simp [plainB, prD]
theorem prl_eqv (rs : List (Int × Int)) : (true != PyData.eqv (.list (rs.map prD)) (.list (rs.map prD))) = false := by
  simp [PyData.eqv, prs_eqv]
theorem num_lt {i : Int} (h0 : 0 ≤ i) (h1 : i ≤ 16) : ∀ c ∈ (num i).cps.toList, c < 1114112 := fun c hc => by
  have := (small_num h0 h1).ok
  unfold PyData.strOk at this
  rw [← Array.all_toList, List.all_eq_true] at this
  exact of_decide_eq_true (this c hc)
theorem webT_ok {n : Int} {rs : List (Int × Int)} (S : SmallWeb n rs) : PyData.strOk (webT n rs) = true := by
  unfold PyData.strOk
  rw [← Array.all_toList, List.all_eq_true]
  intro c hc
  refine decide_eq_true ?_
  have hc : c ∈ webL n rs := hc
  unfold webL at hc
  rw [List.mem_append, List.mem_flatMap] at hc
  rcases hc with hc | ⟨p, hp, hc⟩
  · exact num_lt S.1.1 S.1.2 c hc
  · have h := S.2.2 p hp
    unfold roadL at hc
    rw [List.mem_cons, List.mem_append, List.mem_cons] at hc
    rcases hc with rfl | hc | rfl | hc
    · omega
    · exact num_lt h.1.1 h.1.2 c hc
    · omega
    · exact num_lt h.2.1 h.2.2 c hc
section
variable {P : Program} {w : World} {K : PySem.W.Frag} {mg : Str → Option Value} {base : Heap}
/-! ### law -/
def spLaw (K : PySem.W.Frag) : Sp := fun vs H Q _ => ∃ (a : Addr) (ns : List Int), vs = [.ref a] ∧ SqL K H a (ns.map V.int) ∧ ns.length ≤ 63 ∧ ∀ H', Q (.bl true) H'
theorem scLaw : FnScope ["script", "k", "xs", "many", "web", "due", "handed", "found", "told"] ["script"] (defScope sLaw) := ⟨rfl, rfl, rfl, by decide +kernel, rfl, by decide +kernel, by decide +kernel⟩
theorem ok_law {f fA fN fBig fWww fSho fRea fAli : Addr} {fd fdA fdN fdBig fdWww fdSho fdRea fdAli : FuncData} (F : Fun K "law" "law" sLaw f fd)
    (FA : Fun K "_law_cell_at" "_law_cell_at" sCel fA fdA) (bA : Binds K fdA ["script", "k"] []) (mA : mg "_law_cell_at" = some (.ref fA)) (GA : FnOk P w K mg base CX0 1 fA fdA ["script", "k"] (spCel K))
    (FN : Fun K "_law_numbers" "_law_numbers" sNum fN fdN) (bN : Binds K fdN ["cell", "many"] []) (mN : mg "_law_numbers" = some (.ref fN)) (GN : FnOk P w K mg base CX0 1 fN fdN ["cell", "many"] spNum)
    (FBig : Fun K "_law_big_web" "_law_big_web" sBig fBig fdBig) (bBig : Binds K fdBig ["xs", "places", "many"] []) (mBig : mg "_law_big_web" = some (.ref fBig)) (GBig : FnOk P w K mg base CX0 1 fBig fdBig ["xs", "places", "many"] spBig)
    (FWww : Fun K "_law_web_written" "_law_web_written" sWww fWww fdWww) (bWww : Binds K fdWww ["web"] []) (mWww : mg "_law_web_written" = some (.ref fWww)) (GWww : FnOk P w K mg base CX0 1 fWww fdWww ["web"] spWww)
    (FSho : Fun K "show_web" "show_web" sSho fSho fdSho) (bSho : Binds K fdSho ["web"] []) (mSho : mg "show_web" = some (.ref fSho)) (GSho : FnOk P w K mg base CX0 1 fSho fdSho ["web"] spSho)
    (FRea : Fun K "read_web" "read_web" sRea fRea fdRea) (bRea : Binds K fdRea ["text"] []) (mRea : mg "read_web" = some (.ref fRea)) (GRea : FnOk P w K mg base CX0 4 fRea fdRea ["text"] spRea)
    (FAli : Fun K "_law_alike" "_law_alike" sAli fAli fdAli) (bAli : Binds K fdAli ["found", "due"] []) (mAli : mg "_law_alike" = some (.ref fAli)) (GAli : FnOk P w K mg base CX0 4 fAli fdAli ["found", "due"] (spAli 4))
    (mIsi : mg "isinstance" = none) (mStr : mg "str" = none) (mLst : mg "list" = none) (mLen : mg "len" = none) (mRange : mg "range" = none) (mMin : mg "min" = none) (mMax : mg "max" = none) :
    FnOk P w K mg base CX0 5 f fd ["script"] (spLaw K) := by
  refine F.ok scLaw (fun vs H Q E h => ?_) (fun cdv A outer s H vs Q E hr h => ?_)
  · obtain ⟨a, ns, rfl, _⟩ := h
    rfl
  · obtain ⟨a, ns, rfl, hS, hlen, q⟩ := h
    have hu := hr.units
    have h16 : (16777216 : Nat) = sizeLine := sizeLine_eq.symm
    refine ⟨_, pss_cons (ps_for PassesOwn.never rfl (pi_range1 rfl mRange (pa_cons (pe_callB (call_max2 rfl) rfl mMax boot_max (pa_cons pe_int (pa_cons (pe_callB (call_min2 rfl) rfl mMin boot_min (pa_cons (pe_callB (kLen K) rfl mLen PySem.boot_len (pa_cons (pv 0) pa_nil)) (pa_cons pe_int pa_nil))) pa_nil))) pa_nil)) (pg_name (i := 1) scLaw.nd rfl (Or.inl rfl))
       (pss_cons (ps_set (i := 2) scLaw.nd rfl (Or.inl rfl) (pe_call GN (hr.mono (by decide)) rfl mN FN.kp bN .nil pass0 (pa_cons (pe_call GA (hr.mono (by decide)) rfl mA FA.kp bA .nil pass0 (pa_cons (pv 0) (pa_cons (pv 1) pa_nil))) (pa_cons pe_int pa_nil))))
       (pss_cons (ps_set (i := 3) scLaw.nd rfl (Or.inl rfl) (pe_ix (kIxL K) (pe_lst (pa_cons (pe_op op_mod (pe_ix (kIxL K) (pv 2) pe_int (fun _ _ => rfl)) pe_int) (pa_cons pe_int (pa_cons pe_int (pa_cons (pe_op op_mod (pe_ix (kIxL K) (pv 2) pe_int (fun _ _ => rfl)) pe_int) pa_nil))))) (pe_op op_mod (pe_op op_fdivB (pe_ix (kIxL K) (pv 2) pe_int (fun _ _ => rfl)) pe_int) pe_int) (fun _ _ => rfl)))
       (pss_cons (ps_set (i := 4) scLaw.nd rfl (Or.inl rfl) (pe_call GBig (hr.mono (by decide)) rfl mBig FBig.kp bBig .nil pass0 (pa_cons (pv 2) (pa_cons (pe_op op_add pe_int (pe_op op_mod (pe_ix (kIxL K) (pv 2) pe_int (fun _ _ => rfl)) pe_int)) (pa_cons (pv 3) pa_nil)))))
       (pss_cons (ps_set (i := 5) scLaw.nd rfl (Or.inl rfl) (pe_call GWww (hr.mono (by decide)) rfl mWww FWww.kp bWww .nil pass0 (pa_cons (pv 4) pa_nil)))
       (pss_cons (ps_set (i := 6) scLaw.nd rfl (Or.inl rfl) (pe_tup (pa_cons (pe_ix (kIxT K) (pv 4) pe_int (fun _ _ => rfl)) (pa_cons (pe_callTy (kListOf K) rfl mLst boot_list (pa_cons (pe_ix (kIxT K) (pv 4) pe_int (fun _ _ => rfl)) pa_nil)) pa_nil))))
       (pss_cons (ps_set (i := 7) scLaw.nd rfl (Or.inl rfl) (pe_call GSho (hr.mono (by decide)) rfl mSho FSho.kp bSho .nil pass0 (pa_cons (pv 6) pa_nil)))
       (pss_cons (ps_if (PW.pt (pw_or (pt_not (pt_val (pe_callB (kIsi K) rfl mIsi boot_isi (pa_cons (pv 7) (pa_cons (pe_typ mStr boot_str) pa_nil))))) (pw_or (pt_cmpR (kNeD K hu) (pv 7) (pv 5) (nomark _)) (pw_or1 (pt_cmpR (kNeD K hu) (pe_ix (kIxT K) (pv 6) pe_int (fun _ _ => rfl)) (pe_ix (kIxT K) (pv 4) pe_int (fun _ _ => rfl)) (nomark _)))))) (pss_one (ps_ret pe_bl)) pss_nil)
       (pss_cons (ps_set (i := 8) scLaw.nd rfl (Or.inl rfl) (pe_call GRea (hr.mono (by decide)) rfl mRea FRea.kp bRea .nil pass0 (pa_cons (pv 5) pa_nil)))
       (pss_cons (ps_if (pt_not (pt_val (pe_call GAli (hr.mono (by decide)) rfl mAli FAli.kp bAli .nil pass0 (pa_cons (pv 8) (pa_cons (pv 4) pa_nil))))) (pss_one (ps_ret pe_bl)) pss_nil)
       (pss_cons (ps_expr (pe_bm0 PySem.F.plainAttrs_list PySem.F.slot_list_clear PySem.F.type_list_clear mt_clear (pe_ix (kIxT K) (pv 8) pe_int (fun _ _ => rfl))))
       (pss_one (ps_if (PW.pt (pw_or (pt_not (pt_val (pe_call GAli (hr.mono (by decide)) rfl mAli FAli.kp bAli .nil pass0 (pa_cons (pe_call GRea (hr.mono (by decide)) rfl mRea FRea.kp bRea .nil pass0 (pa_cons (pv 5) pa_nil)) (pa_cons (pv 4) pa_nil))))) (pw_or1 (pt_cmpR (kNeD K hu) (pe_call GSho (hr.mono (by decide)) rfl mSho FSho.kp bSho .nil pass0 (pa_cons (pv 4) pa_nil)) (pv 5) (nomark _))))) (pss_one (ps_ret pe_bl)) pss_nil)))))))))))))
       (pss_one (ps_ret pe_bl)), ?_⟩
    refine ⟨_, rfl, a, _, rfl, .inl hS, _, _, rfl, _, _, rfl, ?_⟩
    rw [List.length_map]
    generalize hX : (if (if (20 : Int) < ((ns.length : Nat) : Int) then 20 else ((ns.length : Nat) : Int)) > 1 then (if (20 : Int) < ((ns.length : Nat) : Int) then 20 else ((ns.length : Nat) : Int)) else 1) = X
    have hb : 0 ≤ X ∧ X ≤ 63 := by rw [← hX]; split <;> split <;> omega
    obtain ⟨n, rfl⟩ : ∃ n : Nat, X = n := ⟨X.toNat, by omega⟩
    refine ⟨_, rfl, by omega, by omega, ?_⟩
    rw [Int.toNat_natCast]
    refine for_range (lo := 0) (n := n) (fun i σ' H' => ∃ v1 v2 v3 v4 v5 v6 v7 v8 : Option V, σ' = [some (.ref a), v1, v2, v3, v4, v5, v6, v7, v8] ∧ Same H H') ⟨none, none, none, none, none, none, none, none, rfl, Same.refl _⟩ ?_ ?_
    · rintro i σ' H1 hi ⟨v1, v2, v3, v4, v5, v6, v7, v8, rfl, s1⟩
      rw [Int.zero_add]
      dsimp only [gName]
      refine ⟨_, rfl, _, rfl, a, ns, i, rfl, s1.seq hS, fun z0 => ?_⟩
      refine ⟨z0, 62, rfl, by decide, fun xl row H2 s2 exl hrow => ?_⟩
      dsimp only [gName]
      have r0 : 0 ≤ row.getD (60 : Int).toNat 0 % 31 ∧ row.getD (60 : Int).toNat 0 % 31 < 31 := ⟨Int.emod_nonneg _ (by decide), Int.emod_lt_of_pos _ (by decide)⟩
      have r1 : 0 ≤ row.getD (60 : Int).toNat 0 % 4 ∧ row.getD (60 : Int).toNat 0 % 4 < 4 := ⟨Int.emod_nonneg _ (by decide), Int.emod_lt_of_pos _ (by decide)⟩
      refine ⟨_, rfl, xl, _, _, _, rfl, rfl, SqL.of exl, at_int (i := 60) (by decide) (by omega), _, _, rfl, rfl, by show (0 : Int) < 31; decide, ?_⟩
      refine ⟨_, rfl, xl, _, _, _, rfl, rfl, SqL.of exl, at_int (i := 60) (by decide) (by omega), _, _, rfl, rfl, by show (0 : Int) < 4; decide, ?_⟩
      refine ⟨by show 4 ≤ sizeLine; omega, fun p hp => ?_⟩
      have s3 : Same H2 (upd H2 p (.lst [.int (row.getD (60 : Int).toNat 0 % 31), .int 30, .int 30, .int (row.getD (60 : Int).toNat 0 % 4)])) := Same.new hp
      have e3 : upd H2 p (.lst [.int (row.getD (60 : Int).toNat 0 % 31), .int 30, .int 30, .int (row.getD (60 : Int).toNat 0 % 4)]) p = some (.lst [.int (row.getD (60 : Int).toNat 0 % 31), .int 30, .int 30, .int (row.getD (60 : Int).toNat 0 % 4)]) := upd_same
      generalize upd H2 p (.lst [.int (row.getD (60 : Int).toNat 0 % 31), .int 30, .int 30, .int (row.getD (60 : Int).toNat 0 % 4)]) = H3 at s3 e3 ⊢
      refine ⟨_, rfl, xl, _, _, _, rfl, rfl, SqL.of (s3 _ _ exl), at_int (i := 61) (by decide) (by omega), _, _, rfl, rfl, ⟨by decide, lt2_lit⟩, _, _, rfl, rfl, by show (0 : Int) < 4; decide, ?_⟩
      have r2 : 0 ≤ row.getD (61 : Int).toNat 0 / 16 % 4 ∧ row.getD (61 : Int).toNat 0 / 16 % 4 < 4 := ⟨Int.emod_nonneg _ (by decide), Int.emod_lt_of_pos _ (by decide)⟩
      obtain ⟨mn, hmn, hm0, hm1⟩ : ∃ mn : Int, atI [V.int (row.getD (60 : Int).toNat 0 % 31), .int 30, .int 30, .int (row.getD (60 : Int).toNat 0 % 4)] (row.getD (61 : Int).toNat 0 / 16 % 4) = some (.int mn) ∧ 0 ≤ mn ∧ mn ≤ 30 := by
        obtain ⟨z, hz, e⟩ := at_ints [row.getD (60 : Int).toNat 0 % 31, 30, 30, row.getD (60 : Int).toNat 0 % 4] (j := row.getD (61 : Int).toNat 0 / 16 % 4) r2.1 r2.2
        refine ⟨z, e, ?_⟩
        simp only [List.mem_cons, List.not_mem_nil, or_false] at hz
        rcases hz with rfl | rfl | rfl | rfl <;> omega
      refine ⟨p, _, _, _, rfl, rfl, SqL.of e3, hmn, ?_⟩
      dsimp only [gName]
      have r3 : 0 ≤ row.getD (61 : Int).toNat 0 % 16 ∧ row.getD (61 : Int).toNat 0 % 16 < 16 := ⟨Int.emod_nonneg _ (by decide), Int.emod_lt_of_pos _ (by decide)⟩
      refine ⟨_, rfl, _, rfl, xl, _, _, _, rfl, rfl, SqL.of (s3 _ _ exl), at_int (i := 61) (by decide) (by omega), _, _, rfl, rfl, by show (0 : Int) < 16; decide, _, _, rfl, rfl, _, rfl, ?_⟩
      generalize hpl : (1 : Int) + row.getD (61 : Int).toNat 0 % 16 = pl
      have hpl2 : 1 ≤ pl ∧ pl ≤ 16 := by omega
      refine ⟨xl, row, pl, mn, by rw [← hpl]; rfl, s3 _ _ exl, hrow, hpl2, ⟨hm0, hm1⟩, fun wb l xs rs H4 s4 W IW hl => ?_⟩
      dsimp only [gName]
      have S := smallWeb hpl2 IW
      refine ⟨_, rfl, wb, l, pl, xs, rs, rfl, W, S, ?_⟩
      dsimp only [gName]
      refine ⟨_, rfl, wb, _, _, _, rfl, rfl, SqT.of W.w, atI_nat (j := 0) rfl, _, rfl, wb, _, _, _, rfl, rfl, SqT.of W.w, atI_nat (j := 1) rfl, l, _, rfl, .inl (SqL.of W.l), fun l2 hl2 => ⟨by show 2 ≤ sizeLine; omega, fun hd hhd => ?_⟩⟩
      have s5 : Same H4 (upd H4 l2 (.lst xs)) := Same.new hl2
      have e5 : upd H4 l2 (.lst xs) l2 = some (.lst xs) := upd_same
      generalize upd H4 l2 (.lst xs) = H5 at s5 e5 hhd ⊢
      have s6 : Same H5 (upd H5 hd (.tup [.int pl, .ref l2])) := Same.new hhd
      have e6 : upd H5 hd (.tup [.int pl, .ref l2]) hd = some (.tup [.int pl, .ref l2]) := upd_same
      generalize upd H5 hd (.tup [.int pl, .ref l2]) = H6 at s6 e6 ⊢
      dsimp only [gName]
      have S46 := s5.trans s6
      have W6 : WebAt H6 hd l2 pl xs rs := ⟨e6, s6 _ _ e5, W.p.same S46⟩
      refine ⟨_, rfl, hd, l2, pl, xs, rs, rfl, W6, S, fun H7 s7 => ?_⟩
      dsimp only [gName]
      have S47 := S46.trans s7
      have W7 := W6.same s7
      have V7 := W.same S47
      have oT : SeqAt.shaped (.str (webT pl rs)) = true := str_shaped (webT_ok S)
      have cE : (true != PyData.eqv (.str (webT pl rs)) (.str (webT pl rs))) = false := by simp [PyData.eqv]
      refine ⟨_, rfl, _, _, true, rfl, ⟨_, rfl, iteF ?_⟩, .inl ⟨_, .str _, rfl, kit_self⟩⟩
      refine ⟨_, rfl, _, rfl, .str (webT pl rs), .str (webT pl rs), .str _, .str _, oT, oT, _, rfl, ?_⟩
      rw [cE]
      refine iteF ?_
      refine ⟨_, rfl, hd, _, _, _, rfl, rfl, SqT.of W7.w, atI_nat (j := 1) rfl, _, rfl, wb, _, _, _, rfl, rfl, SqT.of V7.w, atI_nat (j := 1) rfl, .list (rs.map prD), .list (rs.map prD), .lst (SqL.of W7.l) W7.p.dats, .lst (SqL.of V7.l) V7.p.dats, prs_shaped _, prs_shaped _, _, rfl, ?_⟩
      rw [prl_eqv]
      refine iteF ?_
      -- told
      refine ⟨_, rfl, pl, rs, rfl, S, isWeb hpl2.1 IW, fun wb2 t2 ys H8 s8 W8 hl8 => ?_⟩
      dsimp only [gName]
      have V8 := V7.same s8
      refine ⟨_, rfl, _, rfl, _, _, _, rfl, th_web W8 IW.1, th_web V8 IW.1, plain_web _ _, fun H9 s9 => ⟨_, rfl, iteF ?_⟩⟩
      have W9 := W8.same s9
      have V9 := V8.same s9
      dsimp only [tNext]
      have SH7 : Same H H7 := s1.trans (s2.trans (s3.trans (s4.trans S47)))
      have hlt : l ≠ t2 := ne_of_none V7.l hl8
      have hwt : wb ≠ t2 := ne_of_none V7.w hl8
      refine ⟨_, rfl, wb2, _, _, _, rfl, rfl, SqT.of W9.w, atI_nat (j := 1) rfl, .inl ⟨rfl, _, SqL.of W9.l⟩, t2, ys, rfl, rfl, W9.l, ?_⟩
      have SH10 : Same H7 (upd H9 t2 (.lst [])) := (s8.trans s9).put hl8
      have k10 := tups_lst (o := .lst []) W9.l
      have V10 : WebAt (upd H9 t2 (.lst [])) wb l pl xs rs := ⟨upd_eq V9.w hwt, upd_eq V9.l hlt, V9.p.keep k10⟩
      generalize upd H9 t2 (.lst []) = H10 at SH10 V10 ⊢
      refine ⟨_, rfl, pl, rs, rfl, S, isWeb hpl2.1 IW, fun wb3 t3 zs H11 s11 W11 hl11 => ?_⟩
      have V11 := V10.same s11
      refine ⟨_, rfl, _, _, _, rfl, th_web W11 IW.1, th_web V11 IW.1, plain_web _ _, fun H12 s12 => ⟨_, rfl, iteF ?_⟩⟩
      have V12 := V11.same s12
      refine ⟨_, rfl, wb, l, pl, xs, rs, rfl, V12, S, fun H13 s13 => ?_⟩
      refine ⟨_, rfl, .str (webT pl rs), .str (webT pl rs), .str _, .str _, oT, oT, _, rfl, ?_⟩
      rw [cE]
      refine iteF ?_
      exact ⟨_, _, _, _, _, _, _, _, rfl, (SH7.trans SH10).trans (s11.trans (s12.trans s13))⟩
    · rintro σ' H1 ⟨v1, v2, v3, v4, v5, v6, v7, v8, rfl, s1⟩
      exact q _
end
end M
namespace M
open PySem L2
theorem all_mk {l : PySem.W.OpenLaw} {w : World} {K : PySem.W.Frag} {h : Heap} {mg : Str → Option Value} {fa f1 f2 f3 f4 f5 f6 f7 f8 f9 f10 f11 f12 no : Addr} {tF t4 t16 t30 : Tok} (X : K.In h) (G : h.Ns mainGlobals mg) (hfa : mg "law" = some (.ref fa))
    {od1 an1 od2 an2 od3 an3 od4 an4 od5 an5 od6 an6 od7 an7 od8 an8 od9 an9 od10 an10 od11 an11 od12 an12 : Option Addr} {sl1 sl2 sl3 sl4 sl5 sl6 sl7 sl8 sl9 sl10 sl11 sl12 : Array (Option Value)} {oc1 kV1 dc1 pm1 cd1 ct1 oc2 kV2 dc2 pm2 cd2 ct2 oc3 kV3 dc3 pm3 cd3 ct3 oc4 kV4 dc4 pm4 cd4 ct4 oc5 kV5 dc5 pm5 cd5 ct5 oc6 kV6 dc6 pm6 cd6 ct6 oc7 kV7 dc7 pm7 cd7 ct7 oc8 kV8 dc8 pm8 cd8 ct8 oc9 kV9 dc9 pm9 cd9 ct9 oc10 kV10 dc10 pm10 cd10 ct10 oc11 kV11 dc11 pm11 cd11 ct11 oc12 kV12 dc12 pm12 cd12 ct12 : Value}
    (aF1 : PySem.W.nsIn K mainGlobals "is_written" = some (some (.ref f1))) (lF1 : K.lookup f1 = some ⟨oc1, od1, .func (PySem.W.fnOf "is_written" "is_written" (defArgs sWri) (defBody sWri) (defScope sWri) .none kV1 dc1 pm1 an1 cd1 ct1), sl1⟩) (cF1 : PySem.W.codeIn K cd1 "is_written" = true) (kF1 : PySem.W.keepIn K (.ref f1) = true)
    (aF2 : PySem.W.nsIn K mainGlobals "is_number" = some (some (.ref f2))) (lF2 : K.lookup f2 = some ⟨oc2, od2, .func (PySem.W.fnOf "is_number" "is_number" (defArgs sIsn) (defBody sIsn) (defScope sIsn) .none kV2 dc2 pm2 an2 cd2 ct2), sl2⟩) (cF2 : PySem.W.codeIn K cd2 "is_number" = true) (kF2 : PySem.W.keepIn K (.ref f2) = true)
    (aF3 : PySem.W.nsIn K mainGlobals "web_of" = some (some (.ref f3))) (lF3 : K.lookup f3 = some ⟨oc3, od3, .func (PySem.W.fnOf "web_of" "web_of" (defArgs sWebOf) (defBody sWebOf) (defScope sWebOf) .none kV3 dc3 pm3 an3 cd3 ct3), sl3⟩) (cF3 : PySem.W.codeIn K cd3 "web_of" = true) (kF3 : PySem.W.keepIn K (.ref f3) = true)
    (aF4 : PySem.W.nsIn K mainGlobals "show_web" = some (some (.ref f4))) (lF4 : K.lookup f4 = some ⟨oc4, od4, .func (PySem.W.fnOf "show_web" "show_web" (defArgs sSho) (defBody sSho) (defScope sSho) .none kV4 dc4 pm4 an4 cd4 ct4), sl4⟩) (cF4 : PySem.W.codeIn K cd4 "show_web" = true) (kF4 : PySem.W.keepIn K (.ref f4) = true)
    (aF5 : PySem.W.nsIn K mainGlobals "road_of" = some (some (.ref f5))) (lF5 : K.lookup f5 = some ⟨oc5, od5, .func (PySem.W.fnOf "road_of" "road_of" (defArgs sRoa) (defBody sRoa) (defScope sRoa) .none kV5 dc5 pm5 an5 cd5 ct5), sl5⟩) (cF5 : PySem.W.codeIn K cd5 "road_of" = true) (kF5 : PySem.W.keepIn K (.ref f5) = true)
    (aF6 : PySem.W.nsIn K mainGlobals "read_web" = some (some (.ref f6))) (lF6 : K.lookup f6 = some ⟨oc6, od6, .func (PySem.W.fnOf "read_web" "read_web" (defArgs sRea) (defBody sRea) (defScope sRea) .none kV6 dc6 pm6 an6 cd6 ct6), sl6⟩) (cF6 : PySem.W.codeIn K cd6 "read_web" = true) (kF6 : PySem.W.keepIn K (.ref f6) = true)
    (aF7 : PySem.W.nsIn K mainGlobals "_law_cell_at" = some (some (.ref f7))) (lF7 : K.lookup f7 = some ⟨oc7, od7, .func (PySem.W.fnOf "_law_cell_at" "_law_cell_at" (defArgs sCel) (defBody sCel) (defScope sCel) .none kV7 dc7 pm7 an7 cd7 ct7), sl7⟩) (cF7 : PySem.W.codeIn K cd7 "_law_cell_at" = true) (kF7 : PySem.W.keepIn K (.ref f7) = true)
    (aF8 : PySem.W.nsIn K mainGlobals "_law_numbers" = some (some (.ref f8))) (lF8 : K.lookup f8 = some ⟨oc8, od8, .func (PySem.W.fnOf "_law_numbers" "_law_numbers" (defArgs sNum) (defBody sNum) (defScope sNum) .none kV8 dc8 pm8 an8 cd8 ct8), sl8⟩) (cF8 : PySem.W.codeIn K cd8 "_law_numbers" = true) (kF8 : PySem.W.keepIn K (.ref f8) = true)
    (aF9 : PySem.W.nsIn K mainGlobals "_law_big_web" = some (some (.ref f9))) (lF9 : K.lookup f9 = some ⟨oc9, od9, .func (PySem.W.fnOf "_law_big_web" "_law_big_web" (defArgs sBig) (defBody sBig) (defScope sBig) .none kV9 dc9 pm9 an9 cd9 ct9), sl9⟩) (cF9 : PySem.W.codeIn K cd9 "_law_big_web" = true) (kF9 : PySem.W.keepIn K (.ref f9) = true)
    (aF10 : PySem.W.nsIn K mainGlobals "_law_web_written" = some (some (.ref f10))) (lF10 : K.lookup f10 = some ⟨oc10, od10, .func (PySem.W.fnOf "_law_web_written" "_law_web_written" (defArgs sWww) (defBody sWww) (defScope sWww) .none kV10 dc10 pm10 an10 cd10 ct10), sl10⟩) (cF10 : PySem.W.codeIn K cd10 "_law_web_written" = true) (kF10 : PySem.W.keepIn K (.ref f10) = true)
    (aF11 : PySem.W.nsIn K mainGlobals "_law_alike" = some (some (.ref f11))) (lF11 : K.lookup f11 = some ⟨oc11, od11, .func (PySem.W.fnOf "_law_alike" "_law_alike" (defArgs sAli) (defBody sAli) (defScope sAli) .none kV11 dc11 pm11 an11 cd11 ct11), sl11⟩) (cF11 : PySem.W.codeIn K cd11 "_law_alike" = true) (kF11 : PySem.W.keepIn K (.ref f11) = true)
    (aF12 : PySem.W.nsIn K mainGlobals "law" = some (some (.ref f12))) (lF12 : K.lookup f12 = some ⟨oc12, od12, .func (PySem.W.fnOf "law" "law" (defArgs sLaw) (defBody sLaw) (defScope sLaw) .none kV12 dc12 pm12 an12 cd12 ct12), sl12⟩) (cF12 : PySem.W.codeIn K cd12 "law" = true) (kF12 : PySem.W.keepIn K (.ref f12) = true)
    (gno : PySem.W.nsIn K mainGlobals "NoWeb" = some (some (.ref no)))
    (xex : ExcC K no)
    (gFig : PySem.W.nsIn K mainGlobals "FIGURES" = some (some (.str "0123456789" tF)))
    (gMoF : PySem.W.nsIn K mainGlobals "MOST_FIGURES" = some (some (.int 4 t4)))
    (gMoP : PySem.W.nsIn K mainGlobals "MOST_PLACES" = some (some (.int 16 t16)))
    (gMoR : PySem.W.nsIn K mainGlobals "MOST_ROADS" = some (some (.int 30 t30)))
    (kit : KitA K)
    (nisi : PySem.W.nsIn K mainGlobals "isinstance" = some none)
    (nrange : PySem.W.nsIn K mainGlobals "range" = some none)
    (nlst : PySem.W.nsIn K mainGlobals "list" = some none)
    (nlen : PySem.W.nsIn K mainGlobals "len" = some none)
    (nint : PySem.W.nsIn K mainGlobals "int" = some none)
    (nmin : PySem.W.nsIn K mainGlobals "min" = some none)
    (nmax : PySem.W.nsIn K mainGlobals "max" = some none)
    (nbool : PySem.W.nsIn K mainGlobals "bool" = some none)
    (nset : PySem.W.nsIn K mainGlobals "set" = some none)
    (nall : PySem.W.nsIn K mainGlobals "all" = some none)
    (ntup : PySem.W.nsIn K mainGlobals "tuple" = some none)
    (nstr : PySem.W.nsIn K mainGlobals "str" = some none)
    : ∃ fd : FuncData, (∀ (s : Shared) (v : Value), BindsTo s fd ⟨[v], []⟩ [("script", v)]) ∧ ∀ base : Heap, K.In base → base.Ns mainGlobals mg → FnOk l.prog w K mg base CX0 5 fa fd ["script"] (spLaw K) := by
  have e := hfa.symm.trans (PySem.W.mg_of X G aF12)
  cases e
  have FWri := fun_mk (st := sWri) lF1 cF1 kF1
  have bWri := FWri.binds (ps := ["word", "most"]) fun _ _ _ _ _ _ us hl => match us, hl with | [_, _], _ => rfl
  have mWri : mg "is_written" = some (.ref f1) := PySem.W.mg_of X G aF1
  have FIsn := fun_mk (st := sIsn) lF2 cF2 kF2
  have bIsn := FIsn.binds (ps := ["word"]) fun _ _ _ _ _ _ us hl => match us, hl with | [_], _ => rfl
  have mIsn : mg "is_number" = some (.ref f2) := PySem.W.mg_of X G aF2
  have FO := fun_mk (st := sWebOf) lF3 cF3 kF3
  have bO := FO.binds (ps := ["places", "roads"]) fun _ _ _ _ _ _ us hl => match us, hl with | [_, _], _ => rfl
  have mO : mg "web_of" = some (.ref f3) := PySem.W.mg_of X G aF3
  have FSho := fun_mk (st := sSho) lF4 cF4 kF4
  have bSho := FSho.binds (ps := ["web"]) fun _ _ _ _ _ _ us hl => match us, hl with | [_], _ => rfl
  have mSho : mg "show_web" = some (.ref f4) := PySem.W.mg_of X G aF4
  have FRoa := fun_mk (st := sRoa) lF5 cF5 kF5
  have bRoa := FRoa.binds (ps := ["word"]) fun _ _ _ _ _ _ us hl => match us, hl with | [_], _ => rfl
  have mRoa : mg "road_of" = some (.ref f5) := PySem.W.mg_of X G aF5
  have FRea := fun_mk (st := sRea) lF6 cF6 kF6
  have bRea := FRea.binds (ps := ["text"]) fun _ _ _ _ _ _ us hl => match us, hl with | [_], _ => rfl
  have mRea : mg "read_web" = some (.ref f6) := PySem.W.mg_of X G aF6
  have FA := fun_mk (st := sCel) lF7 cF7 kF7
  have bA := FA.binds (ps := ["script", "k"]) fun _ _ _ _ _ _ us hl => match us, hl with | [_, _], _ => rfl
  have mA : mg "_law_cell_at" = some (.ref f7) := PySem.W.mg_of X G aF7
  have FN := fun_mk (st := sNum) lF8 cF8 kF8
  have bN := FN.binds (ps := ["cell", "many"]) fun _ _ _ _ _ _ us hl => match us, hl with | [_, _], _ => rfl
  have mN : mg "_law_numbers" = some (.ref f8) := PySem.W.mg_of X G aF8
  have FBig := fun_mk (st := sBig) lF9 cF9 kF9
  have bBig := FBig.binds (ps := ["xs", "places", "many"]) fun _ _ _ _ _ _ us hl => match us, hl with | [_, _, _], _ => rfl
  have mBig : mg "_law_big_web" = some (.ref f9) := PySem.W.mg_of X G aF9
  have FWww := fun_mk (st := sWww) lF10 cF10 kF10
  have bWww := FWww.binds (ps := ["web"]) fun _ _ _ _ _ _ us hl => match us, hl with | [_], _ => rfl
  have mWww : mg "_law_web_written" = some (.ref f10) := PySem.W.mg_of X G aF10
  have FAli := fun_mk (st := sAli) lF11 cF11 kF11
  have bAli := FAli.binds (ps := ["found", "due"]) fun _ _ _ _ _ _ us hl => match us, hl with | [_, _], _ => rfl
  have mAli : mg "_law_alike" = some (.ref f11) := PySem.W.mg_of X G aF11
  have FL := fun_mk (st := sLaw) lF12 cF12 kF12
  refine ⟨PySem.W.fnOf "law" "law" (defArgs sLaw) (defBody sLaw) (defScope sLaw) .none kV12 dc12 pm12 an12 cd12 ct12, fun s v => .of_eq rfl, fun base _ _ => ?_⟩
  have GWri := ok_wri (P := l.prog) (w := w) (base := base) FWri (PySem.W.mg_of X G gFig) (PySem.W.mg_none_of X G nlen) (PySem.W.mg_none_of X G nall)
  have GIsn := ok_isn FIsn FWri bWri mWri GWri (PySem.W.mg_of X G gMoF)
  have GRoa := ok_roa FRoa FIsn bIsn mIsn GIsn (PySem.W.mg_none_of X G nint)
  have GO := ok_webof (P := l.prog) (w := w) (base := base) FO (PySem.W.mg_of X G gno) xex (PySem.W.mg_none_of X G nall) (PySem.W.mg_none_of X G nlen) (PySem.W.mg_none_of X G nset) (PySem.W.mg_none_of X G nlst)
  have GRea := ok_rea FRea FIsn bIsn mIsn GIsn FRoa bRoa mRoa GRoa FO bO mO GO (PySem.W.mg_of X G gMoP) (PySem.W.mg_of X G gMoR) (PySem.W.mg_none_of X G nisi) (PySem.W.mg_none_of X G nstr) (PySem.W.mg_none_of X G nint) (PySem.W.mg_none_of X G nlen)
  have GAli := ok_ali (P := l.prog) (w := w) (base := base) FAli bAli mAli kit (PySem.W.mg_none_of X G nisi) (PySem.W.mg_none_of X G nstr) (PySem.W.mg_none_of X G ntup) (PySem.W.mg_none_of X G nlst) (PySem.W.mg_none_of X G nint) (PySem.W.mg_none_of X G nbool) (PySem.W.mg_none_of X G nlen) (PySem.W.mg_none_of X G nrange) 4
  exact ok_law FL FA bA mA (ok_cel FA (PySem.W.mg_none_of X G nlen)) FN bN mN (ok_num FN (PySem.W.mg_none_of X G nrange)) FBig bBig mBig (ok_big FBig (PySem.W.mg_none_of X G nrange) (PySem.W.mg_none_of X G nmin) (PySem.W.mg_none_of X G nmax)) FWww bWww mWww (ok_www FWww (PySem.W.mg_none_of X G nstr)) FSho bSho mSho (ok_sho FSho (PySem.W.mg_none_of X G nstr)) FRea bRea mRea GRea FAli bAli mAli GAli (PySem.W.mg_none_of X G nisi) (PySem.W.mg_none_of X G nstr) (PySem.W.mg_none_of X G nlst) (PySem.W.mg_none_of X G nlen) (PySem.W.mg_none_of X G nrange) (PySem.W.mg_none_of X G nmin) (PySem.W.mg_none_of X G nmax)
theorem walk {l : PySem.W.OpenLaw} {q : Program} {loose : List Str} {XP : (Str → Option Value) → Heap → Prop} {YP : World → Heap → Prop} {d : DefRec} {K : Params → PySem.W.Frag} (hn : l.most = some 63) (hdf : d.params.defaults = [])
    (hY : ∀ (w : World) (h : Heap), YP w h → (K w.params).In h)
    (F : ∀ (w : World) (mg : Str → Option Value) (fa : Addr) (h : Heap), (K w.params).In h → h.Ns mainGlobals mg → mg d.name = some (.ref fa) →
      ∃ fd : FuncData, (∀ (s : Shared) (u : Value), BindsTo s fd ⟨[u], []⟩ [("script", u)]) ∧ ∀ base : Heap, (K w.params).In base → base.Ns mainGlobals mg → FnOk l.prog w (K w.params) mg base CX0 5 fa fd ["script"] (spLaw (K w.params))) :
    PySem.W.WalkO q loose XP YP l.row.toRowW d [] (fun f vs => PySem.call f vs) :=
  L2.walk_of (n := 63) (k := 5) (x := "script") (CX := fun _ => CX0) (sp := fun w => spLaw (K w.params)) hn (by decide) hdf ⟨rfl, by decide, by decide⟩ hY F (fun _ _ a ns hl _ hS => ⟨a, ns, rfl, hS, hl, fun _ => rfl⟩) fun _ _ _ _ _ z => z
end M
open PySem PySem.W PyProof.Rows
set_option maxRecDepth 100000 in
set_option maxHeartbeats 0 in
theorem PySem.Challenge.cw_onceways_k83_webs_written_and_read_holds : PySem.Challenge.rw_onceways_k83_webs_written_and_read.Holds := by
  w_on; o_law; k_head; (case hw => w_witness2)
  k_fill
  refine M.walk (l := PySem.Challenge.rw_onceways_k83_webs_written_and_read) rfl rfl (fun w h Y => PySem.W.kIn_of Y) ?F
  case F =>
    intro w mg fa h KX G hmg
    refine' M.all_mk KX G hmg ?aF1 ?lF1 ?cF1 ?kF1 ?aF2 ?lF2 ?cF2 ?kF2 ?aF3 ?lF3 ?cF3 ?kF3 ?aF4 ?lF4 ?cF4 ?kF4 ?aF5 ?lF5 ?cF5 ?kF5 ?aF6 ?lF6 ?cF6 ?kF6 ?aF7 ?lF7 ?cF7 ?kF7 ?aF8 ?lF8 ?cF8 ?kF8 ?aF9 ?lF9 ?cF9 ?kF9 ?aF10 ?lF10 ?cF10 ?kF10 ?aF11 ?lF11 ?cF11 ?kF11 ?aF12 ?lF12 ?cF12 ?kF12 ?gno ?xex ?gFig ?gMoF ?gMoP ?gMoR ?kit ?nisi ?nrange ?nlst ?nlen ?nint ?nmin ?nmax ?nbool ?nset ?nall ?ntup ?nstr
    (case aF1 => k_is)
    (case lF1 => k_is)
    (case cF1 => k_is)
    (case kF1 => k_is)
    (case aF2 => k_is)
    (case lF2 => k_is)
    (case cF2 => k_is)
    (case kF2 => k_is)
    (case aF3 => k_is)
    (case lF3 => k_is)
    (case cF3 => k_is)
    (case kF3 => k_is)
    (case aF4 => k_is)
    (case lF4 => k_is)
    (case cF4 => k_is)
    (case kF4 => k_is)
    (case aF5 => k_is)
    (case lF5 => k_is)
    (case cF5 => k_is)
    (case kF5 => k_is)
    (case aF6 => k_is)
    (case lF6 => k_is)
    (case cF6 => k_is)
    (case kF6 => k_is)
    (case aF7 => k_is)
    (case lF7 => k_is)
    (case cF7 => k_is)
    (case kF7 => k_is)
    (case aF8 => k_is)
    (case lF8 => k_is)
    (case cF8 => k_is)
    (case kF8 => k_is)
    (case aF9 => k_is)
    (case lF9 => k_is)
    (case cF9 => k_is)
    (case kF9 => k_is)
    (case aF10 => k_is)
    (case lF10 => k_is)
    (case cF10 => k_is)
    (case kF10 => k_is)
    (case aF11 => k_is)
    (case lF11 => k_is)
    (case cF11 => k_is)
    (case kF11 => k_is)
    (case aF12 => k_is)
    (case lF12 => k_is)
    (case cF12 => k_is)
    (case kF12 => k_is)
    (case gno => k_is)
    (case xex => (unfold L2.ExcC; k_exc))
    (case gFig => k_is)
    (case gMoF => k_is)
    (case gMoP => k_is)
    (case gMoR => k_is)
    (case kit => (constructor <;> kit_is))
    (case nisi => k_is)
    (case nrange => k_is)
    (case nlst => k_is)
    (case nlen => k_is)
    (case nint => k_is)
    (case nmin => k_is)
    (case nmax => k_is)
    (case nbool => k_is)
    (case nset => k_is)
    (case nall => k_is)
    (case ntup => k_is)
    (case nstr => k_is)
#print axioms PySem.Challenge.cw_onceways_k83_webs_written_and_read_holds
