import PyProof.Rows.All
import Wide.All
import OpenK.AllK
import Wide.FinOn
import PyProof.EqAt
import PyProof.EqKinds
import PyProof.TupleCall
import KE.BitLaws
import KE.KSortTupG
import PyProof.P3In
import KE.KStar
import KE.KLam
import PyProof.LongRange
import PySem.Challenge.RW_standsellers_k61_ways_along_trees
set_option Elab.async false
set_option linter.all false
set_option maxRecDepth 100000
/-! THE HAND LAYER, for ints, bools, texts, own classes, lists, tuples, dicts, comprehensions, walks over dicts, enumerate, zip, reversed, texts, calls, loops. Paste it whole ahead of your own text; what your proof does not reach may be deleted. -/
namespace L2
open PySem PySem.Spec PyProof.Rows

/-- a key: an int or a str -/
abbrev Key := Sum Int Str
def keyIs : Key → Value → Bool
  | .inl k, v => Value.isInt k v
  | .inr x, v => Value.isStrOf x v
def keyH (w : World) : Key → Int
  | .inl k => hashInt k
  | .inr x => hashStr w x
theorem keyIs_shape : ∀ {k : Key} {v : Value}, keyIs k v = true → (∃ i t, k = Sum.inl i ∧ v = Value.int i t) ∨ (∃ x t, k = Sum.inr x ∧ v = Value.str x t)
  | .inl i, v, h => by
    obtain ⟨t, e⟩ := Value.isInt_shape (k := i) (v := v) h
    exact .inl ⟨i, t, rfl, e⟩
  | .inr x, v, h => by
    obtain ⟨t, e⟩ := Value.isStrOf_shape (x := x) (v := v) h
    exact .inr ⟨x, t, rfl, e⟩
theorem keyIs_int (i : Int) (t : Tok) : keyIs (.inl i) (.int i t) = true := by simp [keyIs, Value.isInt]
theorem keyIs_str (x : Str) (t : Tok) : keyIs (.inr x) (.str x t) = true := by simp [keyIs, Value.isStrOf]
theorem key_ll (a b : Int) : decide ((Sum.inl a : Key) = Sum.inl b) = (a == b) := by
  by_cases e : a = b
  · subst e; simp
  · have h : ¬ (Sum.inl a : Key) = Sum.inl b := fun q => e (Sum.inl.inj q)
    rw [decide_eq_false h]
    exact (beq_eq_false_iff_ne.mpr e).symm
theorem key_rr (a b : Str) : decide ((Sum.inr a : Key) = Sum.inr b) = decide (a = b) := by
  by_cases e : a = b
  · subst e; simp
  · have h : ¬ (Sum.inr a : Key) = Sum.inr b := fun q => e (Sum.inr.inj q)
    rw [decide_eq_false h, decide_eq_false e]
theorem key_lr (a : Int) (b : Str) : decide ((Sum.inl a : Key) = Sum.inr b) = false := decide_eq_false (fun q => nomatch q)
theorem key_rl (a : Str) (b : Int) : decide ((Sum.inr a : Key) = Sum.inl b) = false := decide_eq_false (fun q => nomatch q)

def mixKind (prog : Program) (w : World) : PySem.KeyKind prog w Key where
  is := keyIs
  hash := keyH w
  inj := fun v a b ha hb => by
    rcases keyIs_shape ha with ⟨i, t, rfl, rfl⟩ | ⟨x, t, rfl, rfl⟩
    · rcases keyIs_shape hb with ⟨j, u, rfl, e⟩ | ⟨y, u, rfl, e⟩
      · injection e with e1 _; rw [e1]
      · exact nomatch e
    · rcases keyIs_shape hb with ⟨j, u, rfl, e⟩ | ⟨y, u, rfl, e⟩
      · exact nomatch e
      · injection e with e1 _; rw [e1]
  byValue := fun k v h => by
    rcases keyIs_shape h with ⟨i, t, rfl, rfl⟩ | ⟨x, t, rfl, rfl⟩ <;> rfl
  pyHash := fun hv h => by
    rcases keyIs_shape hv with ⟨i, t, rfl, rfl⟩ | ⟨x, t, rfl, rfl⟩
    · exact wpAny_pyHash_int h
    · exact wpAny_pyHash_str h
  eqBool := fun hu hv h => by
    rcases keyIs_shape hu with ⟨i, t, rfl, rfl⟩ | ⟨x, t, rfl, rfl⟩
    · rcases keyIs_shape hv with ⟨j, u, rfl, rfl⟩ | ⟨y, u, rfl, rfl⟩
      · rw [key_ll] at h; exact wpAny_eqBool_int h
      · rw [key_lr] at h; exact SeqAt.EqAt.int_str i t y u _ _ _ _ h
    · rcases keyIs_shape hv with ⟨j, u, rfl, rfl⟩ | ⟨y, u, rfl, rfl⟩
      · rw [key_rl] at h; exact SeqAt.EqAt.str_int x t j u _ _ _ _ h
      · rw [key_rr] at h; exact wpAny_eqBool_str h
  «strs» := fun k x t v h => by
    rcases keyIs_shape h with ⟨i, u, rfl, e⟩ | ⟨y, u, rfl, e⟩
    · exact nomatch e
    · injection e with e1 _
      subst e1
      cases v <;> rfl

theorem mixKind_int (prog : Program) (w : World) (i : Int) (t : Tok) : (mixKind prog w).is (.inl i) (.int i t) = true := keyIs_int i t
theorem mixKind_str (prog : Program) (w : World) (x : Str) (t : Tok) : (mixKind prog w).is (.inr x) (.str x t) = true := keyIs_str x t
end L2

namespace L2
open PySem PySem.Spec PyProof.Rows

/-- a value, without the heap -/
inductive V where
  | non | bl (b : Bool) | int (i : Int) | str (x : Str) | byt (b : Array UInt8) | flt (b : UInt64) | ref (a : Addr) | ty (n : String)
  deriving DecidableEq

def RelV : V → Value → Prop
  | .non, u => u = Value.none
  | .bl b, u => u = Value.bool b
  | .int i, u => ∃ t, u = Value.int i t
  | .str x, u => ∃ t, u = Value.str x t
  | .byt b, u => ∃ t, u = Value.bytes b t
  | .flt b, u => ∃ t, u = Value.float b t
  | .ref a, u => u = Value.ref a
  | .ty n, u => u = Value.type n

abbrev Vals : List V → List Value → Prop := Paired RelV
theorem Vals.length {xs : List V} {us : List Value} (r : Vals xs us) : xs.length = us.length := Paired.length r
theorem Vals.get : ∀ {xs : List V} {us : List Value} {i : Nat} {x : V}, Vals xs us → xs[i]? = some x → ∃ u, us[i]? = some u ∧ RelV x u
  | _, _, _, _, .nil, e => by simp at e
  | _, _, 0, _, .cons r _, e => by simp at e; subst e; exact ⟨_, rfl, r⟩
  | _, _, i + 1, x, .cons _ t, e => by
    obtain ⟨u, h1, h2⟩ := Vals.get (i := i) (x := x) t (by simpa using e)
    exact ⟨u, by simpa using h1, h2⟩
theorem Vals.set {x : V} {u : Value} (r : RelV x u) : ∀ {xs : List V} {us : List Value} (i : Nat), Vals xs us → Vals (xs.set i x) (us.set i u)
  | _, _, _, .nil => .nil
  | _, _, 0, .cons _ t => .cons r t
  | _, _, i + 1, .cons q t => .cons q (Vals.set r i t)
theorem Vals.append : ∀ {xs ys : List V} {us ws : List Value}, Vals xs us → Vals ys ws → Vals (xs ++ ys) (us ++ ws)
  | _, _, _, _, .nil, s => s
  | _, _, _, _, .cons r t, s => .cons r (Vals.append t s)
theorem Vals.take : ∀ {xs : List V} {us : List Value} (n : Nat), Vals xs us → Vals (xs.take n) (us.take n)
  | _, _, 0, _ => .nil
  | _, _, _ + 1, .nil => .nil
  | _, _, n + 1, .cons r t => .cons r (Vals.take n t)
theorem Vals.drop : ∀ {xs : List V} {us : List Value} (n : Nat), Vals xs us → Vals (xs.drop n) (us.drop n)
  | _, _, 0, r => r
  | _, _, _ + 1, .nil => .nil
  | _, _, n + 1, .cons _ t => Vals.drop n t
def RelO : Option V → Option Value → Prop
  | some v, some u => RelV v u
  | none, none => True
  | _, _ => False
def KV {κ : Type} : List (κ × V) → List (κ × Value) → Prop := Paired fun (p : κ × V) (q : κ × Value) => p.1 = q.1 ∧ RelV p.2 q.2

/-- a key of a dict (00_mix): an int or a text -/
def kV : Key → V
  | .inl i => .int i
  | .inr x => .str x

/-- what stands at a tracked address -/
inductive HO where
  /-- a list -/
  | lst (xs : List V)
  /-- a tuple (never changes) -/
  | tup (xs : List V)
  /-- a dict whose keys are ints and texts; one whose keys are tuples of ints and texts (the empty one is both) -/
  | dK (kvs : List (Key × V)) | dT (kvs : List (List Key × V))
  /-- a set of ints: its members, its size -/
  | set (S : Int → Bool) (n : Nat)
  /-- an instance of the class at C, its dict at dx, its attributes -/
  | ins (C dx : Addr) (fs : List (Str × V))
  /-- the dict of the instance at x -/
  | own (x : Addr)
  /-- the dict of an exception -/
  | xd (fs : List (Str × V))
  /-- a bound method, f of x -/
  | met (f x : Addr)
  /-- a range object lo, lo + 1, .. below hi -/
  | rng (lo hi : Int)
  /-- a thing that is known to the object (the script; a dict while a loop walks it): read, never written while it is so -/
  | frz (o : Obj) (u : HO)
  /-- a code object's table -/
  | tbl (ps : Array Value)
  /-- any other thing, by what is true of its one object (a def of one's own: SetO a S n := HO.ext fun h => ..) -/
  | ext (φ : Heap → Prop)

abbrev Hp := Addr → Option HO
def upd (H : Hp) (a : Addr) (o : HO) : Hp := fun b => if b = a then some o else H b
theorem upd_same {H : Hp} {a : Addr} {o : HO} : upd H a o a = some o := by unfold upd; rw [if_pos rfl]
theorem upd_ne {H : Hp} {a b : Addr} {o : HO} (h : b ≠ a) : upd H a o b = H b := by unfold upd; rw [if_neg h]
theorem upd_upd {H : Hp} {a : Addr} {o u : HO} : upd (upd H a o) a u = upd H a u := by
  funext b; unfold upd; split <;> rfl
/-- two objects of different content stand apart -/
theorem ne_of {H : Hp} {a b : Addr} {o u : HO} (h : H a = some o) (h' : H b = some u) (d : o ≠ u) : a ≠ b := by
  intro e; subst e; rw [h] at h'; exact d (Option.some.inj h')
theorem ne_of_none {H : Hp} {a b : Addr} {o : HO} (h : H a = some o) (h' : H b = none) : a ≠ b := by
  intro e; subst e; rw [h] at h'; cases h'

section
variable (P : Program) (w : World)
def ObjOk (H : Hp) (h : Heap) (a : Addr) : HO → Prop
  | .lst xs => xs.length ≤ sizeLine ∧ ∃ (its : List Value) (n : Nat), Vals xs its ∧ h.get? a = some { cls := .type "list", data := .seq its.toArray n }
  | .tup xs => xs.length ≤ sizeLine ∧ ∃ its : List Value, Vals xs its ∧ IsTup h a its.toArray
  | .dK kvs => kvs.length ≤ sizeLine ∧ (a == sysModules) = false ∧ ∃ vs, KV kvs vs ∧ h.DictOf (mixKind P w) a vs
  | .dT kvs => kvs.length ≤ sizeLine ∧ (a == sysModules) = false ∧ ∃ xs : List (List Key × Addr × Value),
      Paired (fun (p : List Key × V) (q : List Key × Addr × Value) => p.1 = q.1 ∧ H q.2.1 = some (.tup (p.1.map kV)) ∧ RelV p.2 q.2.2) kvs xs ∧
      ∃ o es ep, h.get? a = some o ∧ o.ExactDict ∧ o.data = .dict es ep ∧ es.toList = xs.map (entryOfKey (tupleKind (mixKind P w))) ∧ (xs.map (·.1)).Nodup
  | .set S n => h.SetOf (intKind P w) a S n
  | .ins C dx fs => H dx = some (.own a) ∧ fs.length ≤ 1000 ∧ dx ≠ a ∧ h.get? a = some (PySem.W.instObj C dx) ∧
      ∃ mA, h.Ns1 dx mA ∧ (∀ f, RelO (fs.lookup f) (mA f)) ∧ PySem.Within mA (fs.map (·.1))
  | .own _ => ∃ o, h.get? a = some o
  | .xd fs => ∃ mA, h.Ns1 a mA ∧ ∀ f, RelO (fs.lookup f) (mA f)
  | .rng lo hi => ∃ t u v, h.get? a = some { cls := .type "range", data := .fields #[.int lo t, .int hi u, .int 1 v] }
  | .frz o u => h.get? a = some o ∧ ObjOk H h a u
  | .tbl ps => h.get? a = some { cls := .none, data := .fields ps }
  | .met f x => h.get? a = some (PySem.W.methodObj (.ref f) (.ref x))
  | .ext φ => φ h ∧ (∃ o, h.get? a = some o) ∧ ∀ h1 h2 : Heap, φ h1 → (∀ o, h1.get? a = some o → h2.get? a = some o) → φ h2
/-- the abstract heap is held -/
def HOk (H : Hp) (h : Heap) : Prop := ∀ a o, H a = some o → ObjOk P w H h a o
end

section
variable {P : Program} {w : World} {H H' : Hp} {h h' : Heap} {a : Addr} {o : HO}
theorem ObjOk.lt (x : ObjOk P w H h a o) : a < h.objs.size := by
  cases o with
  | lst xs => obtain ⟨_, _, _, _, e⟩ := x; exact Heap.lt_size e
  | tup xs => obtain ⟨_, _, _, p⟩ := x; exact p.lt
  | dK kvs => obtain ⟨_, _, _, _, o, _, _, e, _⟩ := x; exact Heap.lt_size e
  | dT kvs => obtain ⟨_, _, _, _, o, _, _, e, _⟩ := x; exact Heap.lt_size e
  | set S n => obtain ⟨o, _, _, _, e, _⟩ := x; exact Heap.lt_size e
  | ins C dx fs => obtain ⟨_, _, _, e, _⟩ := x; exact Heap.lt_size e
  | own y => obtain ⟨_, e⟩ := x; exact Heap.lt_size e
  | xd fs => obtain ⟨_, ⟨_, _, _, e, _⟩, _⟩ := x; exact Heap.lt_size e
  | rng lo hi => obtain ⟨_, _, _, e⟩ := x; exact Heap.lt_size e
  | frz ob u => obtain ⟨e, _⟩ := x; exact Heap.lt_size e
  | tbl ps => exact Heap.lt_size (show h.get? a = some _ from x)
  | met f y => exact Heap.lt_size (show h.get? a = some _ from x)
  | ext φ => obtain ⟨_, ⟨_, e⟩, _⟩ := x; exact Heap.lt_size e
theorem Paired.mapP {α β : Type} {F G : α → β → Prop} : ∀ {l₁ : List α} {l₂ : List β}, Paired F l₁ l₂ → (∀ a b, F a b → G a b) → Paired G l₁ l₂
  | _, _, .nil, _ => .nil
  | _, _, .cons r t, f => .cons (f _ _ r) (Paired.mapP t f)
/-- what an object's description leans on: its own object, its own dict, the tuples -/
theorem ObjOk.stay (x : ObjOk P w H h a o) (k : ∀ b u, (b = a ∨ H b = some (.own a)) → h.get? b = some u → h'.get? b = some u)
    (ho : ∀ b, H b = some (.own a) → H' b = some (.own a)) (ht : ∀ b xs, H b = some (.tup xs) → H' b = some (.tup xs)) : ObjOk P w H' h' a o := by
  induction o with
  | lst xs => obtain ⟨z, its, n, r, e⟩ := x; exact ⟨z, its, n, r, k _ _ (.inl rfl) e⟩
  | tup xs => obtain ⟨z, its, r, ob, e, c⟩ := x; exact ⟨z, its, r, ob, k _ _ (.inl rfl) e, c⟩
  | dK kvs => obtain ⟨z, y, vs, r, ob, es, ep, e, c⟩ := x; exact ⟨z, y, vs, r, ob, es, ep, k _ _ (.inl rfl) e, c⟩
  | dT kvs =>
    obtain ⟨z, y, xs, r, ob, es, ep, e, c⟩ := x
    exact ⟨z, y, xs, Paired.mapP r fun p q z => ⟨z.1, ht _ _ z.2.1, z.2.2⟩, ob, es, ep, k _ _ (.inl rfl) e, c⟩
  | set S n => obtain ⟨ob, es, ep, t, e, c⟩ := x; exact ⟨ob, es, ep, t, k _ _ (.inl rfl) e, c⟩
  | ins C dx fs =>
    obtain ⟨d, z, ne, e, mA, ⟨od, es, ep, e2, c⟩, r⟩ := x
    exact ⟨ho _ d, z, ne, k _ _ (.inl rfl) e, mA, ⟨od, es, ep, k _ _ (.inr d) e2, c⟩, r⟩
  | own y => obtain ⟨ob, e⟩ := x; exact ⟨ob, k _ _ (.inl rfl) e⟩
  | xd fs => obtain ⟨mA, ⟨od, es, ep, e, c⟩, r⟩ := x; exact ⟨mA, ⟨od, es, ep, k _ _ (.inl rfl) e, c⟩, r⟩
  | rng lo hi => obtain ⟨t, u, v, e⟩ := x; exact ⟨t, u, v, k _ _ (.inl rfl) e⟩
  | frz ob u ih => obtain ⟨e, q⟩ := x; exact ⟨k _ _ (.inl rfl) e, ih q⟩
  | tbl ps =>
    have e : h.get? a = some { cls := .none, data := .fields ps } := x
    show h'.get? a = some { cls := .none, data := .fields ps }
    exact k a _ (.inl rfl) e
  | met f y =>
    have e : h.get? a = some (PySem.W.methodObj (.ref f) (.ref y)) := x
    show h'.get? a = some (PySem.W.methodObj (.ref f) (.ref y))
    exact k a _ (.inl rfl) e
  | ext φ => obtain ⟨p, ⟨o, e⟩, st⟩ := x; exact ⟨st _ _ p fun o q => k _ _ (.inl rfl) q, ⟨o, k _ _ (.inl rfl) e⟩, st⟩
theorem HOk.lt (x : HOk P w H h) (e : H a = some o) : a < h.objs.size := (x a o e).lt
theorem HOk.fresh (x : HOk P w H h) (e : h.objs.size ≤ a) : H a = none := by
  cases q : H a with
  | none => rfl
  | some u => exact absurd (Nat.lt_of_lt_of_le (x.lt q) e) (Nat.lt_irrefl _)
/-- every object of the heap is kept -/
theorem HOk.kept (x : HOk P w H h) (k : ∀ b u, h.get? b = some u → h'.get? b = some u) : HOk P w H h' := fun a o e =>
  (x a o e).stay (fun b u _ q => k b u q) (fun _ q => q) fun _ _ q => q
/-- a new object is laid and tracked -/
theorem HOk.laid (x : HOk P w H h) (k : ∀ b u, h.get? b = some u → h'.get? b = some u) (hp : h.objs.size ≤ a) (new : ObjOk P w (upd H a o) h' a o) : HOk P w (upd H a o) h' := fun b u e => by
  have hn := x.fresh hp
  by_cases hb : b = a
  · subst hb; rw [upd_same] at e; cases e; exact new
  · rw [upd_ne hb] at e
    exact (x b u e).stay (fun c v _ q => k c v q) (fun c q => by rw [upd_ne (ne_of_none q hn)]; exact q) fun c xs q => by rw [upd_ne (ne_of_none q hn)]; exact q
end

/-- what may be read as u: it is u, or a known u -/
def Rd (H : Hp) (a : Addr) (u : HO) : Prop := H a = some u ∨ ∃ o, H a = some (.frz o u)
theorem Rd.of {H : Hp} {a : Addr} {u : HO} (h : H a = some u) : Rd H a u := .inl h
theorem Rd.ok {P : Program} {w : World} {H : Hp} {h : Heap} {a : Addr} {u : HO} (r : Rd H a u) (x : HOk P w H h) : ObjOk P w H h a u := by
  rcases r with r | ⟨o, r⟩
  · exact x a u r
  · obtain ⟨_, q⟩ := x a _ r
    exact q
/-- what may be written -/
def Mut : Option HO → Prop
  | some (.lst _) => True
  | some (.dK _) => True
  | some (.dT _) => True
  | some (.set _ _) => True
  | some (.ins _ _ _) => True
  | some (.ext _) => True
  | _ => False
section
variable {P : Program} {w : World} {H : Hp} {h h' : Heap} {x e : Addr} {o' : HO}
/-- the object at e is changed: x itself, or the dict of the instance x -/
theorem HOk.write (ok : HOk P w H h) (mu : Mut (H x)) (he : e = x ∨ H e = some (.own x)) (k : ∀ b u, b ≠ e → h.get? b = some u → h'.get? b = some u) (heo : ∃ u, h'.get? e = some u)
    (new : ObjOk P w (upd H x o') h' x o') : HOk P w (upd H x o') h' := fun b u q => by
  have nown : ∀ c y, H c = some (.own y) → c ≠ x := fun c y r z => by subst z; rw [r] at mu; exact mu
  have ntup : ∀ c xs, H c = some (.tup xs) → c ≠ x := fun c xs r z => by subst z; rw [r] at mu; exact mu
  by_cases hb : b = x
  · subst hb; rw [upd_same] at q; cases q; exact new
  · rw [upd_ne hb] at q
    by_cases hbe : b = e
    · have q' : H b = some (.own x) := by
        rcases he with z | z
        · exact absurd (hbe.trans z) hb
        · rw [hbe]; exact z
      rw [q] at q'; cases q'
      obtain ⟨v, hv⟩ := heo
      exact ⟨v, by rw [hbe]; exact hv⟩
    · refine (ok b u q).stay (fun c v hc r => k c v ?_ r) (fun c r => by rw [upd_ne (nown c b r)]; exact r) fun c xs r => by rw [upd_ne (ntup c xs r)]; exact r
      rcases hc with rfl | hc
      · exact hbe
      · rintro rfl
        rcases he with z | z
        · exact nown c b hc z
        · rw [hc] at z; cases z; exact hb rfl
end

/-! ### kept unless tracked; of the frames at fs (the callers') the slots may change (an exception that passes writes there); of the records at ex (iterators) nothing is said -/
structure Un (fs ex : List Addr) (H H' : Hp) (h h' : Heap) : Prop where
  keep : ∀ b o, h.get? b = some o → H b = none → b ∉ fs → b ∉ ex → h'.get? b = some o
  slot : ∀ b o, h.get? b = some o → H b = none → b ∈ fs → b ∉ ex → ∃ sl, h'.get? b = some { o with slots := sl }
  free : ∀ b o, h.get? b = some o → H b = none → b ∉ ex → H' b = none
  there : ∀ b o, h.get? b = some o → b ∉ ex → ∃ o', h'.get? b = some o'
  tups : ∀ b xs, H b = some (.tup xs) → H' b = some (.tup xs)
  frzs : ∀ b o u, H b = some (.frz o u) → H' b = some (.frz o u)
  tbls : ∀ b ps, H b = some (.tbl ps) → ∃ more, H' b = some (.tbl (ps ++ more))
section
variable {fs fs' ex ex' : List Addr} {H H1 H2 : Hp} {h h1 h2 h' : Heap} {a x e : Addr} {o : HO}
theorem Un.any (u : Un fs ex H H1 h h1) {b : Addr} {ob : Obj} (q : h.get? b = some ob) (n : H b = none) (hx : b ∉ ex) : ∃ sl, h1.get? b = some { ob with slots := sl } := by
  by_cases hb : b ∈ fs
  · exact u.slot b ob q n hb hx
  · exact ⟨ob.slots, u.keep b ob q n hb hx⟩
theorem Un.trans (a : Un fs ex H H1 h h1) (b : Un fs ex H1 H2 h1 h2) : Un fs ex H H2 h h2 where
  keep := fun c ob q n hc hx => b.keep c ob (a.keep c ob q n hc hx) (a.free c ob q n hx) hc hx
  slot := fun c ob q n hc hx => by
    obtain ⟨sl, e1⟩ := a.slot c ob q n hc hx
    obtain ⟨sl', e2⟩ := b.slot c _ e1 (a.free c ob q n hx) hc hx
    exact ⟨sl', e2⟩
  free := fun c ob q n hx => by
    obtain ⟨o', e1⟩ := a.there c ob q hx
    exact b.free c o' e1 (a.free c ob q n hx) hx
  there := fun c ob q hx => by
    obtain ⟨o', e1⟩ := a.there c ob q hx
    exact b.there c o' e1 hx
  tups := fun c xs q => b.tups c xs (a.tups c xs q)
  frzs := fun c ob xs q => b.frzs c ob xs (a.frzs c ob xs q)
  tbls := fun c ps q => by
    obtain ⟨m1, e1⟩ := a.tbls c ps q
    obtain ⟨m2, e2⟩ := b.tbls c _ e1
    exact ⟨m1 ++ m2, by rw [e2, Array.append_assoc]⟩
theorem Un.kept (k : ∀ b u, h.get? b = some u → h'.get? b = some u) : Un fs ex H H h h' :=
  ⟨fun b ob q _ _ _ => k b ob q, fun b ob q _ _ _ => ⟨ob.slots, k b ob q⟩, fun _ _ _ n _ => n, fun b ob q _ => ⟨ob, k b ob q⟩, fun _ _ q => q, fun _ _ _ q => q, fun _ ps q => ⟨#[], by rw [q]; simp⟩⟩
theorem Un.refl : Un fs ex H H h h := Un.kept fun _ _ q => q
theorem Un.laid (k : ∀ b u, h.get? b = some u → h'.get? b = some u) (hp : h.objs.size ≤ a) (hn : H a = none) : Un fs ex H (upd H a o) h h' where
  keep := fun b u q _ _ _ => k b u q
  slot := fun b u q _ _ _ => ⟨u.slots, k b u q⟩
  free := fun b u q n _ => by rw [upd_ne (Nat.ne_of_lt (Nat.lt_of_lt_of_le (Heap.lt_size q) hp))]; exact n
  there := fun b u q _ => ⟨u, k b u q⟩
  tups := fun b xs q => by rw [upd_ne (ne_of_none q hn)]; exact q
  frzs := fun b u xs q => by rw [upd_ne (ne_of_none q hn)]; exact q
  tbls := fun b ps q => ⟨#[], by rw [upd_ne (ne_of_none q hn), q]; simp⟩
theorem Un.write (mu : Mut (H x)) (he : e = x ∨ H e = some (.own x)) (k : ∀ b u, b ≠ e → h.get? b = some u → h'.get? b = some u) (heo : ∃ u, h'.get? e = some u) : Un fs ex H (upd H x o) h h' := by
  have hx : ∀ b, H b = none → b ≠ x := fun b n z => by subst z; rw [n] at mu; exact mu
  have hb : ∀ b, H b = none → b ≠ e := fun b n z => by
    subst z
    rcases he with r | r
    · exact hx b n r
    · rw [n] at r; cases r
  have hm : ∀ b u, H b = some u → ¬ Mut (some u) → b ≠ x := fun b u q nm z => by subst z; rw [q] at mu; exact nm mu
  refine ⟨fun b u q n _ _ => k b u (hb b n) q, fun b u q n _ _ => ⟨u.slots, k b u (hb b n) q⟩, fun b u q n _ => by rw [upd_ne (hx b n)]; exact n, fun b u q _ => ?_,
    fun b xs q => by rw [upd_ne (hm b _ q fun z => z)]; exact q, fun b u xs q => by rw [upd_ne (hm b _ q fun z => z)]; exact q, fun b ps q => ⟨#[], by rw [upd_ne (hm b _ q fun z => z), q]; simp⟩⟩
  by_cases hbe : b = e
  · subst hbe; exact heo
  · exact ⟨u, k b u hbe q⟩
theorem Un.mono (u : Un fs ex H H1 h h1) (hs : ∀ b ∈ fs, b ∈ fs') (hx : ∀ b ∈ ex, b ∈ ex') : Un fs' ex' H H1 h h1 :=
  ⟨fun b ob q n hb he => u.keep b ob q n (fun z => hb (hs b z)) fun z => he (hx b z), fun _ _ q n _ he => u.any q n fun z => he (hx _ z), fun b ob q n he => u.free b ob q n fun z => he (hx b z), fun b ob q he => u.there b ob q fun z => he (hx b z), u.tups, u.frzs, u.tbls⟩
end

/-! ### the heap without what is tracked -/
def trk (h : Heap) (H : Hp) : List Addr := (List.range h.objs.size).filter fun a => (H a).isSome
def hidT (h : Heap) (H : Hp) : Heap := PySem.W.hideAll h (trk h H)
theorem hidT_size (h : Heap) (H : Hp) : (hidT h H).objs.size = h.objs.size := PySem.W.hideAll_size _ _
theorem hidT_get {h : Heap} {H : Hp} {b : Addr} {o : Obj} (e : h.get? b = some o) (n : H b = none) : (hidT h H).get? b = some o :=
  PySem.W.hideAll_get _ e fun hm => by
    have q : (H b).isSome = true := (List.mem_filter.mp hm).2
    rw [n] at q; simp at q
theorem of_hidT {h : Heap} {H : Hp} {b : Addr} {o : Obj} (e : (hidT h H).get? b = some o) : h.get? b = some o ∧ H b = none := by
  have e' : h.get? b = some o := PySem.W.of_hideAll (trk h H) e
  refine ⟨e', ?_⟩
  cases q : H b with
  | none => rfl
  | some x =>
    have hm : b ∈ trk h H := List.mem_filter.mpr ⟨List.mem_range.mpr (Heap.lt_size e'), by simp [q]⟩
    have z : (hidT h H).get? b = none := PySem.W.hideAll_none (trk h H) hm
    rw [z] at e; cases e

/-! ### OpenK's ledger, filled with every new object but one -/
def allNews (g h : Heap) (L : Addr) : List (Addr × Obj) := (List.range h.objs.size).filterMap fun a => if a = L ∨ (g.get? a).isSome = true then none else (h.get? a).map fun o => (a, o)
def rest (g h : Heap) (L d : Addr) : List (Addr × Obj) := (allNews g h L).filter fun p => decide (p.1 ≠ d)
end L2

namespace L2
open PySem PySem.Spec PyProof.Rows

/-- the module's facts, over the base: the heap at the law's entry without what is tracked there -/
structure Mod (K : PySem.W.Frag) (mg : Str → Option Value) (base : Heap) : Prop where
  kin : K.In base
  glob : base.Ns mainGlobals mg
  blt : ∃ mb, base.Ns builtinsNs mb ∧ ∀ x : Str, x ≠ "__name__" → mb x = bootBuiltins x
  nolimit : base.NoLimit

/-- the context: a def's body (or a comprehension's block) running. base: fixed through the whole law; s₀, H₀: the entry; outer: the frames whose slots others may change (a def's callers); stack: all frames that run;
   ex: iterators that were made ahead of the entry and are walked here (a comprehension's); fn: the names whose cells were made at the entry (a def: all; a comprehension's block: its own); calm: not within an except suite; pn: pins that every state bears; xe: what is wanted of an exception that leaves the code -/
structure Cx where
  prog : Program
  w : World
  K : PySem.W.Frag
  mg : Str → Option Value
  base : Heap
  A : Around
  N : List Str
  s_0 : Shared
  H_0 : Hp
  env : Env
  outer : List Env
  stack : List Env
  ex : List Addr
  fn : Str → Bool
  calm : Bool
  pn : List (Addr × Obj)
  xe : Value → Shared → Prop
/-- the callers' frames -/
def frs (l : List Env) : List Addr := l.filterMap (·.frame)
abbrev Cx.fs (X : Cx) : List Addr := frs X.outer

def Vis (sc : Scope) (x : Str) : Prop := sc.names.lookup x = some .local ∨ sc.names.lookup x = some .cell ∨ sc.names.lookup x = some .free
def Loc (sc : Scope) (x : Str) : Prop := sc.names.lookup x = some .local ∨ sc.names.lookup x = some .cell
def Look (env : Env) (h : Heap) (m : Str → Option Value) (x : Str) (u : Value) : Prop :=
  (env.kindOf x = some .local ∧ m x = some u) ∨ ((env.kindOf x = some .cell ∨ env.kindOf x = some .free) ∧ ∃ c, env.cells.lookup x = some c ∧ h.IsCell c (some u))

structure Cx.Ok (X : Cx) : Prop where
  mod : Mod X.K X.mg X.base
  kind : X.env.scope.kind = .function
  glob : X.env.globals = mainGlobals
  blt : X.env.builtins = builtinsNs
  above : X.s_0.heap.objs.size ≤ X.env.locals
  inj : ∀ x y c, X.env.cells.lookup x = some c → X.env.cells.lookup y = some c → x = y
  has : ∀ x, (X.env.kindOf x = some .cell ∨ X.env.kindOf x = some .free) → ∃ c, X.env.cells.lookup x = some c
  cab : ∀ x c, X.fn x = true → X.env.cells.lookup x = some c → X.s_0.heap.objs.size ≤ c
  hd : X.calm = true → X.A.handled = none
  frames : X.A.frames = some X.stack
  stk : X.stack = X.outer ∨ (X.stack = X.env :: X.outer ∧ X.env.frame = some X.env.locals)
  exf : ∀ b ∈ X.ex, b ≠ X.env.locals ∧ ∀ x c, X.env.cells.lookup x = some c → c ≠ b
  bs : ∀ b o, X.base.get? b = some o → X.s_0.heap.get? b = some o ∧ X.H_0 b = none
  bsz : X.base.objs.size ≤ X.s_0.heap.objs.size
  noex : ∀ b o, X.base.get? b = some o → b ∉ X.ex
  exfs : ∀ b ∈ X.ex, b ∉ X.fs
  funs : X.s_0.heap.FunFrames X.base X.outer
  frf : ∀ b ∈ X.fs, X.H_0 b = none

structure Inv (X : Cx) (pins : List (Addr × Obj)) (σ : List (Option V)) (H : Hp) (s : Shared) : Prop where
  ok : X.Ok
  os : s.os = X.s_0.os
  bare : AllBare s.gens
  base : Un X.fs X.ex X.H_0 H X.s_0.heap s.heap
  loc : ∃ m, s.heap.Ns X.env.locals m ∧ ∀ (i : Nat) (x : Str) (v : V), X.N[i]? = some x → σ[i]? = some (some v) → Vis X.env.scope x → ∃ u, RelV v u ∧ Look X.env s.heap m x u
  cell : ∀ x c, X.env.cells.lookup x = some c → ∃ v, s.heap.IsCell c v
  free : H X.env.locals = none
  freeC : ∀ x c, X.env.cells.lookup x = some c → H c = none
  pin : ∀ p ∈ X.pn ++ pins, s.heap.get? p.1 = some p.2 ∧ H p.1 = none ∧ p.1 ≠ X.env.locals ∧ p.1 ∉ X.fs ∧ ∀ v, p.2.data ≠ .cell v
  hok : HOk X.prog X.w H s.heap
  len : σ.length = X.N.length

section
variable {X : Cx} {pins : List (Addr × Obj)} {σ : List (Option V)} {H H' : Hp} {s : Shared} {h' : Heap}

theorem Cx.Ok.nofr (ok : X.Ok) {b : Addr} {o : Obj} (e : X.base.get? b = some o) : b ∉ X.fs := fun hb => by
  have := (ok.funs.mem hb).1
  rw [e] at this; cases this
theorem Inv.bs (I : Inv X pins σ H s) : ∀ b o, X.base.get? b = some o → s.heap.get? b = some o ∧ H b = none := fun b o e =>
  ⟨I.base.keep b o (I.ok.bs b o e).1 (I.ok.bs b o e).2 (I.ok.nofr e) (I.ok.noex b o e), I.base.free b o (I.ok.bs b o e).1 (I.ok.bs b o e).2 (I.ok.noex b o e)⟩
theorem Inv.bk (I : Inv X pins σ H s) : ∀ b o, X.base.get? b = some o → s.heap.get? b = some o := fun b o e => (I.bs b o e).1
theorem Inv.mod (I : Inv X pins σ H s) : Mod X.K X.mg X.base := I.ok.mod
theorem Inv.kIn (I : Inv X pins σ H s) : X.K.In s.heap := I.ok.mod.kin.keeps I.bk
theorem Inv.nolimit (I : Inv X pins σ H s) : s.heap.NoLimit := I.ok.mod.nolimit.keeps I.bk
/-- the frame over the base: for OpenK's rules (K.In X.base is I.mod.kin) -/
theorem Inv.fr (I : Inv X pins σ H s) : ∃ m, Fr X.base X.env.locals s.heap m :=
  let ⟨m, hn, _⟩ := I.loc
  ⟨m, hn, I.bk, Nat.le_trans I.ok.bsz I.ok.above⟩
theorem Inv.lt (I : Inv X pins σ H s) : X.env.locals < s.heap.objs.size := let ⟨_, hn, _⟩ := I.loc; hn.lt
theorem Inv.sz (I : Inv X pins σ H s) : X.s_0.heap.objs.size ≤ s.heap.objs.size := Nat.le_trans I.ok.above (Nat.le_of_lt I.lt)
theorem Inv.nofs (I : Inv X pins σ H s) {a : Addr} (h : s.heap.objs.size ≤ a) : a ∉ X.fs := fun hb => by
  obtain ⟨_, o, ho, _⟩ := I.ok.funs.mem hb
  exact absurd (Nat.lt_of_lt_of_le (Heap.lt_size ho) (Nat.le_trans I.sz h)) (Nat.lt_irrefl _)
theorem Inv.cne (I : Inv X pins σ H s) : ∀ x c, X.env.cells.lookup x = some c → c ≠ X.env.locals := fun x c e z => by
  obtain ⟨v, o, ho, hd⟩ := I.cell x c e
  obtain ⟨m, ⟨o', es, ep, ho', hd', _⟩, _⟩ := I.loc
  rw [z, ho'] at ho; cases ho; rw [hd'] at hd; cases hd
theorem Inv.funs (I : Inv X pins σ H s) : s.heap.FunFrames X.base X.outer := by
  have all : ∀ (l : List Env), (∀ b ∈ frs l, b ∈ X.fs) → X.s_0.heap.FunFrames X.base l → s.heap.FunFrames X.base l := by
    intro l
    induction l with
    | nil => intro _ _; trivial
    | cons env r ih =>
      intro hs hl
      obtain ⟨hk, ⟨L, o, hf, hn, ho, hd⟩, hr⟩ := hl
      have hL : L ∈ X.fs := hs L (by unfold frs; rw [List.filterMap_cons, hf]; exact List.mem_cons_self)
      obtain ⟨sl, e⟩ := I.base.slot L o ho (I.ok.frf L hL) hL fun z => I.ok.exfs L z hL
      exact ⟨hk, ⟨L, _, hf, hn, e, hd⟩, ih (fun b hb => hs b (by unfold frs; rw [List.filterMap_cons, hf]; exact List.mem_cons_of_mem _ hb)) hr⟩
  exact all X.outer (fun _ hb => hb) I.ok.funs

/-- the frames that run, for a call -/
theorem Inv.stack (I : Inv X pins σ H s) : s.heap.FunFrames X.base X.stack := by
  rcases I.ok.stk with e | ⟨e, hf⟩
  · rw [e]; exact I.funs
  · rw [e]
    obtain ⟨m, hn, _⟩ := I.loc
    refine .cons (by rw [I.ok.kind]; decide) hf hn ?_ I.funs
    exact Heap.get?_none_of_le (Nat.le_trans I.ok.bsz I.ok.above)
theorem Inv.stkSub (I : Inv X pins σ H s) : ∀ b ∈ frs X.stack, b ∈ X.env.locals :: X.fs := fun b hb => by
  rcases I.ok.stk with e | ⟨e, hf⟩
  · rw [e] at hb; exact List.mem_cons_of_mem _ hb
  · rw [e] at hb
    unfold frs at hb
    rw [List.filterMap_cons, hf] at hb
    exact hb
theorem Inv.stkFree (I : Inv X pins σ H s) : ∀ b ∈ frs X.stack, H b = none := fun b hb => by
  rcases List.mem_cons.mp (I.stkSub b hb) with e | hb
  · rw [e]; exact I.free
  · obtain ⟨_, o, ho, _⟩ := I.ok.funs.mem hb
    exact I.base.free b o ho (I.ok.frf b hb) fun z => I.ok.exfs b z hb

/-- THE STEP: the untracked objects but the frame and the records at ch are kept (the callers' frames up to slots), the frame's map is kept, the new abstract heap is held -/
theorem Inv.step {g' : Array GenState} {t' : Nat} {d' : Drawn} {ch : List Addr} (I : Inv X pins σ H s)
    (hch : ∀ b ∈ ch, (b ∈ X.ex ∨ X.s_0.heap.objs.size ≤ b) ∧ b ≠ X.env.locals ∧ (∀ x c, X.env.cells.lookup x = some c → c ≠ b) ∧ ∀ p ∈ X.pn ++ pins, p.1 ≠ b)
    (keep : ∀ b o, b ≠ X.env.locals → b ∉ X.fs → b ∉ ch → s.heap.get? b = some o → H b = none → h'.get? b = some o)
    (slot : ∀ b o, b ≠ X.env.locals → b ∈ X.fs → b ∉ ch → s.heap.get? b = some o → H b = none → ∃ sl, h'.get? b = some { o with slots := sl }) (free : ∀ b o, b ∉ ch → s.heap.get? b = some o → H b = none → H' b = none)
    (there : ∀ b o, b ∉ ch → s.heap.get? b = some o → ∃ o', h'.get? b = some o')
    (tups : ∀ b xs, H b = some (.tup xs) → H' b = some (.tup xs)) (frzs : ∀ b o u, H b = some (.frz o u) → H' b = some (.frz o u)) (tbls : ∀ b ps, H b = some (.tbl ps) → ∃ more, H' b = some (.tbl (ps ++ more)))
    (ns : ∀ m, s.heap.Ns X.env.locals m → h'.Ns X.env.locals m) (hok : HOk X.prog X.w H' h') (hg : AllBare g') :
    Inv X pins σ H' { s with heap := h', gens := g', drawn := d', toks := t' } := by
  have neL : ∀ b o, X.s_0.heap.get? b = some o → b ≠ X.env.locals := fun b o e => Nat.ne_of_lt (Nat.lt_of_lt_of_le (Heap.lt_size e) I.ok.above)
  have neC : ∀ b o, X.s_0.heap.get? b = some o → b ∉ X.ex → b ∉ ch := fun b o e hx hb => by
    rcases (hch b hb).1 with z | z
    · exact hx z
    · exact absurd (Nat.lt_of_lt_of_le (Heap.lt_size e) z) (Nat.lt_irrefl _)
  have cellK : ∀ x c, X.env.cells.lookup x = some c → ∀ v, s.heap.IsCell c v → h'.IsCell c v := fun x c e v ⟨o, ho, hd⟩ => by
    have nch : c ∉ ch := fun z => (hch c z).2.2.1 x c e rfl
    by_cases hc : c ∈ X.fs
    · obtain ⟨sl, q⟩ := slot c o (I.cne x c e) hc nch ho (I.freeC x c e)
      exact ⟨_, q, hd⟩
    · exact ⟨o, keep c o (I.cne x c e) hc nch ho (I.freeC x c e), hd⟩
  refine ⟨I.ok, I.os, hg, ⟨fun b o e n hb hx => ?_, fun b o e n hb hx => ?_, fun b o e n hx => ?_, fun b o e hx => ?_, fun b xs e => tups b xs (I.base.tups b xs e), fun b o xs e => frzs b o xs (I.base.frzs b o xs e), fun b ps e => ?_⟩, ?_, fun x c e => ?_, ?_, fun x c e => ?_, fun p hp => ?_, hok, I.len⟩
  · exact keep b o (neL b o e) hb (neC b o e hx) (I.base.keep b o e n hb hx) (I.base.free b o e n hx)
  · obtain ⟨sl, e1⟩ := I.base.slot b o e n hb hx
    obtain ⟨sl', e2⟩ := slot b _ (neL b o e) hb (neC b o e hx) e1 (I.base.free b o e n hx)
    exact ⟨sl', e2⟩
  · obtain ⟨o', e1⟩ := I.base.there b o e hx
    exact free b o' (neC b o e hx) e1 (I.base.free b o e n hx)
  · obtain ⟨o', e1⟩ := I.base.there b o e hx
    exact there b o' (neC b o e hx) e1
  · obtain ⟨m1, e1⟩ := I.base.tbls b ps e
    obtain ⟨m2, e2⟩ := tbls b _ e1
    exact ⟨m1 ++ m2, by rw [e2, Array.append_assoc]⟩
  · obtain ⟨m, hn, hl⟩ := I.loc
    refine ⟨m, ns m hn, fun i x v e1 e2 e3 => ?_⟩
    obtain ⟨u, r, l⟩ := hl i x v e1 e2 e3
    refine ⟨u, r, ?_⟩
    rcases l with l | ⟨k, c, e, z⟩
    · exact .inl l
    · exact .inr ⟨k, c, e, cellK x c e _ z⟩
  · obtain ⟨v, z⟩ := I.cell x c e
    exact ⟨v, cellK x c e v z⟩
  · obtain ⟨m, ⟨o, _, _, ho, _⟩, _⟩ := I.loc
    exact free _ o (fun z => (hch _ z).2.1 rfl) ho I.free
  · obtain ⟨v, o, ho, hd⟩ := I.cell x c e
    exact free c o (fun z => (hch c z).2.2.1 x c e rfl) ho (I.freeC x c e)
  · obtain ⟨e, n, ne, nf, d⟩ := I.pin p hp
    have nch : p.1 ∉ ch := fun z => (hch p.1 z).2.2.2 p hp rfl
    exact ⟨keep p.1 p.2 ne nf nch e n, free p.1 p.2 nch e n, ne, nf, d⟩
/-- .. where the frame's own object is kept too -/
theorem Inv.un {t' : Nat} (I : Inv X pins σ H s) (u : Un X.fs [] H H' s.heap h') (hok : HOk X.prog X.w H' h') : Inv X pins σ H' { s with heap := h', toks := t' } := by
  obtain ⟨m, ⟨o, es, ep, ho, r⟩, _⟩ := id I.loc
  obtain ⟨sl, hL⟩ := u.any ho I.free (by simp)
  exact I.step (g' := s.gens) (d' := s.drawn) (ch := []) (fun _ z => nomatch z) (fun b o _ hb _ e n => u.keep b o e n hb (by simp)) (fun b o _ hb _ e n => u.slot b o e n hb (by simp)) (fun b o _ e n => u.free b o e n (by simp)) (fun b o _ e => u.there b o e (by simp)) u.tups u.frzs u.tbls (fun m' hm => by
    obtain ⟨o', es', ep', ho', r'⟩ := hm
    rw [ho] at ho'; cases ho'
    exact ⟨_, es', ep', hL, r'⟩) hok I.bare
/-- behind a call (or a comprehension's block): the slots of this frame may have changed too, the records at ch may have turned -/
theorem Inv.call {g' : Array GenState} {t' : Nat} {d' : Drawn} {ch : List Addr} (I : Inv X pins σ H s) (u : Un (frs X.stack) ch H H' s.heap h') (hok : HOk X.prog X.w H' h') (hg : AllBare g')
    (hch : ∀ b ∈ ch, (b ∈ X.ex ∨ X.s_0.heap.objs.size ≤ b) ∧ b ≠ X.env.locals ∧ (∀ x c, X.env.cells.lookup x = some c → c ≠ b) ∧ ∀ p ∈ X.pn ++ pins, p.1 ≠ b) :
    Inv X pins σ H' { s with heap := h', gens := g', drawn := d', toks := t' } := by
  obtain ⟨m, ⟨o, es, ep, ho, r⟩, _⟩ := id I.loc
  obtain ⟨sl, hL⟩ := u.any ho I.free fun z => (hch _ z).2.1 rfl
  exact I.step (ch := ch) hch (fun b o hL hb hc e n => u.keep b o e n (fun z => (List.mem_cons.mp (I.stkSub b z)).elim hL hb) hc) (fun b o _ _ hc e n => u.any e n hc) (fun b o hc e n => u.free b o e n hc) (fun b o hc e => u.there b o e hc) u.tups u.frzs u.tbls (fun m' hm => by
    obtain ⟨o', es', ep', ho', r'⟩ := hm
    rw [ho] at ho'; cases ho'
    exact ⟨_, es', ep', hL, r'⟩) hok hg
/-- an untracked record of ours (an iterator) has turned -/
theorem Inv.turned {t' : Nat} {it : Addr} (I : Inv X pins σ H s) (k : ∀ b o, b ≠ it → s.heap.get? b = some o → h'.get? b = some o) (hn : H it = none) (hL : it ≠ X.env.locals)
    (h1 : it ∈ X.ex ∨ X.s_0.heap.objs.size ≤ it) (h2 : ∀ x c, X.env.cells.lookup x = some c → c ≠ it) (h3 : ∀ p ∈ X.pn ++ pins, p.1 ≠ it) : Inv X pins σ H { s with heap := h', toks := t' } := by
  have nit : ∀ b u, H b = some u → b ≠ it := fun b u e z => by rw [z, hn] at e; cases e
  refine I.step (g' := s.gens) (d' := s.drawn) (ch := [it]) (fun b hb => ?_) (fun b o _ _ hc e _ => k b o (fun z => hc (by simp [z])) e) (fun b o _ _ hc e _ => ⟨o.slots, k b o (fun z => hc (by simp [z])) e⟩) (fun _ _ _ _ n => n)
    (fun b o hc e => ⟨o, k b o (fun z => hc (by simp [z])) e⟩) (fun _ _ e => e) (fun _ _ _ e => e) (fun b ps e => ⟨#[], by rw [e]; simp⟩) (fun m hm => ?_) (fun b u e => ?_) I.bare
  · have e : b = it := by simpa using hb
    subst e
    exact ⟨h1, hL, h2, h3⟩
  · obtain ⟨o, es, ep, ho, r⟩ := hm
    exact ⟨o, es, ep, k _ o (Ne.symm hL) ho, r⟩
  · refine (I.hok b u e).stay (fun c v hc q => k c v ?_ q) (fun _ q => q) fun _ _ q => q
    rcases hc with z | z
    · rw [z]; exact nit b u e
    · exact nit c _ z
theorem Inv.tok (I : Inv X pins σ H s) (t : Nat) : Inv X pins σ H { s with toks := t } := I.un (h' := s.heap) (t' := t) Un.refl I.hok
/-- all objects kept -/
theorem Inv.kept {t' : Nat} (I : Inv X pins σ H s) (k : ∀ b u, s.heap.get? b = some u → h'.get? b = some u) : Inv X pins σ H { s with heap := h', toks := t' } := I.un (Un.kept k) (I.hok.kept k)
/-- a new object laid and tracked -/
theorem Inv.laid {a : Addr} {o : HO} {t' : Nat} (I : Inv X pins σ H s) (k : ∀ b u, s.heap.get? b = some u → h'.get? b = some u) (hp : s.heap.objs.size ≤ a) (new : ObjOk X.prog X.w (upd H a o) h' a o) :
    Inv X pins σ (upd H a o) { s with heap := h', toks := t' } := I.un (Un.laid k hp (I.hok.fresh hp)) (I.hok.laid k hp new)
/-- an object written -/
theorem Inv.write {x e : Addr} {o : HO} {t' : Nat} (I : Inv X pins σ H s) (mu : Mut (H x)) (he : e = x ∨ H e = some (.own x)) (k : ∀ b u, b ≠ e → s.heap.get? b = some u → h'.get? b = some u) (heo : ∃ u, h'.get? e = some u)
    (new : ObjOk X.prog X.w (upd H x o) h' x o) : Inv X pins σ (upd H x o) { s with heap := h', toks := t' } := I.un (Un.write mu he k heo) (I.hok.write mu he k heo new)
/-- forgetting slots, pins -/
theorem Inv.weak {σ' : List (Option V)} (I : Inv X pins σ H s) (hl : σ'.length = σ.length) (w : ∀ (i : Nat) v, σ'[i]? = some (some v) → σ[i]? = some (some v)) : Inv X pins σ' H s :=
  ⟨I.ok, I.os, I.bare, I.base, let ⟨m, hn, hl'⟩ := I.loc; ⟨m, hn, fun i x v e1 e2 e3 => hl' i x v e1 (w i v e2) e3⟩, I.cell, I.free, I.freeC, I.pin, I.hok, hl.trans I.len⟩
theorem Inv.pins_of {pins' : List (Addr × Obj)} (I : Inv X pins σ H s) (h : ∀ p ∈ pins', s.heap.get? p.1 = some p.2 ∧ H p.1 = none ∧ p.1 ≠ X.env.locals ∧ p.1 ∉ X.fs ∧ ∀ v, p.2.data ≠ .cell v) : Inv X pins' σ H s :=
  ⟨I.ok, I.os, I.bare, I.base, I.loc, I.cell, I.free, I.freeC, fun p hp => (List.mem_append.mp hp).elim (fun z => I.pin p (List.mem_append_left _ z)) (h p), I.hok, I.len⟩

theorem nodup_ix {N : List Str} (hN : N.Nodup) {i j : Nat} {x : Str} (a : N[i]? = some x) (b : N[j]? = some x) : i = j := by
  obtain ⟨h1, e1⟩ := List.getElem?_eq_some_iff.mp a
  obtain ⟨h2, e2⟩ := List.getElem?_eq_some_iff.mp b
  exact (List.getElem_inj hN).mp (e1.trans e2.symm)

/-- a name is stored; what changed -/
theorem store_ok2 {M : Model} {A : Around} {E : Value → Shared → Prop} {i : Nat} {x : Str} {v : V} {u : Value} {Q : Unit → Shared → Prop} (I : Inv X pins σ H s) (hN : X.N.Nodup) (hi : X.N[i]? = some x) (hx : Loc X.env.scope x) (r : RelV v u)
    (h : ∀ s', Inv X pins (σ.set i (some v)) H s' → (∃ a, Heap.SameBut a s.heap s'.heap ∧ (a = X.env.locals ∨ X.env.cells.lookup x = some a)) → Q () s') (hf : X.fn x = true ∨ X.env.scope.names.lookup x = some .local := by first | exact .inl rfl | exact .inr rfl | assumption) : wpAny M A (storeName X.env x u) Q E s := by
  obtain ⟨m, hn, hl⟩ := id I.loc
  have hcls : (X.env.scope.kind == .class || (X.env.scope.kind == .module && X.env.locals != X.env.globals)) = false := by rw [I.ok.kind]; rfl
  have hiσ : i < σ.length := by rw [I.len]; exact (List.getElem?_eq_some_iff.mp hi).1
  have cne := I.cne
  have tracked : ∀ {a : Addr} {h' : Heap}, (∃ o, s.heap.get? a = some o ∧ H a = none) → Heap.SameBut a s.heap h' → HOk X.prog X.w H h' := fun {a h'} ha hs b ob e => by
    obtain ⟨_, _, hfree⟩ := ha
    refine (I.hok b ob e).stay (fun c w' hc q => (hs.2 c ?_).trans q) (fun _ q => q) fun _ _ q => q
    rintro rfl
    rcases hc with rfl | hc
    · rw [hfree] at e; cases e
    · rw [hfree] at hc; cases hc
  rcases hx with hk | hk
  · refine wpAny_storeName_local hk hn (fun h' hn' hs => ?_) hcls
    obtain ⟨oL, _, _, hoL, _⟩ := id hn
    refine h _ ⟨I.ok, I.os, I.bare, ⟨fun b o e n hb hx => ?_, fun b o e n hb hx => ?_, I.base.free, fun b o e hx => ?_, I.base.tups, I.base.frzs, I.base.tbls⟩, ⟨_, hn', fun j y v' e1 e2 e3 => ?_⟩, fun y c e => ?_, I.free, I.freeC, fun p hp => ?_, tracked ⟨oL, hoL, I.free⟩ hs, by simpa using I.len⟩ ⟨_, hs, .inl rfl⟩
    · exact (hs.2 b (Nat.ne_of_lt (Nat.lt_of_lt_of_le (Heap.lt_size e) I.ok.above))).trans (I.base.keep b o e n hb hx)
    · obtain ⟨sl, e1⟩ := I.base.slot b o e n hb hx
      exact ⟨sl, (hs.2 b (Nat.ne_of_lt (Nat.lt_of_lt_of_le (Heap.lt_size e) I.ok.above))).trans e1⟩
    · obtain ⟨o', e1⟩ := I.base.there b o e hx
      exact ⟨o', (hs.2 b (Nat.ne_of_lt (Nat.lt_of_lt_of_le (Heap.lt_size e) I.ok.above))).trans e1⟩
    · by_cases hj : j = i
      · subst hj
        rw [hi] at e1; cases e1
        rw [List.getElem?_set_self hiσ] at e2
        cases e2
        exact ⟨u, r, .inl ⟨hk, by simp⟩⟩
      · rw [List.getElem?_set_ne (Ne.symm hj)] at e2
        obtain ⟨u', r', q⟩ := hl j y v' e1 e2 e3
        refine ⟨u', r', ?_⟩
        rcases q with ⟨k, e⟩ | ⟨k, c, e, z⟩
        · refine .inl ⟨k, ?_⟩
          have : y ≠ x := fun e => hj (nodup_ix hN e1 (e ▸ hi))
          simp [this, e]
        · exact .inr ⟨k, c, e, z.sameBut hs (cne y c e)⟩
    · obtain ⟨w', z⟩ := I.cell y c e
      exact ⟨w', z.sameBut hs (cne y c e)⟩
    · obtain ⟨e, n, ne, nf, d⟩ := I.pin p hp
      exact ⟨(hs.2 p.1 ne).trans e, n, ne, nf, d⟩
  · have hfn : X.fn x = true := by
      rcases hf with z | z
      · exact z
      · rw [z] at hk; cases hk
    obtain ⟨c, hc⟩ := I.ok.has x (.inl hk)
    obtain ⟨w', z⟩ := I.cell x c hc
    refine wpAny_storeName_cell I.ok.kind hk hc z (fun h' hc' hs => ?_)
    obtain ⟨oc, hoc, hocd⟩ := id z
    refine h { s with heap := h' } ⟨I.ok, I.os, I.bare, ⟨fun b o e n hb hx => ?_, fun b o e n hb hx => ?_, I.base.free, fun b o e hx => ?_, I.base.tups, I.base.frzs, I.base.tbls⟩, ⟨m, hn.sameBut hs (Ne.symm (cne x c hc)), fun j y v' e1 e2 e3 => ?_⟩, fun y c' e => ?_, I.free, I.freeC, fun p hp => ?_, tracked ⟨oc, hoc, I.freeC x c hc⟩ hs, by simpa using I.len⟩ ⟨c, hs, .inr hc⟩
    · exact (hs.2 b (Nat.ne_of_lt (Nat.lt_of_lt_of_le (Heap.lt_size e) (I.ok.cab x c hfn hc)))).trans (I.base.keep b o e n hb hx)
    · obtain ⟨sl, e1⟩ := I.base.slot b o e n hb hx
      exact ⟨sl, (hs.2 b (Nat.ne_of_lt (Nat.lt_of_lt_of_le (Heap.lt_size e) (I.ok.cab x c hfn hc)))).trans e1⟩
    · obtain ⟨o', e1⟩ := I.base.there b o e hx
      exact ⟨o', (hs.2 b (Nat.ne_of_lt (Nat.lt_of_lt_of_le (Heap.lt_size e) (I.ok.cab x c hfn hc)))).trans e1⟩
    · by_cases hj : j = i
      · subst hj
        rw [hi] at e1; cases e1
        rw [List.getElem?_set_self hiσ] at e2
        cases e2
        exact ⟨u, r, .inr ⟨.inl hk, c, hc, hc'⟩⟩
      · rw [List.getElem?_set_ne (Ne.symm hj)] at e2
        obtain ⟨u', r', q⟩ := hl j y v' e1 e2 e3
        refine ⟨u', r', ?_⟩
        rcases q with q | ⟨k, c', e, z'⟩
        · exact .inl q
        · refine .inr ⟨k, c', e, z'.sameBut hs ?_⟩
          rintro rfl
          exact hj (nodup_ix hN e1 (I.ok.inj _ _ _ e hc ▸ hi))
    · by_cases hcc : c' = c
      · subst hcc; exact ⟨_, hc'⟩
      · obtain ⟨w2, z2⟩ := I.cell y c' e
        exact ⟨w2, z2.sameBut hs hcc⟩
    · obtain ⟨e, n, ne, nf, d⟩ := I.pin p hp
      refine ⟨(hs.2 p.1 ?_).trans e, n, ne, nf, d⟩
      intro q
      rw [q, hoc] at e
      have q' : oc = p.2 := Option.some.inj e
      exact d w' (by rw [← q']; exact hocd)
theorem store_ok {M : Model} {A : Around} {E : Value → Shared → Prop} {i : Nat} {x : Str} {v : V} {u : Value} {Q : Unit → Shared → Prop} (I : Inv X pins σ H s) (hN : X.N.Nodup) (hi : X.N[i]? = some x) (hx : Loc X.env.scope x) (r : RelV v u)
    (h : ∀ s', Inv X pins (σ.set i (some v)) H s' → Q () s') (hf : X.fn x = true ∨ X.env.scope.names.lookup x = some .local := by first | exact .inl rfl | exact .inr rfl | assumption) : wpAny M A (storeName X.env x u) Q E s :=
  store_ok2 I hN hi hx r (fun s' I' _ => h s' I') hf
/-- behind a call or a block, the state as it is -/
theorem Inv.call' {s' : Shared} {ch : List Addr} (I : Inv X pins σ H s) (ho : s'.os = s.os) (u : Un (frs X.stack) ch H H' s.heap s'.heap) (hok : HOk X.prog X.w H' s'.heap) (hg : AllBare s'.gens)
    (hch : ∀ b ∈ ch, (b ∈ X.ex ∨ X.s_0.heap.objs.size ≤ b) ∧ b ≠ X.env.locals ∧ (∀ x c, X.env.cells.lookup x = some c → c ≠ b) ∧ ∀ p ∈ X.pn ++ pins, p.1 ≠ b) : Inv X pins σ H' s' := by
  obtain ⟨h', g', d', t', o'⟩ := s'
  have e : o' = s.os := ho
  subst e
  exact I.call (g' := g') (t' := t') (d' := d') u hok hg hch
end

/-! ### the judgements -/
/-- an exception: its class, its own dict's address (where it has one), the abstract heap behind it -/
abbrev XK := Value → Option Addr → Hp → Prop
abbrev St := List (Option V)
abbrev VK := V → Hp → Prop
/-- an expression's reading; a test's; an argument list's -/
abbrev TE := St → Hp → VK → Prop
abbrev TT := St → Hp → (Bool → Hp → Prop) → Prop
abbrev TA := St → Hp → (List V → Hp → Prop) → Prop
/-- what is wanted behind a statement -/
structure Ends where
  nx : St → Hp → Prop
  rt : VK
  bk : St → Hp → Prop := fun _ _ => False
  ct : St → Hp → Prop := fun _ _ => False
abbrev TS := Ends → St → Hp → Prop

def EP (X : Cx) (pins : List (Addr × Obj)) (σ : St) (Q : VK) (u : Value) (s' : Shared) : Prop := ∃ v H', Inv X pins σ H' s' ∧ RelV v u ∧ Q v H'
def TP (X : Cx) (pins : List (Addr × Obj)) (σ : St) (Q : Bool → Hp → Prop) (b : Bool) (s' : Shared) : Prop := ∃ H', Inv X pins σ H' s' ∧ Q b H'
def AP (X : Cx) (pins : List (Addr × Obj)) (σ : St) (Q : List V → Hp → Prop) (us : List Value) (s' : Shared) : Prop := ∃ vs H', Inv X pins σ H' s' ∧ Vals vs us ∧ Q vs H'
def SP (X : Cx) (pins : List (Addr × Obj)) (D : Ends) (f : Flow) (s' : Shared) : Prop :=
  match f with
  | .next => ∃ σ' H', Inv X pins σ' H' s' ∧ D.nx σ' H'
  | .brk => ∃ σ' H', Inv X pins σ' H' s' ∧ D.bk σ' H'
  | .cont => ∃ σ' H', Inv X pins σ' H' s' ∧ D.ct σ' H'
  | .ret u => ∃ v σ' H', Inv X pins σ' H' s' ∧ RelV v u ∧ D.rt v H'

def PE (X : Cx) (e : Expr) (t : TE) : Prop :=
  ∀ (pins : List (Addr × Obj)) (s : Shared) (σ : St) (H : Hp) (Q : VK), Inv X pins σ H s → t σ H Q → wpAny (model X.prog X.w) X.A (eval e X.env) (EP X pins σ Q) X.xe s
def PT (X : Cx) (e : Expr) (t : TT) : Prop :=
  ∀ (pins : List (Addr × Obj)) (s : Shared) (σ : St) (H : Hp) (Q : Bool → Hp → Prop), Inv X pins σ H s → t σ H Q → wpAny (model X.prog X.w) X.A (isTrue e X.env (eval e X.env)) (TP X pins σ Q) X.xe s
/-- a test whatever its 'whole' is (and, or) -/
def PW (X : Cx) (e : Expr) (t : TT) : Prop :=
  ∀ (whole : Sem Value) (pins : List (Addr × Obj)) (s : Shared) (σ : St) (H : Hp) (Q : Bool → Hp → Prop), Inv X pins σ H s → t σ H Q → wpAny (model X.prog X.w) X.A (isTrue e X.env whole) (TP X pins σ Q) X.xe s
theorem PW.pt {X : Cx} {e : Expr} {t : TT} (h : PW X e t) : PT X e t := h _
/-- an argument list (no star), from the left -/
def PA (X : Cx) (es : List Expr) (t : TA) : Prop :=
  ∀ (pos : Pos) (pins : List (Addr × Obj)) (s : Shared) (σ : St) (H : Hp) (Q : List V → Hp → Prop), Inv X pins σ H s → t σ H Q → wpAny (model X.prog X.w) X.A (spliced (backTo pos (starEach es X.env))) (AP X pins σ Q) X.xe s
def PS (X : Cx) (st : Stmt) (t : TS) : Prop :=
  ∀ (pins : List (Addr × Obj)) (s : Shared) (σ : St) (H : Hp) (D : Ends), Inv X pins σ H s → t D σ H → wpAny (model X.prog X.w) X.A (exec st X.env) (SP X pins D) X.xe s
def PSs (X : Cx) (st : List Stmt) (t : TS) : Prop :=
  ∀ (pins : List (Addr × Obj)) (s : Shared) (σ : St) (H : Hp) (D : Ends), Inv X pins σ H s → t D σ H → wpAny (model X.prog X.w) X.A (execs st X.env) (SP X pins D) X.xe s
/-- weaken the end -/
theorem thn {α : Type} {t : Sem α} {Q Q' : α → Shared → Prop} {M : Model} {A : Around} {E : Value → Shared → Prop} {s : Shared} (h : wpAny M A t Q E s) (hQ : ∀ a s, Q a s → Q' a s) : wpAny M A t Q' E s := wpAny_mono h hQ fun _ _ x => x
end L2

namespace L2
open PySem PySem.Spec PyProof.Rows
section
variable {X : Cx}

/-! ### names and constants -/
def tVar (i : Nat) : TE := fun σ H Q => ∃ v, σ[i]? = some (some v) ∧ Q v H
def tC (v : V) : TE := fun _ H Q => Q v H
theorem pe_var {i : Nat} {x : Str} {pos : Pos} (hN : X.N[i]? = some x) (hv : Vis X.env.scope x) (hd : (x == ("__debug__" : Str)) = false := by decide) (hcd : (x == ("__classdict__" : Str)) = false := by decide) : PE X (.Name x pos) (tVar i) := by
  intro pins s σ H Q I h
  obtain ⟨v, e, h⟩ := h
  obtain ⟨m, hn, hl⟩ := I.loc
  obtain ⟨u, r, l⟩ := hl i x v hN e hv
  have fin : EP X pins σ Q u s := ⟨v, H, I, r, h⟩
  rcases l with ⟨hk, hm⟩ | ⟨hk, c, hc, hcell⟩
  · exact wpAny_Name (wpAny_loadName_local I.ok.kind hk hn hm fin) hd
  · rcases hk with hk | hk
    · exact wpAny_Name (wpAny_loadName_cell I.ok.kind hk hc hcell fin) hd
    · exact wpAny_Name (wpAny_loadName_free I.ok.kind hk hc hcell fin hcd) hd
theorem pe_int {i j pos} : PE X (.Constant (.int i) j pos) (tC (.int i)) := fun _ _ _ H _ I h => wpAny_Constant_int ⟨.int i, H, I.tok _, ⟨_, rfl⟩, h⟩
theorem pe_bl {b j pos} : PE X (.Constant (.bool b) j pos) (tC (.bl b)) := fun _ _ _ H _ I h => Constant_bool ⟨.bl b, H, I, rfl, h⟩
/-- a global name of the def -/
def Gl (X : Cx) (x : Str) : Prop := X.env.kindOf x = some .globalImplicit
theorem ld_glob {E : Value → Shared → Prop} {pins : List (Addr × Obj)} {s : Shared} {σ : St} {H : Hp} {x : Str} {u : Value} {pos : Pos} {Q : Value → Shared → Prop} (I : Inv X pins σ H s) (hg : Gl X x) (hm : X.mg x = some u) (h : Q u s)
    (hd : (x == ("__debug__" : Str)) = false := by decide) : wpAny (model X.prog X.w) X.A (eval (.Name x pos) X.env) Q E s :=
  Calls.Name_function_global I.ok.kind hg (Calls.loadGlobal_global (by rw [I.ok.glob]; exact I.mod.glob.keeps I.bk) hm h) hd
theorem ld_blt {E : Value → Shared → Prop} {pins : List (Addr × Obj)} {s : Shared} {σ : St} {H : Hp} {x : Str} {u : Value} {pos : Pos} {Q : Value → Shared → Prop} (I : Inv X pins σ H s) (hg : Gl X x) (hm : X.mg x = none) (hv : bootBuiltins x = some u) (h : Q u s)
    (hn : x ≠ "__name__" := by decide) (hd : (x == ("__debug__" : Str)) = false := by decide) : wpAny (model X.prog X.w) X.A (eval (.Name x pos) X.env) Q E s := by
  obtain ⟨mb, h1, h2⟩ := I.mod.blt
  exact Calls.Name_function_global I.ok.kind hg (Calls.loadGlobal_builtin (by rw [I.ok.glob]; exact I.mod.glob.keeps I.bk) hm (by rw [I.ok.blt]; exact h1.keeps I.bk) ((h2 x hn).trans hv) h) hd
theorem pe_bltn {x : Str} {v : V} {u : Value} {pos : Pos} (hg : Gl X x) (hm : X.mg x = none) (hv : bootBuiltins x = some u) (r : RelV v u) (hn : x ≠ "__name__" := by decide) (hd : (x == ("__debug__" : Str)) = false := by decide) : PE X (.Name x pos) (tC v) :=
  fun _ _ _ H _ I h => ld_blt I hg hm hv ⟨v, H, I, r, h⟩ hn hd

/-! ### arithmetic -/
variable {a b : Expr} {ta tb : TE} {pos : Pos}
/-! ### comparisons -/
def PC (X : Cx) (op : CmpOp) (a b : Expr) (t : TE) : Prop :=
  ∀ (pins : List (Addr × Obj)) (s : Shared) (σ : St) (H : Hp) (Q : VK), Inv X pins σ H s → t σ H Q →
    wpAny (model X.prog X.w) X.A (eval a X.env) (fun v s₁ => wpAny (model X.prog X.w) X.A (eval b X.env) (fun u s₂ => wpAny (model X.prog X.w) X.A (compareOp op v u) (EP X pins σ Q) X.xe s₂) X.xe s₁) X.xe s
theorem nobehind (b : Expr) {op : CmpOp} (h : op ≠ .In) (h2 : op ≠ .NotIn) : behindInMarks op b = false := by
  have e1 : (op == CmpOp.In) = false := by cases op <;> first | rfl | exact absurd rfl h
  have e2 : (op == CmpOp.NotIn) = false := by cases op <;> first | rfl | exact absurd rfl h2
  cases b <;> simp [behindInMarks, e1, e2]
/-- a comparison as a value, as a test -/
def tB (t : TE) : TT := fun σ H Q => t σ H fun x H1 => ∃ c, x = .bl c ∧ Q c H1
theorem pt_cmp {op : CmpOp} {t : TE} (h : PC X op a b t) (h1 : behindInMarks op b = false := by first | exact nobehind _ (by decide) (by decide) | rfl) : PT X (.Compare a [op] [b] pos) (tB t) := by
  intro pins s σ H Q I hw
  refine wpAny_isTrue_Compare1 (thn (h pins s σ H _ I hw) fun v s1 h1 => thn h1 fun u s2 h2 => thn h2 fun c s3 ⟨x, H1, I1, r1, q1⟩ => ?_) h1
  obtain ⟨d, rfl, q⟩ := q1
  cases r1
  exact wpAny_truthy_bool ⟨H1, I1, q⟩
/-- an expression whose value is a bool, as a test -/
theorem pt_val {e : Expr} {t : TE} (h : PE X e t) (he : ∀ whole, isTrue e X.env whole = (do let v ← whole; standAt e.pos; holding [v] (truthy v)) := by intro _; rfl) : PT X e (tB t) := by
  intro pins s σ H Q I hw
  refine isTrue_plain (thn (h pins s σ H _ I hw) fun v s1 ⟨x, H1, I1, r1, q1⟩ => ?_) (he _)
  obtain ⟨d, rfl, q⟩ := q1
  cases r1
  exact wpAny_truthy_bool ⟨H1, I1, q⟩

/-! ### and, or, not -/
variable {tA tB' : TT} {rest : List Expr}
def tAnd (t u : TT) : TT := fun σ H Q => t σ H fun c H1 => if c = true then u σ H1 Q else Q false H1
def tOr (t u : TT) : TT := fun σ H Q => t σ H fun c H1 => if c = true then Q true H1 else u σ H1 Q
def tNot (t : TT) : TT := fun σ H Q => t σ H fun c H1 => Q (!c) H1
theorem pw_and1 (ha : PT X a tA) : PW X (.BoolOp .And [a] pos) tA := by
  intro wh pins s σ H Q I h
  refine isTrue_and (thn (ha pins s σ H Q I h) fun c s1 e => ?_)
  cases c with
  | true => exact isTrue_and_nil e
  | false => exact e
theorem pw_or1 (ha : PT X a tA) : PW X (.BoolOp .Or [a] pos) tA := by
  intro wh pins s σ H Q I h
  refine isTrue_or (thn (ha pins s σ H Q I h) fun c s1 e => ?_)
  cases c with
  | false => exact isTrue_or_nil e
  | true => exact e
theorem pw_and (ha : PT X a tA) (hb : PW X (.BoolOp .And (b :: rest) pos) tB') : PW X (.BoolOp .And (a :: b :: rest) pos) (tAnd tA tB') := by
  intro wh pins s σ H Q I h
  refine isTrue_and (thn (ha pins s σ H _ I h) fun c s1 ⟨H1, I1, q1⟩ => ?_)
  cases c with
  | true => exact hb wh pins s1 σ H1 Q I1 q1
  | false => exact ⟨H1, I1, q1⟩
theorem pw_or (ha : PT X a tA) (hb : PW X (.BoolOp .Or (b :: rest) pos) tB') : PW X (.BoolOp .Or (a :: b :: rest) pos) (tOr tA tB') := by
  intro wh pins s σ H Q I h
  refine isTrue_or (thn (ha pins s σ H _ I h) fun c s1 ⟨H1, I1, q1⟩ => ?_)
  cases c with
  | true => exact ⟨H1, I1, q1⟩
  | false => exact hb wh pins s1 σ H1 Q I1 q1
theorem pt_not (ha : PT X a tA) : PT X (.UnaryOp .Not a pos) (tNot tA) := by
  intro pins s σ H Q I h
  exact isTrue_not (ha pins s σ H (fun c H1 => Q (!c) H1) I h)
/-- .. as values (bools) -/
def tAndV (ta tb : TE) : TE := fun σ H Q => ta σ H fun x H1 => ∃ c, x = .bl c ∧ if c = true then tb σ H1 Q else Q (.bl false) H1
theorem pe_one {op} {t : TE} (h : PE X a t) : PE X (.BoolOp op [a] pos) t := fun pins s σ H Q I hw => BoolOp_one (h pins s σ H Q I hw)
theorem pe_and (ha : PE X a ta) (hb : PE X (.BoolOp .And (b :: rest) pos) tb) : PE X (.BoolOp .And (a :: b :: rest) pos) (tAndV ta tb) := by
  intro pins s σ H Q I h
  refine BoolOp_and (thn (ha pins s σ H _ I h) fun v s1 ⟨x, H1, I1, r1, q1⟩ => ?_)
  obtain ⟨c, rfl, q1⟩ := q1
  cases r1
  refine wpAny_truthy_bool ?_
  cases c with
  | true => exact hb pins s1 σ H1 Q I1 q1
  | false => exact ⟨.bl false, H1, I1, rfl, q1⟩
end
end L2

namespace L2
open PySem PySem.Spec PyProof.Rows

/-! ### a list, a tuple that is read: tracked, frozen, or an object of the module -/
def SqL (K : PySem.W.Frag) (H : Hp) (a : Addr) (xs : List V) : Prop :=
  Rd H a (.lst xs) ∨
    ∃ (o : Obj) (its : Array Value) (n : Nat), K.lookup a = some o ∧ o.cls = .type "list" ∧ o.dict = none ∧ o.data = .seq its n ∧ its.size ≤ sizeLine ∧ Vals xs its.toList
def SqT (K : PySem.W.Frag) (H : Hp) (a : Addr) (xs : List V) : Prop :=
  Rd H a (.tup xs) ∨
    ∃ (o : Obj) (its : Array Value) (n : Nat), K.lookup a = some o ∧ o.cls = .type "tuple" ∧ o.data = .seq its n ∧ its.size ≤ sizeLine ∧ Vals xs its.toList
def absV : Value → Option V
  | .none => some .non
  | .bool b => some (.bl b)
  | .int i _ => some (.int i)
  | .str x _ => some (.str x)
  | .bytes b _ => some (.byt b)
  | .float b _ => some (.flt b)
  | .ref a => some (.ref a)
  | .type n => some (.ty n)
  | _ => none
theorem RelV.abs {x : V} {u : Value} (r : RelV x u) : absV u = some x := by
  cases x with
  | non => cases r; rfl
  | bl _ => cases r; rfl
  | int _ => obtain ⟨t, rfl⟩ := r; rfl
  | str _ => obtain ⟨t, rfl⟩ := r; rfl
  | byt _ => obtain ⟨t, rfl⟩ := r; rfl
  | flt _ => obtain ⟨t, rfl⟩ := r; rfl
  | ref _ => cases r; rfl
  | ty _ => cases r; rfl
theorem RelV.inj {x y : V} {u : Value} (r : RelV x u) (q : RelV y u) : x = y := Option.some.inj (r.abs.symm.trans q.abs)
theorem Vals.inj : ∀ {xs ys : List V} {us : List Value}, Vals xs us → Vals ys us → xs = ys
  | _, _, _, .nil, .nil => rfl
  | _, _, _, .cons r t, .cons r' t' => by rw [r.inj r', Vals.inj t t']
section
variable {X : Cx} {pins : List (Addr × Obj)} {σ : St} {H : Hp} {s : Shared} {a : Addr} {xs ys : List V}
theorem SqL.of {K : PySem.W.Frag} (h : H a = some (.lst xs)) : SqL K H a xs := .inl (.inl h)
theorem SqT.of {K : PySem.W.Frag} (h : H a = some (.tup xs)) : SqT K H a xs := .inl (.inl h)
theorem Inv.list (I : Inv X pins σ H s) (h : SqL X.K H a xs) : ∃ its : List Value, Vals xs its ∧ PlainL s.heap a its.toArray ∧ xs.length ≤ sizeLine := by
  rcases h with h | ⟨o, its, n, hk, hc, hd, hs, hz, r⟩
  · obtain ⟨z, its, n, r, e⟩ := h.ok I.hok
    exact ⟨its, r, ⟨_, n, e, rfl, rfl, rfl⟩, z⟩
  · refine ⟨its.toList, r, ⟨o, n, I.kIn a o hk, hc, hd, by simpa using hs⟩, ?_⟩
    have e := r.length
    simp only [Array.length_toList] at e
    omega
theorem Inv.tuple (I : Inv X pins σ H s) (h : SqT X.K H a xs) : ∃ its : List Value, Vals xs its ∧ IsTup s.heap a its.toArray ∧ xs.length ≤ sizeLine := by
  rcases h with h | ⟨o, its, n, hk, hc, hs, hz, r⟩
  · obtain ⟨z, its, r, p⟩ := h.ok I.hok
    exact ⟨its, r, p, z⟩
  · refine ⟨its.toList, r, ⟨o, I.kIn a o hk, hc, n, by simpa using hs⟩, ?_⟩
    have e := r.length
    simp only [Array.length_toList] at e
    omega
theorem Inv.list_inj (I : Inv X pins σ H s) (h : SqL X.K H a xs) (h' : SqL X.K H a ys) : xs = ys := by
  obtain ⟨its, r, ⟨o, n, e, _, _, d⟩, _⟩ := I.list h
  obtain ⟨its', r', ⟨o', n', e', _, _, d'⟩, _⟩ := I.list h'
  rw [e] at e'; cases e'
  rw [d] at d'
  injection d' with d1 _
  have : its = its' := by simpa using congrArg Array.toList d1
  subst this
  exact r.inj r'
end

/-! ### another wish about exceptions -/
abbrev Cx.wish (X : Cx) (E : Value → Shared → Prop) : Cx := { X with xe := E }
/-- no exception leaves -/
abbrev Cx.nox (X : Cx) : Cx := X.wish fun _ _ => False
theorem Cx.Ok.wish {X : Cx} (ok : X.Ok) (E : Value → Shared → Prop) : (X.wish E).Ok :=
  ⟨ok.mod, ok.kind, ok.glob, ok.blt, ok.above, ok.inj, ok.has, ok.cab, ok.hd, ok.frames, ok.stk, ok.exf, ok.bs, ok.bsz, ok.noex, ok.exfs, ok.funs, ok.frf⟩
theorem Cx.Ok.unwish {X : Cx} {E : Value → Shared → Prop} (ok : (X.wish E).Ok) : X.Ok :=
  ⟨ok.mod, ok.kind, ok.glob, ok.blt, ok.above, ok.inj, ok.has, ok.cab, ok.hd, ok.frames, ok.stk, ok.exf, ok.bs, ok.bsz, ok.noex, ok.exfs, ok.funs, ok.frf⟩
section
variable {X : Cx} {pins : List (Addr × Obj)} {σ : St} {H : Hp} {s : Shared} {E : Value → Shared → Prop}
theorem Inv.wish (I : Inv X pins σ H s) (E : Value → Shared → Prop) : Inv (X.wish E) pins σ H s := ⟨I.ok.wish E, I.os, I.bare, I.base, I.loc, I.cell, I.free, I.freeC, I.pin, I.hok, I.len⟩
theorem Inv.unwish (I : Inv (X.wish E) pins σ H s) : Inv X pins σ H s := ⟨I.ok.unwish, I.os, I.bare, I.base, I.loc, I.cell, I.free, I.freeC, I.pin, I.hok, I.len⟩
theorem SP.unwish {D : Ends} {f : Flow} {s' : Shared} (h : SP (X.wish E) pins D f s') : SP X pins D f s' := by
  cases f with
  | next => obtain ⟨σ', H', I, q⟩ := h; exact ⟨σ', H', I.unwish, q⟩
  | brk => obtain ⟨σ', H', I, q⟩ := h; exact ⟨σ', H', I.unwish, q⟩
  | cont => obtain ⟨σ', H', I, q⟩ := h; exact ⟨σ', H', I.unwish, q⟩
  | ret u => obtain ⟨v, σ', H', I, r, q⟩ := h; exact ⟨v, σ', H', I.unwish, r, q⟩
theorem PE.nox {e : Expr} {t : TE} (h : PE X.nox e t) : PE X e t := fun pins s σ H Q I hw =>
  wpAny_mono (h pins s σ H Q (I.wish _) hw) (fun _ _ ⟨v, H', I', r, q⟩ => ⟨v, H', I'.unwish, r, q⟩) fun _ _ z => False.elim z
theorem PT.nox {e : Expr} {t : TT} (h : PT X.nox e t) : PT X e t := fun pins s σ H Q I hw =>
  wpAny_mono (h pins s σ H Q (I.wish _) hw) (fun _ _ ⟨H', I', q⟩ => ⟨H', I'.unwish, q⟩) fun _ _ z => False.elim z
theorem PSs.nox {st : List Stmt} {t : TS} (h : PSs X.nox st t) : PSs X st t := fun pins s σ H D I hw =>
  wpAny_mono (h pins s σ H D (I.wish _) hw) (fun _ _ q => q.unwish) fun _ _ z => False.elim z
end

/-! ### blocks and small statements -/
section
variable {X : Cx} {st : Stmt} {rest : List Stmt} {t u : TS} {e : Expr} {te : TE} {pos : Pos}
def tNext : TS := fun D σ H => D.nx σ H
def tSeq (t u : TS) : TS := fun D σ H => t { D with nx := u D } σ H
theorem pss_nil : PSs X [] tNext := fun _ _ σ H _ I h => wpAny_execs_nil ⟨σ, H, I, h⟩
theorem pss_cons (h1 : PS X st t) (h2 : PSs X rest u) : PSs X (st :: rest) (tSeq t u) := by
  intro pins s σ H D I h
  refine wpAny_execs_cons (thn (h1 pins s σ H { D with nx := u D } I h) fun f s1 q => ?_)
  cases f with
  | next =>
    obtain ⟨σ', H', I', q⟩ := q
    exact h2 pins s1 σ' H' D I' q
  | ret v => exact q
  | brk => exact q
  | cont => exact q
theorem pss_one (h1 : PS X st t) : PSs X [st] t := by
  intro pins s σ H D I h
  refine wpAny_execs_cons (thn (h1 pins s σ H D I h) fun f s1 q => ?_)
  cases f with
  | next => exact wpAny_execs_nil q
  | ret v => exact q
  | brk => exact q
  | cont => exact q
/-- in a def's body nothing is shown -/
theorem Inv.quiet {pins : List (Addr × Obj)} {σ : St} {H : Hp} {s : Shared} (I : Inv X pins σ H s) : interactive X.env = false := by simp [interactive, I.ok.kind]
/-- an expression whose value is dropped -/
def tDrop (te : TE) : TS := fun D σ H => te σ H fun _ H1 => D.nx σ H1
theorem ps_expr (he : PE X e te) (hs : swapsWith e none pos.line X.env = pure false := by rfl) : PS X (.Expr e pos) (tDrop te) := by
  intro pins s σ H D I h
  exact wpAny_Expr_any (thn (he pins s σ H _ I h) fun v s1 ⟨x, H1, I1, r1, q1⟩ => ⟨σ, H1, I1, q1⟩) I.quiet hs
def tRet (te : TE) : TS := fun D σ H => te σ H D.rt
theorem ps_ret (he : PE X e te) : PS X (.Return (some e) pos) (tRet te) := by
  intro pins s σ H D I h
  exact wpAny_Return_some (thn (he pins s σ H _ I h) fun v s1 ⟨x, H1, I1, r1, q1⟩ => ⟨x, σ, H1, I1, r1, q1⟩)
def tIfS (c : TT) (t u : TS) : TS := fun D σ H => c σ H fun b H1 => if b = true then t D σ H1 else u D σ H1
theorem ps_if {c : Expr} {a b : List Stmt} {tc : TT} (hc : PT X c tc) (ha : PSs X a t) (hb : PSs X b u) : PS X (.If c a b pos) (tIfS tc t u) := by
  intro pins s σ H D I h
  refine wpAny_If (thn (hc pins s σ H _ I h) fun d s1 ⟨H1, I1, q1⟩ => ?_)
  cases d with
  | true => exact ha pins s1 σ H1 D I1 q1
  | false => exact hb pins s1 σ H1 D I1 q1
/-- code that the proof never comes to -/
def tNever : TS := fun _ _ _ => False
theorem ps_never : PS X st tNever := fun _ _ _ _ _ _ h => h.elim
end

/-! ### targets -/
abbrev TG := V → St → Hp → (St → Hp → Prop) → Prop
abbrev TGs := List V → St → Hp → (St → Hp → Prop) → Prop
def PG (X : Cx) (target : Expr) (t : TG) : Prop :=
  ∀ (pins : List (Addr × Obj)) (s : Shared) (σ : St) (H : Hp) (v : V) (u : Value) (Q : St → Hp → Prop), Inv X pins σ H s → RelV v u → t v σ H Q →
    wpAny (model X.prog X.w) X.A (assign target X.env u) (fun _ s' => ∃ σ' H', Inv X pins σ' H' s' ∧ Q σ' H') X.xe s
/-- several targets, one after another -/
def PGs (X : Cx) (ts : List Expr) (t : TGs) : Prop :=
  ∀ (pins : List (Addr × Obj)) (s : Shared) (σ : St) (H : Hp) (vs : List V) (us : List Value) (Q : St → Hp → Prop), Inv X pins σ H s → Vals vs us → t vs σ H Q →
    wpAny (model X.prog X.w) X.A (assignInOrder ((assignEach ts X.env).map (·.2)) us) (fun _ s' => ∃ σ' H', Inv X pins σ' H' s' ∧ Q σ' H') X.xe s
/-- o[i] = v, by values -/
abbrev TSet := V → V → V → Hp → (Hp → Prop) → Prop
def PSet (X : Cx) (t : TSet) : Prop :=
  ∀ (pins : List (Addr × Obj)) (s : Shared) (σ : St) (H : Hp) (o i v : V) (ov iv u : Value) (Q : Hp → Prop), Inv X pins σ H s → RelV o ov → RelV i iv → RelV v u → t o i v H Q →
    wpAny (model X.prog X.w) X.A (setItem ov iv u) (fun _ s' => ∃ H', Inv X pins σ H' s' ∧ Q H') X.xe s
section
variable {X : Cx} {pos : Pos}
def gName (i : Nat) : TG := fun v σ H Q => Q (σ.set i (some v)) H
theorem pg_name {i : Nat} {x : Str} (hN : X.N.Nodup) (hi : X.N[i]? = some x) (hx : Loc X.env.scope x) (hf : X.fn x = true ∨ X.env.scope.names.lookup x = some .local := by first | exact .inl rfl | exact .inr rfl | assumption) : PG X (.Name x pos) (gName i) := by
  intro pins s σ H v u Q I r h
  exact wpAny_assign_Name (store_ok I hN hi hx r (fun s' I' => ⟨_, H, I', h⟩) hf)
def gNil : TGs := fun vs σ H Q => vs = [] ∧ Q σ H
def gCons (t : TG) (u : TGs) : TGs := fun vs σ H Q => ∃ v r, vs = v :: r ∧ t v σ H fun σ' H' => u r σ' H' Q
theorem pgs_nil : PGs X [] gNil := by
  intro pins s σ H vs us Q I r h
  obtain ⟨e, h⟩ := h
  subst e
  cases r
  exact assignInOrder_nil ⟨σ, H, I, h⟩
theorem pgs_cons {e : Expr} {es : List Expr} {t : TG} {u : TGs} (h1 : PG X e t) (h2 : PGs X es u)
    (hs : (assignEach (e :: es) X.env).map (·.2) = assign e X.env :: (assignEach es X.env).map (·.2) := by rfl) : PGs X (e :: es) (gCons t u) := by
  intro pins s σ H vs us Q I r h
  obtain ⟨v, vr, e1, h⟩ := h
  subst e1
  cases r with
  | cons r rr =>
    rw [hs]
    refine assignInOrder_cons (thn (h1 pins s σ H _ _ _ I r h) fun _ s1 ⟨σ1, H1, I1, q1⟩ => ?_)
    exact h2 pins s1 σ1 H1 _ _ Q I1 rr q1
/-- (a, b, ..) = a tuple of that length -/
def gTup (K : PySem.W.Frag) (n : Nat) (t : TGs) : TG := fun v σ H Q => ∃ a xs, v = .ref a ∧ SqT K H a xs ∧ xs.length = n ∧ t xs σ H Q
theorem pg_tup {es : List Expr} {k : Nat} {t : TGs} {n : Nat} (hc : X.calm = true) (h : PGs X es t)
    (hn : (assignEach es X.env).length = n := by rfl) (hst : (assignEach es X.env).findIdx? (·.1) = none := by rfl) : PG X (.Tuple es k pos) (gTup X.K n t) := by
  intro pins s σ H v u Q I r hw
  obtain ⟨a, xs, e1, hq, hl, hw⟩ := hw
  subst e1
  cases r
  obtain ⟨its, rv, ht, hz⟩ := I.tuple hq
  refine assign_Tuple_tuple (I.ok.hd hc) ht (by simp [hn, ← hl, rv.length]) hst fun h' hx => ?_
  have I1 : Inv X pins σ H { s with heap := h' } := I.kept (t' := s.toks) fun b o e => hx b o (Nat.ne_of_lt (Heap.lt_size e)) e
  exact h pins _ σ H xs _ Q I1 (by simpa using rv) hw
/-- o[i] = .. -/
def gSub (to ti : TE) (t : TSet) : TG := fun v σ H Q => to σ H fun o H1 => ti σ H1 fun i H2 => t o i v H2 fun H3 => Q σ H3
theorem pg_sub {o i : Expr} {to ti : TE} {t : TSet} (ho : PE X o to) (hi : PE X i ti) (hs : PSet X t)
    (ha : ∀ v, assign (.Subscript o i pos) X.env v = (do
      let ov ← holding [v] (eval o X.env)
      let iv ← holding [v, ov] (eval i X.env)
      standAt pos
      holding [v, ov, iv] (setItem ov iv v)
      release [v, ov, iv] []) := by intro _; rfl) : PG X (.Subscript o i pos) (gSub to ti t) := by
  intro pins s σ H v u Q I r h
  rw [ha]
  refine wpAny_bind (wpAny_holding (thn (ho pins s σ H _ I h) fun ov s1 ⟨x, H1, I1, r1, q1⟩ => ?_))
  refine wpAny_bind (wpAny_holding (thn (hi pins s1 σ H1 _ I1 q1) fun iv s2 ⟨y, H2, I2, r2, q2⟩ => ?_))
  refine wpAny_bind (wpAny_standAt (wpAny_bind (wpAny_holding (thn (hs pins s2 σ H2 x y v ov iv u _ I2 r1 r2 r q2) fun _ s3 ⟨H3, I3, q3⟩ => ?_))))
  exact wpAny_release ⟨σ, H3, I3, q3⟩
/-- target = value -/
def tAsg (te : TE) (g : TG) : TS := fun D σ H => te σ H fun x H1 => g x σ H1 D.nx
theorem ps_asg {tg e : Expr} {te : TE} {g : TG} (he : PE X e te) (hg : PG X tg g) (hs : swapsWithSole [tg] e pos.line X.env = pure false := by rfl) (hw : swappedStores [tg] e X.env = pure none := by rfl)
    (h1 : (assignEach [tg] X.env).map (·.2) = [assign tg X.env] := by rfl) : PS X (.Assign [tg] e pos) (tAsg te g) := by
  intro pins s σ H D I h
  refine wpAny_Assign_stores (thn (he pins s σ H _ I h) fun v s1 ⟨x, H1, I1, r1, q1⟩ => ?_) hs hw
  rw [h1]
  exact thn (hg pins s1 σ H1 x v _ I1 r1 q1) fun _ s2 q => q
/-- name = value -/
theorem ps_set {i : Nat} {x : Str} {e : Expr} {te : TE} {pos' : Pos} (hN : X.N.Nodup) (hi : X.N[i]? = some x) (hx : Loc X.env.scope x) (he : PE X e te) (hs : swapsWith e (some (.Name x pos')) pos.line X.env = pure false := by rfl) (hf : X.fn x = true ∨ X.env.scope.names.lookup x = some .local := by first | exact .inl rfl | exact .inr rfl | assumption) :
    PS X (.Assign [.Name x pos'] e pos) (tAsg te (gName i)) := by
  intro pins s σ H D I h
  refine wpAny_Assign_Name (thn (he pins s σ H _ I h) fun v s1 ⟨y, H1, I1, r1, q1⟩ => ?_) hs
  exact store_ok I1 hN hi hx r1 (fun s2 I2 => ⟨_, H1, I2, q1⟩) hf
end

/-! ### while -/
section
variable {X : Cx} {pos : Pos}
/-- the invariant W with its measure -/
def tWhile (c : TT) (tb : TS) : TS := fun D σ H => ∃ W : Nat → St → Hp → Prop, (∃ m, W m σ H) ∧ ∀ m σ H, W m σ H →
  c σ H fun b H1 => if b = true then ∃ N : St → Hp → Prop, (∀ σ' H', N σ' H' → ∃ m', m' < m ∧ W m' σ' H') ∧ tb { D with nx := N, ct := N, bk := D.nx } σ H1 else D.nx σ H1
theorem ps_while {c : Expr} {body : List Stmt} {tc : TT} {tb : TS} (hp : PassesOwn (model X.prog X.w) X.A X.env X.xe) (hc : PT X c tc) (hb : PSs X body tb) : PS X (.While c body [] pos) (tWhile tc tb) := by
  intro pins s σ H D I h
  obtain ⟨W, ⟨m0, w0⟩, turn⟩ := h
  refine wpAny_While (codeAny_whileLoop (fun n s' => ∃ σ' H', Inv X pins σ' H' s' ∧ W n σ' H') ?_ m0 ⟨σ, H, I, w0⟩)
  rintro n s1 ⟨σ1, H1, I1, w1⟩
  refine wpAny_passesOwn hp (thn (hc pins s1 σ1 H1 _ I1 (turn n σ1 H1 w1)) fun b s2 ⟨H2, I2, q2⟩ => ?_)
  cases b with
  | true =>
    obtain ⟨N, hN, q2⟩ := q2
    rw [if_pos rfl]
    refine wpAny_passesOwn hp (thn (hb pins s2 σ1 H2 _ I2 q2) fun f s3 q3 => ?_)
    cases f with
    | next =>
      obtain ⟨σ3, H3, I3, n3⟩ := q3
      obtain ⟨m', hm, w3⟩ := hN σ3 H3 n3
      exact ⟨m', hm, σ3, H3, I3, w3⟩
    | cont =>
      obtain ⟨σ3, H3, I3, n3⟩ := q3
      obtain ⟨m', hm, w3⟩ := hN σ3 H3 n3
      exact ⟨m', hm, σ3, H3, I3, w3⟩
    | brk => exact q3
    | ret v => exact q3
  | false =>
    rw [if_neg Bool.false_ne_true]
    exact wpAny_execs_nil ⟨σ1, H2, I2, q2⟩
end

/-! ### what a loop or a comprehension walks -/
/-- at turn i: it yields x (the heap may grow), or it stops -/
structure It where
  go : Nat → Hp → Prop
  yld : Nat → Hp → V → Hp → Prop
  stop : Nat → Hp → Prop
/-- the iterator's own objects may turn: they are not the frame's, not pinned, younger than the entry (or a comprehension's own) -/
def FpOk (X : Cx) (pins : List (Addr × Obj)) (H : Hp) (b : Addr) : Prop :=
  H b = none ∧ b ≠ X.env.locals ∧ b ∉ X.fs ∧ (b ∈ X.ex ∨ X.s_0.heap.objs.size ≤ b) ∧ (∀ x c, X.env.cells.lookup x = some c → c ≠ b) ∧ ∀ p ∈ X.pn ++ pins, p.1 ≠ b
theorem Inv.fpOk {X : Cx} {pins : List (Addr × Obj)} {σ : St} {H H' : Hp} {s : Shared} {b : Addr} (I : Inv X pins σ H s) (hb : s.heap.objs.size ≤ b) (hn : H' b = none) : FpOk X pins H' b := by
  refine ⟨hn, Nat.ne_of_gt (Nat.lt_of_lt_of_le I.lt hb), I.nofs hb, .inr (Nat.le_trans I.sz hb), fun x c e z => ?_, fun p hp z => ?_⟩
  · obtain ⟨v, q⟩ := I.cell x c e
    exact absurd (Nat.lt_of_lt_of_le q.lt (by rw [z]; exact hb)) (Nat.lt_irrefl _)
  · exact absurd (Nat.lt_of_lt_of_le (Heap.lt_size (I.pin p hp).1) (by rw [z]; exact hb)) (Nat.lt_irrefl _)
structure Turn (P : Program) (w : World) (K : PySem.W.Frag) (tg : Expr) (J : It) (fp : List Addr) (it : Addr) (tn : Nat → Heap → Prop) : Prop where
  mem : it ∈ fp
  obj : ∀ i h, tn i h → ∀ b ∈ fp, ∃ o, h.get? b = some o ∧ ∀ v, o.data ≠ .cell v
  keep : ∀ i h h', tn i h → (∀ b ∈ fp, ∀ o, h.get? b = some o → h'.get? b = some o) → tn i h'
  item : ∀ (X : Cx), X.prog = P → X.w = w → X.K = K → X.calm = true → ∀ (i : Nat) (pins : List (Addr × Obj)) (s : Shared) (σ : St) (H : Hp) (E : Value → Shared → Prop), Inv X pins σ H s → (∀ b ∈ fp, FpOk X pins H b) → tn i s.heap → J.go i H →
    wpAny (model P w) X.A (pyNext (.ref it)) (fun r s1 => ∃ u, r = some u ∧
      wpAny (model P w) X.A (letOwnedTupleGo tg (.ref it) u) (fun _ s2 => ∃ x H', Inv X pins σ H' s2 ∧ RelV x u ∧ J.yld i H x H' ∧ tn (i + 1) s2.heap ∧ ∀ b ∈ fp, H' b = none) E s1) E s
  done : ∀ (X : Cx), X.prog = P → X.w = w → X.K = K → X.calm = true → ∀ (i : Nat) (pins : List (Addr × Obj)) (s : Shared) (σ : St) (H : Hp) (E : Value → Shared → Prop), Inv X pins σ H s → (∀ b ∈ fp, FpOk X pins H b) → tn i s.heap → J.stop i H →
    wpAny (model P w) X.A (pyNext (.ref it)) (fun r s1 => r = none ∧ Inv X pins σ H s1) E s
  self : ∀ (A : Around) (i : Nat) (s : Shared) (Q : Value → Shared → Prop) (E : Value → Shared → Prop), tn i s.heap → Q (.ref it) s → wpAny (model P w) A (pyIter (.ref it)) Q E s
abbrev TI := St → Hp → (It → Hp → Prop) → Prop
/-- an iterator has come -/
def PIE (X : Cx) (pins : List (Addr × Obj)) (σ : St) (tg : Expr) (R : It → Hp → Prop) (itv : Value) (s2 : Shared) : Prop :=
  ∃ (it : Addr) (fp : List Addr) (tn : Nat → Heap → Prop) (J : It) (H' : Hp), itv = .ref it ∧ Inv X pins σ H' s2 ∧ Turn X.prog X.w X.K tg J fp it tn ∧ tn 0 s2.heap ∧ (∀ b ∈ fp, FpOk X pins H' b) ∧ R J H'
def PI (X : Cx) (tg iter : Expr) (wi : TI) : Prop :=
  ∀ (pins : List (Addr × Obj)) (s : Shared) (σ : St) (H : Hp) (R : It → Hp → Prop), Inv X pins σ H s → wi σ H R →
    wpAny (model X.prog X.w) X.A (eval iter X.env) (fun v s1 => wpAny (model X.prog X.w) X.A (pyIter v) (PIE X pins σ tg R) X.xe s1) X.xe s

/-- the step ahead of the store is nothing for an iterator that keeps no tuple -/
theorem go_of {M : Model} {A : Around} {E : Value → Shared → Prop} {s : Shared} {tg : Expr} {it : Addr} {u : Value} {o : Obj} {n : String} {vs : Array Value} {Q : Unit → Shared → Prop} (ho : s.heap.get? it = some o) (hc : o.cls = .type n) (hd : o.data = .fields vs)
    (hn : ["enumerate", "zip", "dict_itemiterator", "dict_reverseitemiterator", "odict_iterator", "itertools.zip_longest", "itertools.pairwise"].contains n = false) (hQ : Q () s) : wpAny M A (letOwnedTupleGo tg (.ref it) u) Q E s := by
  unfold letOwnedTupleGo
  cases tg <;> first
    | exact wpAny_pure hQ
    | (cases u <;> first
        | exact wpAny_pure hQ
        | (refine wpAny_bind (wpAny_load ho ?_)
           rw [hc, hd]
           show wpAny M A (if (["enumerate", "zip", "dict_itemiterator", "dict_reverseitemiterator", "odict_iterator", "itertools.zip_longest", "itertools.pairwise"].contains n && vs[0]? == some (rawInt _)) = true then _ else _) Q E s
           rw [if_neg (by intro h; rw [hn, Bool.false_and] at h; cases h)]
           exact wpAny_pure hQ))

/-- the list at a, as it stands at each turn (a loop may append to it) -/
def Itl (K : PySem.W.Frag) (a : Addr) : It :=
  ⟨fun i H => ∃ xs x, SqL K H a xs ∧ xs[i]? = some x, fun i H x H' => H' = H ∧ ∀ xs, SqL K H a xs → xs[i]? = some x, fun i H => ∃ xs, SqL K H a xs ∧ xs.length ≤ i⟩
/-- lo, lo + 1, .. (n of them) -/
def Itr (lo : Int) (n : Nat) : It := ⟨fun i _ => i < n, fun i H x H' => H' = H ∧ x = .int (lo + i), fun i _ => n ≤ i⟩
theorem turn_list {P : Program} {w : World} {K : PySem.W.Frag} {tg : Expr} (a it : Addr) : Turn P w K tg (Itl K a) [it] it (fun i h => h.IsListIter it a i) where
  mem := by simp
  obj := fun i h st b hb => by
    have e : b = it := by simpa using hb
    subst e
    obtain ⟨o, e, c, d⟩ := st
    exact ⟨o, e, fun v z => by rw [d] at z; cases z⟩
  keep := fun i h h' st k => st.at fun o e => k it (by simp) o e
  item := by
    intro X hP hw hK hc i pins s σ H E I hf st hg
    subst hP hw hK
    obtain ⟨xs, x, hq, hx⟩ := hg
    obtain ⟨its, rv, p, hz⟩ := I.list hq
    obtain ⟨u, hu, ru⟩ := rv.get hx
    obtain ⟨f0, f1, f2, f3, f4, f5⟩ := hf it (by simp)
    refine wpAny_pyNext_list_item st p.isList (x := u) (by simpa using hu) fun h' st' sb => ?_
    have I1 : Inv X pins σ H { s with heap := h' } := I.turned (t' := s.toks) (fun b o hb e => (sb.2 b hb).trans e) f0 f1 f3 f4 f5
    obtain ⟨o, e, c, d⟩ := id st'
    exact ⟨u, rfl, go_of (s := { s with heap := h' }) e c d (by decide) ⟨x, H, I1, ru, ⟨rfl, fun ys hy => by rw [I.list_inj hy hq]; exact hx⟩, st', fun b hb => (hf b hb).1⟩⟩
  done := by
    intro X hP hw hK hc i pins s σ H E I hf st hg
    subst hP hw hK
    obtain ⟨xs, hq, hx⟩ := hg
    obtain ⟨its, rv, p, hz⟩ := I.list hq
    obtain ⟨f0, f1, f2, f3, f4, f5⟩ := hf it (by simp)
    have hl := rv.length
    exact wpAny_pyNext_list_end (I.ok.hd hc) st p.isList (by simp; omega) fun h' eb => ⟨rfl, I.turned (t' := s.toks) (fun b o hb e => eb b o hb e) f0 f1 f3 f4 f5⟩
  self := fun _ _ _ _ _ st h => wpAny_pyIter_listiter st h
theorem turn_range {P : Program} {w : World} {K : PySem.W.Frag} {tg : Expr} (it : Addr) (lo : Int) (n : Nat) : Turn P w K tg (Itr lo n) [it] it (fun i h => IsRangeIter h it (lo + (i : Nat) * 1) ((n : Int) - (i : Nat)) 1) where
  mem := by simp
  obj := fun i h st b hb => by
    have e : b = it := by simpa using hb
    subst e
    exact ⟨_, st, fun v z => by
      have z' : Data.fields _ = Data.cell v := z
      cases z'⟩
  keep := fun i h h' st k => k it (by simp) _ st
  item := by
    intro X hP hw hK hc i pins s σ H E I hf st hg
    subst hP hw hK
    obtain ⟨f0, f1, f2, f3, f4, f5⟩ := hf it (by simp)
    have W := Walks.range (prog := X.prog) (w := X.w) (I.ok.hd hc) it lo 1 n
    refine W.item i s _ _ hg st fun v h' tk hv st' kk => ?_
    obtain ⟨t, rfl⟩ := hv
    have I1 : Inv X pins σ H { s with heap := h', toks := tk } := I.turned (fun b o hb e => kk b o (by simpa using hb) e) f0 f1 f3 f4 f5
    refine ⟨_, rfl, go_of (s := { s with heap := h', toks := tk }) (n := "range_iterator") st' rfl rfl (by decide) ⟨.int (lo + i), H, I1, ⟨t, ?_⟩, ⟨rfl, rfl⟩, st', fun b hb => (hf b hb).1⟩⟩
    rw [Int.mul_one]
  done := by
    intro X hP hw hK hc i pins s σ H E I hf st hg
    subst hP hw hK
    obtain ⟨f0, f1, f2, f3, f4, f5⟩ := hf it (by simp)
    exact wpAny_pyNext_range_end (I.ok.hd hc) st (by have : n ≤ i := hg; omega) fun h' eb => ⟨rfl, I.turned (t' := s.toks) (fun b o hb e => eb b o hb e) f0 f1 f3 f4 f5⟩
  self := fun _ _ _ _ _ st h => wpAny_pyIter_rangeiter st h
end L2

namespace L2
open PySem PySem.Spec PyProof.Rows
section
variable {X : Cx} {tg : Expr}
def iList (K : PySem.W.Frag) (tl : TE) : TI := fun σ H R => tl σ H fun x H1 => ∃ a, x = .ref a ∧ (∃ xs, SqL K H1 a xs) ∧ R (Itl K a) H1
theorem pi_list {l : Expr} {tl : TE} (hl : PE X l tl) : PI X tg l (iList X.K tl) := by
  intro pins s σ H R I h
  refine thn (hl pins s σ H _ I h) fun v s1 ⟨x, H1, I1, r1, q1⟩ => ?_
  obtain ⟨a, e, ⟨xs, hq⟩, q⟩ := q1
  subst e
  cases r1
  obtain ⟨its, rv, p, hz⟩ := I1.list hq
  refine wpAny_pyIter_list p.isList ?_
  refine ⟨s1.heap.objs.size, [s1.heap.objs.size], _, _, H1, rfl, I1.kept (t' := s1.toks) fun b o e => Heap.get?_push_of_some _ e, turn_list a _, ⟨_, Heap.get?_push_size _ rfl, rfl, rfl⟩, fun b hb => ?_, q⟩
  have e : b = s1.heap.objs.size := by simpa using hb
  subst e
  exact I1.fpOk (Nat.le_refl _) (I1.hok.fresh (Nat.le_refl _))
/-- a range object just made, walked -/
theorem range_it {pins : List (Addr × Obj)} {σ : St} {H : Hp} {s : Shared} {R : It → Hp → Prop} {E : Value → Shared → Prop} {lo hi : Int} {t u v : Tok} {tk : Nat} (I : Inv X pins σ H s) (h1 : -(2 ^ 62) ≤ lo) (h2 : lo < 2 ^ 62) (h3 : -(2 ^ 62) ≤ hi) (h4 : hi < 2 ^ 62)
    (q : R (Itr lo (hi - lo).toNat) H) : wpAny (model X.prog X.w) X.A (pyIter (.ref s.heap.objs.size)) (PIE X pins σ tg R) E { s with heap := s.heap.push { cls := .type "range", data := .fields #[.int lo t, .int hi u, .int 1 v] }, toks := tk } := by
  refine wpAny_pyIter_range (IsRange.new ..) (small_one h1 h2 h3 h4) ?_
  have I1 : Inv X pins σ H { s with heap := s.heap.push { cls := .type "range", data := .fields #[.int lo t, .int hi u, .int 1 v] }, toks := tk } := I.kept fun b o e => Heap.get?_push_of_some _ e
  refine ⟨(s.heap.push { cls := .type "range", data := .fields #[.int lo t, .int hi u, .int 1 v] }).objs.size, [(s.heap.push { cls := .type "range", data := .fields #[.int lo t, .int hi u, .int 1 v] }).objs.size], _, _, H, rfl,
    I1.kept (t' := tk) fun b o e => Heap.get?_push_of_some _ e, turn_range _ lo (hi - lo).toNat, ?_, fun b hb => ?_, q⟩
  · have e1 : lo + ((0 : Nat) : Int) * 1 = lo := by simp
    have e2 : (((hi - lo).toNat : Nat) : Int) - ((0 : Nat) : Int) = Builtin.Range.rangeSize lo hi 1 := by rw [rangeSize_one]; split <;> omega
    show IsRangeIter _ _ (lo + ((0 : Nat) : Int) * 1) ((((hi - lo).toNat : Nat) : Int) - ((0 : Nat) : Int)) 1
    rw [e1, e2]
    exact Heap.get?_push_size _ rfl
  · have e : b = (s.heap.push { cls := .type "range", data := .fields #[.int lo t, .int hi u, .int 1 v] }).objs.size := by simpa using hb
    subst e
    exact I1.fpOk (Nat.le_refl _) (I1.hok.fresh (Nat.le_refl _))
def iRng1 (ta : TA) : TI := fun σ H R => ta σ H fun vs H1 => ∃ j : Int, vs = [.int j] ∧ -(2 ^ 62) ≤ j ∧ j < 2 ^ 62 ∧ R (Itr 0 j.toNat) H1
def iRng2 (ta : TA) : TI := fun σ H R => ta σ H fun vs H1 => ∃ i j : Int, vs = [.int i, .int j] ∧ (-(2 ^ 62) ≤ i ∧ i < 2 ^ 62 ∧ -(2 ^ 62) ≤ j ∧ j < 2 ^ 62) ∧ R (Itr i (j - i).toNat) H1
theorem pi_range1 {a : Expr} {ta : TA} {p pos : Pos} (hg : Gl X "range") (hm : X.mg "range" = none) (ha : PA X [a] ta) (hs : starEach [a] X.env = [(false, eval a X.env)] := by rfl) : PI X tg (.Call (.Name "range" p) [a] [] pos) (iRng1 ta) := by
  intro pins s σ H R I h
  refine Call_ (ld_blt I hg hm boot_range (PyProof.Rows.callWith_type1 (thn (ha pos pins s σ H _ I h) fun us s1 ⟨vs, H1, I1, r1, q1⟩ => ?_) hs rfl))
  obtain ⟨j, e, q1, q2, q⟩ := q1
  subst e
  cases r1 with
  | cons r rr =>
    cases rr
    obtain ⟨t, rfl⟩ := r
    exact call_range_1 (range_it I1 (by omega) (by omega) q1 q2 (by simpa using q))
theorem pi_range2 {a b : Expr} {ta : TA} {p pos : Pos} (hg : Gl X "range") (hm : X.mg "range" = none) (ha : PA X [a, b] ta) (hs : starEach [a, b] X.env = [(false, eval a X.env), (false, eval b X.env)] := by rfl) (hs2 : starEach [b] X.env = [(false, eval b X.env)] := by rfl) :
    PI X tg (.Call (.Name "range" p) [a, b] [] pos) (iRng2 ta) := by
  intro pins s σ H R I h
  refine Call_ (ld_blt I hg hm boot_range (PyProof.Rows.callWith_type1 (thn (ha pos pins s σ H _ I h) fun us s1 ⟨vs, H1, I1, r1, q1⟩ => ?_) (by rw [hs, hs2]) (by rw [hs2]; rfl)))
  obtain ⟨i, j, e, ⟨q1, q2, q3, q4⟩, q⟩ := q1
  subst e
  cases r1 with
  | cons r rr =>
    cases rr with
    | cons r' rr =>
      cases rr
      obtain ⟨t, rfl⟩ := r
      obtain ⟨t', rfl⟩ := r'
      exact call_range_2 (range_it I1 q1 q2 q3 q4 q)

/-! ### for -/
/-- W: the invariant by the turn and a measure; N: what the body is to reach -/
def tFor (wi : TI) (g : TG) (tb : TS) : TS := fun D σ H => wi σ H fun J H1 => ∃ W : Nat → Nat → St → Hp → Prop, (∃ m, W 0 m σ H1) ∧ ∀ i m σ H, W i m σ H →
  (J.stop i H ∧ D.nx σ H) ∨ (J.go i H ∧ ∃ N : St → Hp → Prop, (∀ σ' H', N σ' H' → ∃ m', m' < m ∧ W (i + 1) m' σ' H') ∧ ∀ x H', J.yld i H x H' → g x σ H' fun σ2 H2 => tb { D with nx := N, ct := N, bk := D.nx } σ2 H2)
/-- the records at fp as they stand -/
def pinsAt (fp : List Addr) (h : Heap) : List (Addr × Obj) := fp.filterMap fun b => (h.get? b).map fun o => (b, o)
theorem mem_pinsAt {fp : List Addr} {h : Heap} {b : Addr} {o : Obj} (hb : b ∈ fp) (e : h.get? b = some o) : (b, o) ∈ pinsAt fp h := List.mem_filterMap.mpr ⟨b, hb, by rw [e]; rfl⟩
theorem of_pinsAt {fp : List Addr} {h : Heap} {p : Addr × Obj} (hp : p ∈ pinsAt fp h) : p.1 ∈ fp ∧ h.get? p.1 = some p.2 := by
  obtain ⟨b, hb, e⟩ := List.mem_filterMap.mp hp
  cases q : h.get? b with
  | none => rw [q] at e; cases e
  | some o =>
    rw [q] at e
    have e' : (b, o) = p := Option.some.inj e
    subst e'
    exact ⟨hb, q⟩
theorem Inv.pinned {pins : List (Addr × Obj)} {σ : St} {H : Hp} {s : Shared} {fp : List Addr} (I : Inv X pins σ H s) (hf : ∀ b ∈ fp, FpOk X pins H b) (ho : ∀ b ∈ fp, ∃ o, s.heap.get? b = some o ∧ ∀ v, o.data ≠ .cell v) : Inv X (pins ++ pinsAt fp s.heap) σ H s :=
  I.pins_of fun p hp => (List.mem_append.mp hp).elim (fun z => I.pin p (List.mem_append_right _ z)) fun z => by
    obtain ⟨hb, e⟩ := of_pinsAt z
    obtain ⟨f0, f1, f2, _⟩ := hf p.1 hb
    obtain ⟨o, e', d⟩ := ho p.1 hb
    rw [e] at e'; cases e'
    exact ⟨e, f0, f1, f2, d⟩
theorem Inv.unpinned {pins pl : List (Addr × Obj)} {σ : St} {H : Hp} {s : Shared} (I : Inv X (pins ++ pl) σ H s) : Inv X pins σ H s := I.pins_of fun p hp => I.pin p (List.mem_append_right _ (List.mem_append_left _ hp))
theorem ps_for {iter : Expr} {body : List Stmt} {wi : TI} {g : TG} {tb : TS} {pos : Pos} (hp : PassesOwn (model X.prog X.w) X.A X.env X.xe) (hc : X.calm = true) (hi : PI X tg iter wi) (hg : PG X tg g) (hb : PSs X body tb)
    (hs : ∀ x, foldedSetIterable iter X.env x = pure x := by intro _; rfl) : PS X (.For tg iter body [] pos) (tFor wi g tb) := by
  intro pins s σ H D I h
  refine wpAny_For (thn (hi pins s σ H _ I h) fun v s1 h1 => thn h1 fun itv s2 h2 => ?_) hs
  obtain ⟨it, fp, tn, J, H2, e, I2, T, st2, f2, W, ⟨m0, w0⟩, turn⟩ := h2
  subst e
  -- what stays true of the iterator's objects through the loop
  have stat : ∀ {H' : Hp}, (∀ b ∈ fp, H' b = none) → ∀ b ∈ fp, FpOk X pins H' b := fun hn b hb => ⟨hn b hb, (f2 b hb).2⟩
  refine codeAny_forLoop_any (fun n s' => ∃ i σ' H', Inv X pins σ' H' s' ∧ tn i s'.heap ∧ (∀ b ∈ fp, H' b = none) ∧ W i n σ' H') ?_ m0 ⟨0, σ, H2, I2, st2, fun b hb => (f2 b hb).1, w0⟩
  rintro n s3 ⟨i, σ3, H3, I3, st3, fr3, w3⟩
  rcases turn i n σ3 H3 w3 with ⟨stop, qn⟩ | ⟨go, N, hN, step⟩
  · refine wpAny_passesOwn hp (thn (T.done X rfl rfl rfl hc i pins s3 σ3 H3 X.xe I3 (stat fr3) st3 stop) fun r s4 ⟨hr, I4⟩ => ?_)
    subst hr
    exact wpAny_execs_nil ⟨σ3, H3, I4, qn⟩
  · refine wpAny_passesOwn hp (thn (T.item X rfl rfl rfl hc i pins s3 σ3 H3 X.xe I3 (stat fr3) st3 go) fun r s4 ⟨u, hr, h4⟩ => ?_)
    subst hr
    refine wpAny_passesOwn hp (thn h4 fun _ s5 ⟨x, H5, I5, r5, y5, st5, fr5⟩ => ?_)
    have I5' := I5.pinned (stat fr5) (T.obj _ _ st5)
    refine wpAny_passesOwn hp (thn (hg _ s5 σ3 H5 x u _ I5' r5 (step x H5 y5)) fun _ s6 ⟨σ6, H6, I6, q6⟩ => ?_)
    refine wpAny_passesOwn hp (thn (hb _ s6 σ6 H6 _ I6 q6) fun f s7 q7 => ?_)
    have again : ∀ {σ7 : St} {H7 : Hp}, Inv X (pins ++ pinsAt fp s5.heap) σ7 H7 s7 → N σ7 H7 → ∃ m, m < n ∧ ∃ i σ' H', Inv X pins σ' H' s7 ∧ tn i s7.heap ∧ (∀ b ∈ fp, H' b = none) ∧ W i m σ' H' := fun {σ7 H7} I7 n7 => by
      obtain ⟨m', hm, w7⟩ := hN σ7 H7 n7
      refine ⟨m', hm, i + 1, σ7, H7, I7.unpinned, T.keep _ _ _ st5 fun b hb o e => (I7.pin (b, o) (List.mem_append_right _ (List.mem_append_right _ (mem_pinsAt hb e)))).1, fun b hb => ?_, w7⟩
      obtain ⟨o, e, d⟩ := T.obj _ _ st5 b hb
      exact (I7.pin (b, o) (List.mem_append_right _ (List.mem_append_right _ (mem_pinsAt hb e)))).2.1
    cases f with
    | next => obtain ⟨σ7, H7, I7, n7⟩ := q7; exact again I7 n7
    | cont => obtain ⟨σ7, H7, I7, n7⟩ := q7; exact again I7 n7
    | brk => obtain ⟨σ7, H7, I7, q7⟩ := q7; exact ⟨σ7, H7, I7.unpinned, q7⟩
    | ret v => obtain ⟨x7, σ7, H7, I7, r7, q7⟩ := q7; exact ⟨x7, σ7, H7, I7.unpinned, r7, q7⟩
end

/-! ### the forms one uses -/
/-- over a list that the body leaves as it is -/
theorem for_list {K : PySem.W.Frag} {a : Addr} {xs : List V} {g : TG} {tb : TS} {D : Ends} {σ : St} {H : Hp} (Pv : Nat → St → Hp → Prop) (h0 : Pv 0 σ H) (hl : ∀ i σ H, i ≤ xs.length → Pv i σ H → SqL K H a xs)
    (hs : ∀ i x σ H, xs[i]? = some x → Pv i σ H → g x σ H fun σ2 H2 => tb { D with nx := Pv (i + 1), ct := Pv (i + 1), bk := D.nx } σ2 H2) (hd : ∀ σ H, Pv xs.length σ H → D.nx σ H) :
    ∃ W : Nat → Nat → St → Hp → Prop, (∃ m, W 0 m σ H) ∧ ∀ i m σ H, W i m σ H →
      ((Itl K a).stop i H ∧ D.nx σ H) ∨ ((Itl K a).go i H ∧ ∃ N : St → Hp → Prop, (∀ σ' H', N σ' H' → ∃ m', m' < m ∧ W (i + 1) m' σ' H') ∧ ∀ x H', (Itl K a).yld i H x H' → g x σ H' fun σ2 H2 => tb { D with nx := N, ct := N, bk := D.nx } σ2 H2) := by
  refine ⟨fun i m σ H => m = xs.length - i ∧ i ≤ xs.length ∧ Pv i σ H, ⟨xs.length, by simp, Nat.zero_le _, h0⟩, ?_⟩
  rintro i m σ H ⟨rfl, hi, p⟩
  have q := hl i σ H hi p
  by_cases hlt : i < xs.length
  · refine .inr ⟨⟨xs, xs[i], q, by simp [hlt]⟩, Pv (i + 1), fun σ' H' p' => ⟨xs.length - (i + 1), by omega, rfl, hlt, p'⟩, fun x H' y => ?_⟩
    obtain ⟨e, y⟩ := y
    subst e
    exact hs i x σ _ (y xs q) p
  · have e : i = xs.length := by omega
    subst e
    exact .inl ⟨⟨xs, q, Nat.le_refl _⟩, hd σ H p⟩
theorem for_range {lo : Int} {n : Nat} {g : TG} {tb : TS} {D : Ends} {σ : St} {H : Hp} (Pv : Nat → St → Hp → Prop) (h0 : Pv 0 σ H)
    (hs : ∀ i σ H, i < n → Pv i σ H → g (.int (lo + i)) σ H fun σ2 H2 => tb { D with nx := Pv (i + 1), ct := Pv (i + 1), bk := D.nx } σ2 H2) (hd : ∀ σ H, Pv n σ H → D.nx σ H) :
    ∃ W : Nat → Nat → St → Hp → Prop, (∃ m, W 0 m σ H) ∧ ∀ i m σ H, W i m σ H →
      ((Itr lo n).stop i H ∧ D.nx σ H) ∨ ((Itr lo n).go i H ∧ ∃ N : St → Hp → Prop, (∀ σ' H', N σ' H' → ∃ m', m' < m ∧ W (i + 1) m' σ' H') ∧ ∀ x H', (Itr lo n).yld i H x H' → g x σ H' fun σ2 H2 => tb { D with nx := N, ct := N, bk := D.nx } σ2 H2) := by
  refine ⟨fun i m σ H => m = n - i ∧ i ≤ n ∧ Pv i σ H, ⟨n, by simp, Nat.zero_le _, h0⟩, ?_⟩
  rintro i m σ H ⟨rfl, hi, p⟩
  by_cases hlt : i < n
  · refine .inr ⟨hlt, Pv (i + 1), fun σ' H' p' => ⟨n - (i + 1), by omega, rfl, hlt, p'⟩, fun x H' y => ?_⟩
    obtain ⟨e, y⟩ := y
    subst e y
    exact hs i σ _ hlt p
  · have e : i = n := by omega
    subst e
    exact .inl ⟨Nat.le_refl _, hd σ H p⟩
end L2

namespace L2
open PySem PySem.Spec PyProof.Rows

abbrev R2 := V → V → Hp → VK → Prop
/-- a two-place operation on values: f is binaryOp op, inplaceOp op or compareOp op -/
def OpR (X : Cx) (f : Value → Value → Sem Value) (r : R2) : Prop :=
  ∀ (pins : List (Addr × Obj)) (s : Shared) (σ : St) (H : Hp) (x y : V) (v u : Value) (Q : VK), Inv X pins σ H s → RelV x v → RelV y u → r x y H Q →
    wpAny (model X.prog X.w) X.A (f v u) (EP X pins σ Q) X.xe s
/-- a one-place operation -/
def UnR (X : Cx) (f : Value → Sem Value) (r : V → Hp → VK → Prop) : Prop :=
  ∀ (pins : List (Addr × Obj)) (s : Shared) (σ : St) (H : Hp) (x : V) (v : Value) (Q : VK), Inv X pins σ H s → RelV x v → r x H Q →
    wpAny (model X.prog X.w) X.A (f v) (EP X pins σ Q) X.xe s
/-- a call of a value that is known (a builtin, a type) with values -/
def CallR (X : Cx) (f : Value) (r : List V → Hp → VK → Prop) : Prop :=
  ∀ (pins : List (Addr × Obj)) (s : Shared) (σ : St) (H : Hp) (xs : List V) (us : List Value) (Q : VK), Inv X pins σ H s → Vals xs us → r xs H Q →
    wpAny (model X.prog X.w) X.A (call f us) (EP X pins σ Q) X.xe s
def tOp (r : R2) (ta tb : TE) : TE := fun σ H Q => ta σ H fun x H1 => tb σ H1 fun y H2 => r x y H2 Q
def tUn (r : V → Hp → VK → Prop) (ta : TE) : TE := fun σ H Q => ta σ H fun x H1 => r x H1 Q
/-- ints in, under C, and a value out -/
def rI (C : Int → Int → Prop) (g : Int → Int → V) : R2 := fun x y H Q => ∃ i j, x = .int i ∧ y = .int j ∧ C i j ∧ Q (g i j) H
def rI0 (g : Int → Int → V) : R2 := fun x y H Q => ∃ i j, x = .int i ∧ y = .int j ∧ Q (g i j) H
def rU (g : Int → V) : V → Hp → VK → Prop := fun x H Q => ∃ i, x = .int i ∧ Q (g i) H

section
variable {X : Cx} {a b c : Expr} {ta tb tc : TE} {pos : Pos}

theorem binT (ha : PE X a ta) (hb : PE X b tb) {pins : List (Addr × Obj)} {s : Shared} {σ : St} {H : Hp} {R : V → V → Hp → Prop} (I : Inv X pins σ H s)
    (h : ta σ H fun x H1 => tb σ H1 fun y H2 => R x y H2) {Q : Value → Shared → Prop} {f : Value → Value → Sem Value}
    (hf : ∀ v u s2 x y H2, Inv X pins σ H2 s2 → RelV x v → RelV y u → R x y H2 → wpAny (model X.prog X.w) X.A (f v u) Q X.xe s2) :
    wpAny (model X.prog X.w) X.A (eval a X.env) (fun v s₁ => wpAny (model X.prog X.w) X.A (eval b X.env) (fun u s₂ => wpAny (model X.prog X.w) X.A (f v u) Q X.xe s₂) X.xe s₁) X.xe s := by
  refine thn (ha pins s σ H _ I h) fun v s1 ⟨x, H1, I1, r1, q1⟩ => ?_
  refine thn (hb pins s1 σ H1 _ I1 q1) fun u s2 ⟨y, H2, I2, r2, q2⟩ => ?_
  exact hf v u s2 x y H2 I2 r1 r2 q2

theorem pe_op {op : Operator} {r : R2} (ho : OpR X (binaryOp op) r) (ha : PE X a ta) (hb : PE X b tb) : PE X (.BinOp a op b pos) (tOp r ta tb) := by
  intro pins s σ H Q I h
  exact wpAny_BinOp (binT ha hb I h fun v u s2 x y H2 I2 rx ry q => ho pins s2 σ H2 x y v u Q I2 rx ry q)
theorem pe_un {op : UnaryOp} {r : V → Hp → VK → Prop} (ho : UnR X (unaryOp op) r) (ha : PE X a ta) : PE X (.UnaryOp op a pos) (tUn r ta) := by
  intro pins s σ H Q I h
  exact UnaryOp_ (thn (ha pins s σ H _ I h) fun v s1 ⟨x, H1, I1, r1, q1⟩ => ho pins s1 σ H1 x v Q I1 r1 q1)
/-! ### ints -/
theorem opI {f : Value → Value → Sem Value} {C : Int → Int → Prop} {g : Int → Int → Int}
    (rule : ∀ (i j : Int) (t u : Tok) (s : Shared) (Q : Value → Shared → Prop) (E : Value → Shared → Prop), C i j → Q (.int (g i j) s.toks) { s with toks := s.toks + 1 } → wpAny (model X.prog X.w) X.A (f (.int i t) (.int j u)) Q E s) :
    OpR X f (rI C fun i j => .int (g i j)) := by
  intro pins s σ H x y v u Q I rx ry h
  obtain ⟨i, j, rfl, rfl, hc, q⟩ := h
  obtain ⟨t, rfl⟩ := rx
  obtain ⟨t', rfl⟩ := ry
  exact rule i j t t' s _ _ hc ⟨.int (g i j), H, I.tok _, ⟨_, rfl⟩, q⟩
theorem opI0 {f : Value → Value → Sem Value} {g : Int → Int → Int}
    (rule : ∀ (i j : Int) (t u : Tok) (s : Shared) (Q : Value → Shared → Prop) (E : Value → Shared → Prop), Q (.int (g i j) s.toks) { s with toks := s.toks + 1 } → wpAny (model X.prog X.w) X.A (f (.int i t) (.int j u)) Q E s) :
    OpR X f (rI0 fun i j => .int (g i j)) := by
  intro pins s σ H x y v u Q I rx ry h
  obtain ⟨i, j, rfl, rfl, q⟩ := h
  obtain ⟨t, rfl⟩ := rx
  obtain ⟨t', rfl⟩ := ry
  exact rule i j t t' s _ _ ⟨.int (g i j), H, I.tok _, ⟨_, rfl⟩, q⟩
theorem opB0 {f : Value → Value → Sem Value} {g : Int → Int → Bool}
    (rule : ∀ (i j : Int) (t u : Tok) (s : Shared) (Q : Value → Shared → Prop) (E : Value → Shared → Prop), Q (.bool (g i j)) s → wpAny (model X.prog X.w) X.A (f (.int i t) (.int j u)) Q E s) :
    OpR X f (rI0 fun i j => .bl (g i j)) := by
  intro pins s σ H x y v u Q I rx ry h
  obtain ⟨i, j, rfl, rfl, q⟩ := h
  obtain ⟨t, rfl⟩ := rx
  obtain ⟨t', rfl⟩ := ry
  exact rule i j t t' s _ _ ⟨.bl (g i j), H, I, rfl, q⟩

def CDiv (i j : Int) : Prop := 0 < j ∧ j < 1073741824
def CPow (i j : Int) : Prop := 0 ≤ j ∧ j ≤ 1000000 ∧ i.natAbs < 2 ^ 64
def CMul (i j : Int) : Prop := (-(2 ^ 64) < i ∧ i < 2 ^ 64) ∨ (-(2 ^ 64) < j ∧ j < 2 ^ 64)
theorem CMul.ok {i j : Int} (h : CMul i j) : IntMulOk i j := by
  rcases h with ⟨h1, h2⟩ | ⟨h1, h2⟩
  · exact .of_left (intBits_le_64 h1 h2)
  · exact .of_right (intBits_le_64 h1 h2)
theorem op_add : OpR X (binaryOp .Add) (rI0 fun i j => .int (i + j)) := opI0 fun _ _ _ _ _ _ _ q => add_int q
theorem op_sub : OpR X (binaryOp .Sub) (rI0 fun i j => .int (i - j)) := opI0 fun _ _ _ _ _ _ _ q => sub_int q
theorem op_mul : OpR X (binaryOp .Mult) (rI CMul fun i j => .int (i * j)) := opI fun _ _ _ _ _ _ _ hc q => mul_int q hc.ok
/-- // by a positive divisor -/
theorem op_fdiv : OpR X (binaryOp .FloorDiv) (rI CDiv fun i j => .int (i / j)) := opI fun i j _ _ _ _ _ hc q => by
  have h1 : (0 : Int) < j := hc.1
  have h2 : j < 1073741824 := hc.2
  exact floordiv_int (by omega) (by rw [Int.fdiv_eq_ediv_of_nonneg i (by omega)]; exact q) (.inl (PyProof.noPylong_small (by omega)))
/-- % by a positive divisor of any size -/
theorem op_mod : OpR X (binaryOp .Mod) (rI (fun _ j => 0 < j) fun i j => .int (i % j)) := opI fun i j _ _ _ _ _ hc q => by
  have h1 : (0 : Int) < j := hc
  exact mod_int' (by omega) (by rw [Int.fmod_eq_emod_of_nonneg i (by omega)]; exact q)
theorem op_pow : OpR X (binaryOp .Pow) (rI CPow fun i j => .int (i ^ j.toNat)) := opI fun _ _ _ _ _ _ _ hc q => pow_int_small hc.1 hc.2.1 hc.2.2 q
theorem unI {f : Value → Sem Value} {g : Int → Int}
    (rule : ∀ (i : Int) (t : Tok) (s : Shared) (Q : Value → Shared → Prop) (E : Value → Shared → Prop), Q (.int (g i) s.toks) { s with toks := s.toks + 1 } → wpAny (model X.prog X.w) X.A (f (.int i t)) Q E s) :
    UnR X f (rU fun i => .int (g i)) := by
  intro pins s σ H x v Q I rx h
  obtain ⟨i, rfl, q⟩ := h
  obtain ⟨t, rfl⟩ := rx
  exact rule i t s _ _ ⟨.int (g i), H, I.tok _, ⟨_, rfl⟩, q⟩
theorem un_neg : UnR X (unaryOp .USub) (rU fun i => .int (-i)) := unI fun _ _ _ _ _ q => neg_int q
/-! ### bools among ints: n += (a < b) -/
end

/-! ### comparisons -/
/-- the scalars that == tells apart as data does -/
def scal : V → V → Bool
  | .non, .non => true | .non, .int _ => true | .int _, .non => true | .non, .bl _ => true | .bl _, .non => true | .non, .str _ => true | .str _, .non => true
  | .int _, .int _ => true | .bl _, .bl _ => true | .str _, .str _ => true | .byt _, .byt _ => true
  | .int _, .str _ => true | .str _, .int _ => true | .bl _, .str _ => true | .str _, .bl _ => true
  | _, _ => false
def rEq : R2 := fun x y H Q => scal x y = true ∧ Q (.bl (decide (x = y))) H
def rNe : R2 := fun x y H Q => scal x y = true ∧ Q (.bl (!decide (x = y))) H

theorem dec_int {i j : Int} : decide (V.int i = V.int j) = (i == j) := by
  rw [Bool.eq_iff_iff]
  simp
theorem dec_bl {i j : Bool} : decide (V.bl i = V.bl j) = (i == j) := by
  rw [Bool.eq_iff_iff]
  simp
theorem dec_str {i j : Str} : decide (V.str i = V.str j) = (i == j) := by
  rw [Bool.eq_iff_iff]
  simp
theorem dec_byt {i j : Array UInt8} : decide (V.byt i = V.byt j) = (i.toList == j.toList) := by
  rw [Bool.eq_iff_iff]
  cases i
  cases j
  simp

section
variable {X : Cx} {a b c : Expr} {ta tb tc : TE} {pos : Pos}
theorem fin_bl {pins : List (Addr × Obj)} {σ : St} {H : Hp} {s : Shared} {Q : VK} {k k' : Bool} (I : Inv X pins σ H s) (q : Q (.bl k) H) (e : k = k') : EP X pins σ Q (.bool k') s := by
  subst e
  exact ⟨.bl k, H, I, rfl, q⟩
theorem op_eq : OpR X (compareOp .Eq) rEq := by
  intro pins s σ H x y v u Q I rx ry h
  obtain ⟨hs, q⟩ := h
  cases x with
  | non =>
    cases rx
    cases y with
    | non => cases ry; exact PySem.EqNone.eq_none_none (fin_bl I q (by simp))
    | bl j => cases ry; exact PySem.EqNone.eq_none_bool (fin_bl I q (by simp))
    | int j => obtain ⟨t', rfl⟩ := ry; exact PySem.EqNone.eq_none_int (fin_bl I q (by simp))
    | str j => obtain ⟨t', rfl⟩ := ry; exact PySem.EqNone.eq_none_str (fin_bl I q (by simp))
    | _ => exact absurd (show false = true from hs) Bool.false_ne_true
  | bl i =>
    cases rx
    cases y with
    | non => cases ry; exact PySem.EqNone.eq_bool_none (fin_bl I q (by simp))
    | bl j => cases ry; exact eq_bool (fin_bl I q dec_bl)
    | str j => obtain ⟨t', rfl⟩ := ry; exact PySem.EqMixed.eq_bool_str (fin_bl I q (by simp))
    | _ => exact absurd (show false = true from hs) Bool.false_ne_true
  | int i =>
    obtain ⟨t, rfl⟩ := rx
    cases y with
    | non => cases ry; exact PySem.EqNone.eq_int_none (fin_bl I q (by simp))
    | int j => obtain ⟨t', rfl⟩ := ry; exact eq_int (fin_bl I q dec_int)
    | str j => obtain ⟨t', rfl⟩ := ry; exact PySem.EqMixed.eq_int_str (fin_bl I q (by simp))
    | _ => exact absurd (show false = true from hs) Bool.false_ne_true
  | str i =>
    obtain ⟨t, rfl⟩ := rx
    cases y with
    | non => cases ry; exact PySem.EqNone.eq_str_none (fin_bl I q (by simp))
    | bl j => cases ry; exact PySem.EqMixed.eq_str_bool (fin_bl I q (by simp))
    | int j => obtain ⟨t', rfl⟩ := ry; exact PySem.EqMixed.eq_str_int (fin_bl I q (by simp))
    | str j => obtain ⟨t', rfl⟩ := ry; exact eq_str (fin_bl I q dec_str)
    | _ => exact absurd (show false = true from hs) Bool.false_ne_true
  | byt i =>
    obtain ⟨t, rfl⟩ := rx
    cases y with
    | byt j => obtain ⟨t', rfl⟩ := ry; exact PySem.W.eq_bytes (fin_bl I q dec_byt)
    | _ => exact absurd (show false = true from hs) Bool.false_ne_true
  | _ => cases y <;> exact absurd (show false = true from hs) Bool.false_ne_true
theorem op_ne : OpR X (compareOp .NotEq) rNe := by
  intro pins s σ H x y v u Q I rx ry h
  obtain ⟨hs, q⟩ := h
  cases x with
  | non =>
    cases rx
    cases y with
    | non => cases ry; exact PySem.EqNone.ne_none_none (fin_bl I q (by simp))
    | bl j => cases ry; exact PySem.EqNone.ne_none_bool (fin_bl I q (by simp))
    | int j => obtain ⟨t', rfl⟩ := ry; exact PySem.EqNone.ne_none_int (fin_bl I q (by simp))
    | str j => obtain ⟨t', rfl⟩ := ry; exact PySem.EqNone.ne_none_str (fin_bl I q (by simp))
    | _ => exact absurd (show false = true from hs) Bool.false_ne_true
  | bl i =>
    cases rx
    cases y with
    | non => cases ry; exact PySem.EqNone.ne_bool_none (fin_bl I q (by simp))
    | bl j => cases ry; exact ne_bool (fin_bl I q (congrArg not dec_bl))
    | str j => obtain ⟨t', rfl⟩ := ry; exact PySem.EqMixed.ne_bool_str (fin_bl I q (by simp))
    | _ => exact absurd (show false = true from hs) Bool.false_ne_true
  | int i =>
    obtain ⟨t, rfl⟩ := rx
    cases y with
    | non => cases ry; exact PySem.EqNone.ne_int_none (fin_bl I q (by simp))
    | int j => obtain ⟨t', rfl⟩ := ry; exact ne_int (fin_bl I q (congrArg not dec_int))
    | str j => obtain ⟨t', rfl⟩ := ry; exact PySem.EqMixed.ne_int_str (fin_bl I q (by simp))
    | _ => exact absurd (show false = true from hs) Bool.false_ne_true
  | str i =>
    obtain ⟨t, rfl⟩ := rx
    cases y with
    | non => cases ry; exact PySem.EqNone.ne_str_none (fin_bl I q (by simp))
    | bl j => cases ry; exact PySem.EqMixed.ne_str_bool (fin_bl I q (by simp))
    | int j => obtain ⟨t', rfl⟩ := ry; exact PySem.EqMixed.ne_str_int (fin_bl I q (by simp))
    | str j => obtain ⟨t', rfl⟩ := ry; exact ne_str (fin_bl I q (congrArg not dec_str))
    | _ => exact absurd (show false = true from hs) Bool.false_ne_true
  | byt i =>
    obtain ⟨t, rfl⟩ := rx
    cases y with
    | byt j => obtain ⟨t', rfl⟩ := ry; exact PySem.W.ne_bytes (fin_bl I q (congrArg not dec_byt))
    | _ => exact absurd (show false = true from hs) Bool.false_ne_true
  | _ => cases y <;> exact absurd (show false = true from hs) Bool.false_ne_true

theorem op_lt : OpR X (compareOp .Lt) (rI0 fun i j => .bl (decide (i < j))) := opB0 fun _ _ _ _ _ _ _ q => lt_int q
theorem op_le : OpR X (compareOp .LtE) (rI0 fun i j => .bl (decide (i ≤ j))) := opB0 fun _ _ _ _ _ _ _ q => le_int q
theorem op_ge : OpR X (compareOp .GtE) (rI0 fun i j => .bl (decide (j ≤ i))) := opB0 fun _ _ _ _ _ _ _ q => ge_int q
/-- two rules for one operation: by cases -/
theorem OpR.or {f : Value → Value → Sem Value} {r r' : R2} (h : OpR X f r) (h' : OpR X f r') : OpR X f (fun x y H Q => r x y H Q ∨ r' x y H Q) := by
  intro pins s σ H x y v u Q I rx ry q
  rcases q with q | q
  · exact h pins s σ H x y v u Q I rx ry q
  · exact h' pins s σ H x y v u Q I rx ry q

theorem nomark (b : Expr) {op : CmpOp} (h : op ≠ .In := by decide) (h2 : op ≠ .NotIn := by decide) : behindInMarks op b = false := by
  have e1 : (op == CmpOp.In) = false := by cases op <;> first | rfl | exact absurd rfl h
  have e2 : (op == CmpOp.NotIn) = false := by cases op <;> first | rfl | exact absurd rfl h2
  cases b <;> simp [behindInMarks, e1, e2]
/-- a comparison as a value; hm: nomark b, or (for in, not in) by with_unfolding_all rfl -/
theorem pe_cmpR {op : CmpOp} {r : R2} (ho : OpR X (compareOp op) r) (ha : PE X a ta) (hb : PE X b tb) (hm : behindInMarks op b = false) : PE X (.Compare a [op] [b] pos) (tOp r ta tb) := by
  intro pins s σ H Q I h
  exact wpAny_Compare1 (binT ha hb I h fun v u s2 x y H2 I2 rx ry q => ho pins s2 σ H2 x y v u Q I2 rx ry q) hm
/-- a reading of a value as a test -/
def tTest (t : TE) : TT := fun σ H Q => t σ H fun x H' => ∃ k, x = .bl k ∧ Q k H'
theorem pt_cmpR {op : CmpOp} {r : R2} (ho : OpR X (compareOp op) r) (ha : PE X a ta) (hb : PE X b tb) (hm : behindInMarks op b = false) : PT X (.Compare a [op] [b] pos) (tTest (tOp r ta tb)) := by
  intro pins s σ H Q I h
  refine wpAny_isTrue_Compare1 (thn (ha pins s σ H _ I h) fun v s1 ⟨x, H1, I1, r1, q1⟩ => thn (hb pins s1 σ H1 _ I1 q1) fun u s2 ⟨y, H2, I2, r2, q2⟩ =>
    thn (ho pins s2 σ H2 x y v u _ I2 r1 r2 q2) fun c s3 ⟨z, H3, I3, r3, k, e, q3⟩ => ?_) hm
  subst e
  cases r3
  exact wpAny_truthy_bool ⟨H3, I3, q3⟩
/-- a op1 b op2 c -/
def tChain (r r' : R2) (ta tb tc : TE) : TE := fun σ H Q => ta σ H fun x H1 => tb σ H1 fun y H2 => r x y H2 fun z H3 => ∃ k, z = .bl k ∧
  (if k = true then tc σ H3 fun w' H4 => r' y w' H4 Q else Q (.bl false) H3)
theorem pe_chain {op op' : CmpOp} {r r' : R2} (ho : OpR X (compareOp op) r) (ho' : OpR X (compareOp op') r') (ha : PE X a ta) (hb : PE X b tb) (hc : PE X c tc)
    (hm : lastMarks [op, op'] [b, c] = false := by with_unfolding_all rfl) : PE X (.Compare a [op, op'] [b, c] pos) (tChain r r' ta tb tc) := by
  intro pins s σ H Q I h
  refine Compare_chain (thn (ha pins s σ H _ I h) fun v s1 ⟨x, H1, I1, r1, q1⟩ => chain_link (thn (hb pins s1 σ H1 _ I1 q1) fun u s2 ⟨y, H2, I2, r2, q2⟩ =>
    thn (ho pins s2 σ H2 x y v u _ I2 r1 r2 q2) fun d s3 ⟨z, H3, I3, r3, k, e, q3⟩ => ?_)) hm
  subst e
  cases r3
  refine wpAny_truthy_bool ?_
  cases k with
  | false => exact ite_ff ⟨.bl false, H3, I3, rfl, q3⟩
  | true => exact ite_tt (chain_last (thn (hc pins s3 σ H3 _ I3 q3) fun w' s4 ⟨z', H4, I4, r4, q4⟩ => ho' pins s4 σ H4 y z' u w' Q I4 r2 r4 q4))
/-! ### truth -/
theorem line63 : (sizeLine : Nat) < 2 ^ 63 := by rw [sizeLine_eq]; decide
/-! ### strs and bytes -/
/-! ### scalar builtins, by CallR -/
theorem vals1 {x : V} {us : List Value} (r : Vals [x] us) : ∃ u, us = [u] ∧ RelV x u := by
  cases r with
  | cons r1 r2 => cases r2; exact ⟨_, rfl, r1⟩
theorem vals2 {x y : V} {us : List Value} (r : Vals [x, y] us) : ∃ u w', us = [u, w'] ∧ RelV x u ∧ RelV y w' := by
  cases r with
  | cons r1 r2 =>
    cases r2 with
    | cons r3 r4 => cases r4; exact ⟨_, _, rfl, r1, r3⟩
theorem call_max2 (hc : X.calm = true) : CallR X (.builtin "max") (fun xs H Q => ∃ i j, xs = [.int i, .int j] ∧ Q (.int (if j > i then j else i)) H) := by
  intro pins s σ H xs us Q I r h
  obtain ⟨i, j, rfl, q⟩ := h
  obtain ⟨u, w', rfl, ⟨t, rfl⟩, ⟨t', rfl⟩⟩ := vals2 r
  refine max_two_ints (I.ok.hd hc) fun h' tk k => ⟨_, H, I.kept k, ?_, q⟩
  by_cases hj : j > i
  · rw [if_pos hj, if_pos hj]; exact ⟨_, rfl⟩
  · rw [if_neg hj, if_neg hj]; exact ⟨_, rfl⟩
theorem call_min2 (hc : X.calm = true) : CallR X (.builtin "min") (fun xs H Q => ∃ i j, xs = [.int i, .int j] ∧ Q (.int (if j < i then j else i)) H) := by
  intro pins s σ H xs us Q I r h
  obtain ⟨i, j, rfl, q⟩ := h
  obtain ⟨u, w', rfl, ⟨t, rfl⟩, ⟨t', rfl⟩⟩ := vals2 r
  refine min_two_ints (I.ok.hd hc) fun h' tk k => ⟨_, H, I.kept k, ?_, q⟩
  by_cases hj : j < i
  · rw [if_pos hj, if_pos hj]; exact ⟨_, rfl⟩
  · rw [if_neg hj, if_neg hj]; exact ⟨_, rfl⟩
end
end L2

namespace L2
open PySem PySem.Spec PyProof.Rows

/-! ### an instance, its attributes a map -/
structure ObjM (h : Heap) (x dx C : Addr) (mA : Str → Option Value) : Prop where
  obj : h.get? x = some (PySem.W.instObj C dx)
  ns : h.Ns1 dx mA
  ne : dx ≠ x

theorem lookIn_ns {h : Heap} {dx : Addr} {mA : Str → Option Value} (n : h.Ns1 dx mA) : ∃ od, h.get? dx = some od ∧ ∀ name, PySem.W.lookIn name od = some (mA name) := by
  obtain ⟨o, es, ep, ho, hd, hk, _, hm⟩ := n
  refine ⟨o, ho, fun name => ?_⟩
  have e := hm name
  unfold nsFind findBy at e
  rw [← Array.find?_toList] at e
  unfold PySem.W.lookIn
  rw [hd]
  dsimp only
  split
  · rename_i y q
    rw [q] at e
    exact congrArg some e
  · rename_i q
    rw [q] at e
    have a : es.toList.any (·.refKey) = false := by
      rw [List.any_eq_false]
      intro y hy
      obtain ⟨z, t, hkey⟩ := hk y (Array.mem_toList_iff.mp hy)
      simp [DictEntry.refKey, hkey]
    have a' : ¬ es.toList.any (·.refKey) = true := by rw [a]; exact Bool.false_ne_true
    rw [if_neg a']
    exact congrArg some e

theorem ObjM.look {h : Heap} {x dx C : Addr} {mA : Str → Option Value} (I : ObjM h x dx C mA) : ∃ od, PySem.W.InstAt h x (PySem.W.instObj C dx) C (some od) ∧ ∀ name, PySem.W.lookIn name od = some (mA name) :=
  let ⟨od, ho, hl⟩ := lookIn_ns I.ns
  ⟨od, ⟨I.obj, rfl, rfl, ho⟩, hl⟩

section
variable {prog : Program} {w : World} {A : Around} {E : Value → Shared → Prop} {s : Shared} {K : PySem.W.Frag} {x dx C f : Addr} {mA : Str → Option Value} {name : Str} {v : Value}

end

/-! ### the attributes as a list of pairs -/
theorem RelO.some_of {v : V} {o : Option Value} (r : RelO (some v) o) : ∃ u, o = some u ∧ RelV v u := by
  cases o with
  | none => exact (show False from r).elim
  | some u => exact ⟨u, rfl, r⟩
section
variable {P : Program} {w : World} {H H' : Hp} {h h' : Heap} {a C dx : Addr} {fs fs' : List (Str × V)}
theorem ins_get (hok : HOk P w H h) (e : H a = some (.ins C dx fs)) : ∃ mA, ObjM h a dx C mA ∧ (∀ f, RelO (fs.lookup f) (mA f)) ∧ PySem.Within mA (fs.map (·.1)) ∧ fs.length ≤ 1000 ∧ H dx = some (.own a) := by
  obtain ⟨d, z, ne, ob, mA, n, r, q⟩ := (show ObjOk P w H h a (.ins C dx fs) from hok a _ e)
  exact ⟨mA, ⟨ob, n, ne⟩, r, q, z, d⟩
end

/-! ### what of the text a class must have -/
structure Cls (K : PySem.W.Frag) (C : Addr) : Prop where
  pg : PySem.W.plainGet K C Str.empty = true
  hd : PySem.W.hasDictIn K C = true
  po : PySem.W.plainOver K C = true
  sa : PySem.W.findIn K (.ref C) "__setattr__" = some (some (.builtin "object.__setattr__"))
theorem Cls.get {K : PySem.W.Frag} {C : Addr} (c : Cls K C) (f : Str) : PySem.W.plainGet K C f = true := c.pg
section
variable {X : Cx} {pins : List (Addr × Obj)} {σ : St} {H : Hp} {s : Shared} {a C dx : Addr} {fs : List (Str × V)} {f : Str} {v : V} {A : Around} {E : Value → Shared → Prop}

/-- a new instance, tracked, without attributes -/
theorem Inv.made (I : Inv X pins σ H s) : Inv X pins σ (upd (upd H s.heap.objs.size (.own (s.heap.objs.size + 1))) (s.heap.objs.size + 1) (.ins C s.heap.objs.size []))
    { s with heap := (s.heap.push PySem.W.emptyDict).push (PySem.W.instObj C s.heap.objs.size) } := by
  have e1 : (s.heap.push PySem.W.emptyDict).get? s.heap.objs.size = some PySem.W.emptyDict := Heap.get?_push_size s.heap rfl
  have e2 : ((s.heap.push PySem.W.emptyDict).push (PySem.W.instObj C s.heap.objs.size)).get? (s.heap.objs.size + 1) = some (PySem.W.instObj C s.heap.objs.size) := by
    have := Heap.get?_push_size (s.heap.push PySem.W.emptyDict) (o := PySem.W.instObj C s.heap.objs.size) rfl
    rwa [Heap.size_push] at this
  have e3 : (s.heap.push PySem.W.emptyDict).Ns s.heap.objs.size (fun _ => none) := ⟨PySem.W.emptyDict, #[], _, e1, rfl, (fun e he => absurd he (by simp)), fun _ => rfl⟩
  have I1 := I.laid (a := s.heap.objs.size) (o := .own (s.heap.objs.size + 1)) (h' := s.heap.push PySem.W.emptyDict) (t' := s.toks) (fun b u q => Heap.get?_push_of_some _ q) (Nat.le_refl _) ⟨_, e1⟩
  refine I1.laid (a := s.heap.objs.size + 1) (o := .ins C s.heap.objs.size []) (t' := s.toks) (fun b u q => Heap.get?_push_of_some _ q) (Nat.le_of_eq (Heap.size_push _ _)) ?_
  have ne : s.heap.objs.size ≠ s.heap.objs.size + 1 := Nat.ne_of_lt (Nat.lt_succ_self _)
  refine ⟨by rw [upd_ne ne, upd_same], Nat.zero_le _, ne, e2, fun _ => none, (Heap.Ns1.of_empty e3).at fun o q => Heap.get?_push_of_some _ q, fun _ => True.intro, fun y hy => absurd rfl hy⟩

end

/-! ### readings and rules -/
section
variable {X : Cx} {o e value : Expr} {f : Str} {pos pos' tpos : Pos} {ta tv : TE}
end

/-! ### isinstance -/
section
variable {X : Cx} {pins : List (Addr × Obj)} {σ : St} {H : Hp} {s : Shared} {A : Around} {E : Value → Shared → Prop} {Q : Value → Shared → Prop} {c : Value} {b : Bool}
/-- the type of a value, as the fragment's deciders take it; for an instance its class -/
inductive TyOf (K : PySem.W.Frag) (H : Hp) : V → Value → Prop where
  | non : TyOf K H .non (.type "NoneType")
  | bl (x : Bool) : TyOf K H (.bl x) (.type "bool")
  | int (i : Int) : TyOf K H (.int i) (.type "int")
  | str (x : Str) : TyOf K H (.str x) (.type "str")
  | flt (x : UInt64) : TyOf K H (.flt x) (.type "float")
  | lst {a : Addr} {xs : List V} (e : H a = some (.lst xs)) : TyOf K H (.ref a) (.type "list")
  | frz {a : Addr} {o : Obj} {xs : List V} (e : H a = some (.frz o (.lst xs))) : TyOf K H (.ref a) (.type "list")
  | tup {a : Addr} {xs : List V} (e : H a = some (.tup xs)) : TyOf K H (.ref a) (.type "tuple")
  | dK {a : Addr} {kvs : List (Key × V)} (e : H a = some (.dK kvs)) : TyOf K H (.ref a) (.type "dict")
  | dT {a : Addr} {kvs : List (List Key × V)} (e : H a = some (.dT kvs)) : TyOf K H (.ref a) (.type "dict")
  | ins {a C dx : Addr} {fs : List (Str × V)} (e : H a = some (.ins C dx fs)) (cl : Cls K C) (ha : PySem.W.findIn K (.ref C) "__class__" = some (some (.builtin "object.__class__")))
      (hn : PySem.W.specialIn K (.builtin "object.__class__") "__get__" = some (some (.builtin "getset_descriptor.__get__"))) (htk : PySem.W.takesIn K (.builtin "object.__class__") = some true)
      (hm : PySem.W.mroIn K C (.type "object") = some true) : TyOf K H (.ref a) (.ref C)
/-- isinstance(x, c) for one class c, a built-in or an own one: kitOne's answer -/
theorem isinst_ok {x : V} {u t : Value} (I : Inv X pins σ H s) (rx : RelV x u) (ty : TyOf X.K H x t) (e : PySem.W.kitOne X.K t c = some b) (h : ∀ tk, Q (.bool b) { s with toks := tk }) :
    wpAny (model X.prog X.w) A (call (.builtin "isinstance") [u, c]) Q E s := by
  cases ty with
  | non => cases (show u = Value.none from rx); exact PySem.W.kia_one PySem.W.kitx_none I.kIn True.intro e (fun z => nomatch z) h
  | bl y => cases (show u = Value.bool y from rx); exact PySem.W.kia_one PySem.W.kitx_bool I.kIn True.intro e (fun z => nomatch z) h
  | int i => obtain ⟨t, q⟩ := (show ∃ t, u = Value.int i t from rx); cases q; exact PySem.W.kia_one PySem.W.kitx_int I.kIn True.intro e (fun z => nomatch z) h
  | str y => obtain ⟨t, q⟩ := (show ∃ t, u = Value.str y t from rx); cases q; exact PySem.W.kia_one PySem.W.kitx_str I.kIn True.intro e (fun z => nomatch z) h
  | flt y => obtain ⟨t, q⟩ := (show ∃ t, u = Value.float y t from rx); cases q; exact PySem.W.kia_one PySem.W.kitx_float I.kIn True.intro e (fun z => nomatch z) h
  | @lst a xs ea =>
    cases (show u = Value.ref a from rx)
    obtain ⟨_, _, n, _, h1⟩ := (show ObjOk X.prog X.w H s.heap a (.lst xs) from I.hok a _ ea)
    exact PySem.W.kia_one PySem.W.kitx_list I.kIn ⟨_, h1, rfl⟩ e (fun z => nomatch z) h
  | @frz a ob xs ea =>
    cases (show u = Value.ref a from rx)
    obtain ⟨_, _, _, n, _, h1⟩ := (show ObjOk X.prog X.w H s.heap a (.frz ob (.lst xs)) from I.hok a _ ea)
    exact PySem.W.kia_one PySem.W.kitx_list I.kIn ⟨_, h1, rfl⟩ e (fun z => nomatch z) h
  | @tup a xs ea =>
    cases (show u = Value.ref a from rx)
    obtain ⟨_, _, _, p⟩ := (show ObjOk X.prog X.w H s.heap a (.tup xs) from I.hok a _ ea)
    obtain ⟨o, h1, h2, _⟩ := p
    exact PySem.W.kia_one PySem.W.kitx_tuple I.kIn ⟨o, h1, h2⟩ e (fun z => nomatch z) h
  | @dK a kvs ea =>
    cases (show u = Value.ref a from rx)
    obtain ⟨_, _, vs, _, p⟩ := (show ObjOk X.prog X.w H s.heap a (.dK kvs) from I.hok a _ ea)
    obtain ⟨o, es, ep, h1, h2, _⟩ := p
    exact PySem.W.kia_one PySem.W.kitx_dict I.kIn ⟨o, h1, h2.1⟩ e (fun z => nomatch z) h
  | @dT a kvs ea =>
    cases (show u = Value.ref a from rx)
    obtain ⟨_, _, xs, _, o, es, ep, h1, h2, _⟩ := (show ObjOk X.prog X.w H s.heap a (.dT kvs) from I.hok a _ ea)
    exact PySem.W.kia_one PySem.W.kitx_dict I.kIn ⟨o, h1, h2.1⟩ e (fun z => nomatch z) h
  | @ins a C dx fs ea cl ha hn htk hm =>
    cases (show u = Value.ref a from rx)
    obtain ⟨mA, O, _⟩ := ins_get I.hok ea
    obtain ⟨od, J, _⟩ := O.look
    exact PySem.W.kia_one (PySem.W.kitx_own (cl.get _) cl.hd ha hn htk hm) I.kIn J e (fun z => nomatch z) h
end
end L2

namespace L2
open PySem PySem.Spec PyProof.Rows

/-! ### room -/
structure Room (k : Nat) (A : Around) : Prop where
  hd : A.handled = none
  dp : A.depth + 3 * k + 5 < recursionLimit
  un : A.units + 16 * k + 200 < cLine
theorem Room.mono {j k : Nat} {A : Around} (r : Room k A) (h : j ≤ k) : Room j A := ⟨r.hd, by have := r.dp; omega, by have := r.un; omega⟩
theorem Room.deeper {k : Nat} {A : Around} (r : Room (k + 1) A) (env : Env) : Room k (A.deeper env) :=
  ⟨r.hd, by have := r.dp; show A.depth + 1 + 3 * k + 5 < _; omega, by have := r.un; show A.units + 3 + 16 * k + 200 < _; omega⟩
theorem Room.in1 {k : Nat} {A : Around} (r : Room (k + 1) A) : Room k A.in1 :=
  ⟨r.hd, by have := r.dp; show A.depth + 3 * k + 5 < _; omega, by have := r.un; show A.units + 1 + 16 * k + 200 < _; omega⟩
theorem make_depth {A : Around} {C : Addr} {us : List Value} {kw : List (Str × Value)} : (A.under (.builtin "type.__call__" ⟨.ref C :: us, kw⟩)).depth = A.depth + 1 := by
  first | rfl | simp [Around.under, Code.weight, Code.isCreation, Code.isGuard, Code.isCaller, Code.frames, Code.isFrame, guardIds]
theorem make_units {A : Around} {C : Addr} {us : List Value} {kw : List (Str × Value)} : (A.under (.builtin "type.__call__" ⟨.ref C :: us, kw⟩)).units = A.units + 1 := by
  first | rfl | simp [Around.under, Code.cUnits, Code.frames, Code.isFrame]
theorem Room.make {k : Nat} {A : Around} (r : Room (k + 1) A) (C : Addr) (us : List Value) (kw : List (Str × Value)) : Room k (A.under (.builtin "type.__call__" ⟨.ref C :: us, kw⟩)) :=
  ⟨r.hd, by have := r.dp; rw [make_depth]; omega, by have := r.un; rw [make_units]; omega⟩
theorem Room.depth {k : Nat} {A : Around} (r : Room k A) : A.depth < recursionLimit := by have := r.dp; omega
theorem Room.units {k : Nat} {A : Around} (r : Room k A) : A.units + 64 < cLine := by have := r.un; omega
/-! ### argument lists and displays -/
def tNil : TA := fun _ H Q => Q [] H
def tCons (ta : TE) (tr : TA) : TA := fun σ H Q => ta σ H fun x H1 => tr σ H1 fun xs H2 => Q (x :: xs) H2
section
variable {X : Cx} {e : Expr} {es : List Expr} {te : TE} {t : TA} {pos : Pos}
theorem pa_nil : PA X [] tNil := fun _ _ _ _ H Q I h => Calls.spliced_nil ⟨[], H, I, .nil, h⟩
theorem pa_cons (ha : PE X e te) (hr : PA X es t) (hs : starEach (e :: es) X.env = (false, eval e X.env) :: starEach es X.env := by rfl) : PA X (e :: es) (tCons te t) := by
  intro pos pins s σ H Q I h
  rw [hs]
  show wpAny _ _ (spliced ((false, eval e X.env) :: backTo pos (starEach es X.env))) _ _ s
  refine Calls.spliced_cons (thn (ha pins s σ H _ I h) fun u s1 ⟨x, H1, I1, r1, q1⟩ => ?_)
  exact thn (hr pos pins s1 σ H1 _ I1 q1) fun us s2 ⟨xs, H2, I2, r2, q2⟩ => ⟨x :: xs, H2, I2, .cons r1 r2, q2⟩

/-- a tuple, a list of written items -/
def tTup (t : TA) : TE := fun σ H Q => t σ H fun xs H1 => xs.length ≤ sizeLine ∧ ∀ p, H1 p = none → Q (.ref p) (upd H1 p (.tup xs))
def tLst (t : TA) : TE := fun σ H Q => t σ H fun xs H1 => xs.length ≤ sizeLine ∧ ∀ p, H1 p = none → Q (.ref p) (upd H1 p (.lst xs))
theorem pe_tup {x1} (h : PA X es t) : PE X (.Tuple es x1 pos) (tTup t) := by
  intro pins s σ H Q I hq
  refine wpAny_Tuple_spliced (thn (h pos pins s σ H _ I hq) fun us s1 ⟨xs, H1, I1, r, z, q⟩ => ⟨by rw [← r.length]; exact z, ?_⟩)
  have hf : H1 s1.heap.objs.size = none := I1.hok.fresh (Nat.le_refl _)
  refine ⟨.ref s1.heap.objs.size, upd H1 s1.heap.objs.size (.tup xs), I1.laid (t' := s1.toks) (fun b u e => Heap.get?_push_of_some _ e) (Nat.le_refl _) ?_, rfl, q _ hf⟩
  exact ⟨z, us, r, ⟨_, Heap.get?_push_size _ rfl, rfl, _, rfl⟩⟩
theorem pe_lst (h : PA X es t) : PE X (.List es pos) (tLst t) := by
  intro pins s σ H Q I hq
  refine wpAny_List_spliced (thn (h pos pins s σ H _ I hq) fun us s1 ⟨xs, H1, I1, r, z, q⟩ => ⟨by rw [← r.length]; exact z, ?_⟩)
  have hf : H1 s1.heap.objs.size = none := I1.hok.fresh (Nat.le_refl _)
  refine ⟨.ref s1.heap.objs.size, upd H1 s1.heap.objs.size (.lst xs), I1.laid (t' := s1.toks) (fun b u e => Heap.get?_push_of_some _ e) (Nat.le_refl _) ?_, rfl, q _ hf⟩
  exact ⟨z, us, 0, r, Heap.get?_push_size _ rfl⟩
end

/-! ### what a def promises -/
/-- a def's promise: the bound arguments in the parameters' order, the heap, the wanted end, the wanted exception -/
abbrev Sp := List V → Hp → VK → XK → Prop
/-- how an exception lies behind a call (file 08 gives it): the callers' frames, abstract heap and state ahead of the call, the wish, the exception, the state -/
abbrev CXT := List Env → Hp → Shared → XK → Value → Shared → Prop

/-- the state at a call -/
structure Env0 (P : Program) (w : World) (K : PySem.W.Frag) (mg : Str → Option Value) (base : Heap) (A : Around) (outer : List Env) (s : Shared) (H : Hp) : Prop where
  frames : A.frames = some outer
  mod : Mod K mg base
  bs : ∀ b o, base.get? b = some o → s.heap.get? b = some o ∧ H b = none
  bsz : base.objs.size ≤ s.heap.objs.size
  funs : s.heap.FunFrames base outer
  frf : ∀ b ∈ frs outer, H b = none
  hok : HOk P w H s.heap
  bare : AllBare s.gens
/-- a call's end -/
def CE (outer : List Env) (P : Program) (w : World) (H : Hp) (s : Shared) (Q : VK) (u : Value) (s' : Shared) : Prop :=
  ∃ v H', s'.os = s.os ∧ AllBare s'.gens ∧ Un (frs outer) [] H H' s.heap s'.heap ∧ HOk P w H' s'.heap ∧ RelV v u ∧ Q v H'
def CR (CX : CXT) (outer : List Env) (P : Program) (w : World) (H : Hp) (s : Shared) (Q : VK) (E : XK) (r : Result) (s' : Shared) : Prop :=
  match r with
  | .ok (.ret u) => CE outer P w H s Q u s'
  | .ok _ => False
  | .error e => CX outer H s E e s'
structure FnOk (P : Program) (w : World) (K : PySem.W.Frag) (mg : Str → Option Value) (base : Heap) (CX : CXT) (k : Nat) (f : Addr) (fd : FuncData) (ps : List Str) (sp : Sp) : Prop where
  len : ∀ vs H Q E, sp vs H Q E → vs.length = ps.length
  run : ∀ (A : Around) (outer : List Env) (s : Shared) (H : Hp) (args : Args) (us : List Value) (vs : List V) (Q : VK) (E : XK), Room k A → Env0 P w K mg base A outer s H → BindsTo s fd args (ps.zip us) → Vals vs us → sp vs H Q E →
    codeAny (model P w) A (.call (.ref f) args) (CR CX outer P w H s Q E) s
theorem FnOk.mono {P : Program} {w : World} {K : PySem.W.Frag} {mg : Str → Option Value} {base : Heap} {CX : CXT} {j k : Nat} {f : Addr} {fd : FuncData} {ps : List Str} {sp : Sp} (F : FnOk P w K mg base CX j f fd ps sp) (h : j ≤ k) :
    FnOk P w K mg base CX k f fd ps sp := ⟨F.len, fun A outer s H args us vs Q E hr => F.run A outer s H args us vs Q E (hr.mono h)⟩
/-- a weaker promise -/
theorem FnOk.imp {P : Program} {w : World} {K : PySem.W.Frag} {mg : Str → Option Value} {base : Heap} {CX : CXT} {k : Nat} {f : Addr} {fd : FuncData} {ps : List Str} {sp sp' : Sp} (F : FnOk P w K mg base CX k f fd ps sp)
    (h : ∀ vs H Q E, sp' vs H Q E → sp vs H Q E) : FnOk P w K mg base CX k f fd ps sp' :=
  ⟨fun vs H Q E q => F.len vs H Q E (h _ _ _ _ q), fun A outer s H args us vs Q E hr he hb hv hs => F.run A outer s H args us vs Q E hr he hb hv (h _ _ _ _ hs)⟩

theorem Env0.make {P : Program} {w : World} {K : PySem.W.Frag} {mg : Str → Option Value} {base : Heap} {A : Around} {outer : List Env} {s : Shared} {H : Hp} (e : Env0 P w K mg base A outer s H) (C : Addr) (us : List Value) (kw : List (Str × Value)) :
    Env0 P w K mg base (A.under (.builtin "type.__call__" ⟨.ref C :: us, kw⟩)) outer s H := ⟨by first | exact e.frames | (simpa [Around.under, Code.envs, Code.isFrame, pushEnvs] using e.frames), e.mod, e.bs, e.bsz, e.funs, e.frf, e.hok, e.bare⟩
theorem Env0.in1 {P : Program} {w : World} {K : PySem.W.Frag} {mg : Str → Option Value} {base : Heap} {A : Around} {outer : List Env} {s : Shared} {H : Hp} (e : Env0 P w K mg base A outer s H) :
    Env0 P w K mg base A.in1 outer s H := ⟨e.frames, e.mod, e.bs, e.bsz, e.funs, e.frf, e.hok, e.bare⟩

section
variable {X : Cx} {pins : List (Addr × Obj)} {σ : St} {H : Hp} {s s' : Shared}
/-- from a body: what a callee wants -/
theorem Inv.env0 (I : Inv X pins σ H s) : Env0 X.prog X.w X.K X.mg X.base X.A X.stack s H :=
  ⟨I.ok.frames, I.ok.mod, I.bs, Nat.le_trans I.ok.bsz I.sz, I.stack, I.stkFree, I.hok, I.bare⟩
/-- behind a call -/
theorem Inv.after {Q : VK} {u : Value} (I : Inv X pins σ H s) (h : CE X.stack X.prog X.w H s Q u s') : EP X pins σ Q u s' := by
  obtain ⟨v, H', os, bare, un, hok, r, q⟩ := h
  obtain ⟨hh, g, d, t, os'⟩ := s'
  obtain rfl : os' = s.os := os
  exact ⟨v, H', I.call (h' := hh) (g' := g) (d' := d) (t' := t) (ch := []) un hok bare (fun b z => absurd z (by simp)), r, q⟩
end

/-! ### calls -/
/-- f(..): the written arguments, then the defaults dvs; E: what is wanted of an exception -/
def tCall (sp : Sp) (dvs : List V) (E : XK) (t : TA) : TE := fun σ H Q => t σ H fun vs H1 => sp (vs ++ dvs) H1 Q E
/-- how the parameters are bound: us the positional arguments, kw the keywords' values by name, ds the defaults that fill up -/
def Binds (K : PySem.W.Frag) (fd : FuncData) (ps : List Str) (ds : List Value) : Prop :=
  ∀ (s : Shared) (us : List Value), K.In s.heap → (us ++ ds).length = ps.length → BindsTo s fd ⟨us, []⟩ (ps.zip (us ++ ds))
/-- every parameter is given -/
theorem Binds.all {K : PySem.W.Frag} {fd : FuncData} {ps : List Str} (h : ∀ us : List Value, us.length = ps.length → bindArgs fd ⟨us, []⟩ = pure (ps.zip us)) : Binds K fd ps [] := fun s us _ hl => by
  rw [List.append_nil] at hl ⊢
  exact .of_eq (h us hl)

/-- an exception of a callee reaches what this body wants of exceptions -/
def Passes (CX : CXT) (X : Cx) (E : XK) : Prop := ∀ (pins : List (Addr × Obj)) (σ : St) (H : Hp) (s : Shared) (e : Value) (s' : Shared), Inv X pins σ H s → CX X.stack H s E e s' → X.xe e s'

section
variable {X : Cx} {CX : CXT} {k : Nat} {f C : Addr} {fd : FuncData} {ps : List Str} {sp : Sp} {dvs : List V} {ds : List Value} {E : XK} {x m : Str} {p pos apos : Pos} {e o : Expr} {es : List Expr} {ta : TE} {t : TA}

/-- the callee runs -/
theorem run_fn {pins : List (Addr × Obj)} {σ : St} {H : Hp} {s : Shared} {Q : VK} {us : List Value} {vs : List V} (F : FnOk X.prog X.w X.K X.mg X.base CX k f fd ps sp) (hr : Room k X.A) (hb : Binds X.K fd ps ds) (hd : Vals dvs ds) (hx : Passes CX X E)
    (I : Inv X pins σ H s) (r : Vals vs us) (h : sp (vs ++ dvs) H Q E) : wpAny (model X.prog X.w) X.A (call (.ref f) us) (EP X pins σ Q) X.xe s := by
  have r2 : Vals (vs ++ dvs) (us ++ ds) := r.append hd
  have hl : (us ++ ds).length = ps.length := by rw [← r2.length]; exact F.len _ _ _ _ h
  refine wpAny_call (codeAny_mono (F.run X.A X.stack s H ⟨us, []⟩ (us ++ ds) (vs ++ dvs) Q E hr I.env0 (hb s us I.kIn hl) r2 h) fun r s' hq => ?_)
  cases r with
  | error e => exact hx pins σ H s e s' I hq
  | ok fl =>
    cases fl with
    | ret u => exact I.after hq
    | next => exact False.elim hq
    | brk => exact False.elim hq
    | cont => exact False.elim hq

theorem pe_call (F : FnOk X.prog X.w X.K X.mg X.base CX k f fd ps sp) (hr : Room k X.A) (hg : Gl X x) (hm : X.mg x = some (.ref f)) (hk : PySem.W.keepIn X.K (.ref f) = true) (hb : Binds X.K fd ps ds) (hd : Vals dvs ds) (hx : Passes CX X E)
    (ha : PA X (e :: es) t) (hdb : (x == ("__debug__" : Str)) = false := by decide) (he : starEach (e :: es) X.env = (false, eval e X.env) :: starEach es X.env := by rfl) (hpl : (backTo pos (starEach es X.env)).any (·.1) = false := by rfl) :
    PE X (.Call (.Name x p) (e :: es) [] pos) (tCall sp dvs E t) := by
  intro pins s σ H Q I h
  refine wpAny_Call_Name_kw (ld_glob I hg hm ?_ hdb)
  refine PySem.W.callWith_K (h₀ := X.base) I.ok.mod.kin hk (thn (ha pos pins s σ H _ I h) fun us s1 ⟨vs, H1, I1, r, q⟩ => ⟨I1.kIn, ?_⟩) he hpl
  exact run_fn F hr hb hd hx I1 r q
end

/-! ### keywords -/
section
variable {X : Cx} {CX : CXT} {k : Nat} {f C : Addr} {fd : FuncData} {ps ks : List Str} {sp : Sp} {E : XK} {x m : Str} {p pos apos kpos : Pos} {e o : Expr} {es : List Expr} {kws : List Keyword} {te ta : TE} {t tk : TA} {nm : Option Str}
variable {g : List Value → List Value → List Value} {gV : List V → List V → List V}
end

/-! ### a def's body keeps its promise -/
/-- names: the parameters first -/
structure FnScope (N P : List Str) (sc : Scope) : Prop where
  kind : sc.kind = .function
  co : sc.isCoroutine = false
  gen : sc.isGenerator = false
  nd : N.Nodup
  pre : N.take P.length = P
  par : ∀ x ∈ P, sc.names.lookup x = some .local ∨ sc.names.lookup x = some .cell
  nofree : ∀ y ∈ sc.names, y.2 ≠ .free

theorem bindL_out {kindOf : Str → Option NameKind} {x : Str} : ∀ {binds : List (Str × Value)} {m : Str → Option Value}, (∀ v, (x, v) ∉ binds) → bindL kindOf binds m x = m x
  | [], _, _ => rfl
  | (n, v) :: r, m, h => by
    unfold bindL
    rw [bindL_out fun w hw => h w (List.mem_cons_of_mem _ hw)]
    split
    · have : x ≠ n := by rintro rfl; exact h v List.mem_cons_self
      simp [this]
    · rfl
theorem bindC_out {kindOf : Str → Option NameKind} {x : Str} : ∀ {binds : List (Str × Value)} {m : Str → Option Value}, (∀ v, (x, v) ∉ binds) → bindC kindOf binds m x = m x
  | [], _, _ => rfl
  | (n, v) :: r, m, h => by
    unfold bindC
    rw [bindC_out fun w hw => h w (List.mem_cons_of_mem _ hw)]
    split
    · rfl
    · have : x ≠ n := by rintro rfl; exact h v List.mem_cons_self
      simp [this]
theorem bindL_get {kindOf : Str → Option NameKind} {x : Str} {v : Value} : ∀ {P : List Str} {vs : List Value} {i : Nat} {m : Str → Option Value}, P.Nodup → P[i]? = some x → vs[i]? = some v → kindOf x = some .local →
    bindL kindOf (P.zip vs) m x = some v
  | [], _, _, _, _, h, _, _ => by simp at h
  | _ :: _, [], _, _, _, _, h, _ => by simp at h
  | p :: P, w :: vs, 0, m, nd, h1, h2, hk => by
    simp at h1 h2; subst h1; subst h2
    show bindL kindOf ((p, w) :: P.zip vs) m p = _
    unfold bindL
    rw [bindL_out fun v hv => (List.nodup_cons.mp nd).1 (List.of_mem_zip hv).1, if_pos hk]
    simp
  | p :: P, w :: vs, i + 1, m, nd, h1, h2, hk => by
    show bindL kindOf ((p, w) :: P.zip vs) m x = _
    unfold bindL
    exact bindL_get (i := i) (List.nodup_cons.mp nd).2 (by simpa using h1) (by simpa using h2) hk
theorem bindC_get {kindOf : Str → Option NameKind} {x : Str} {v : Value} : ∀ {P : List Str} {vs : List Value} {i : Nat} {m : Str → Option Value}, P.Nodup → P[i]? = some x → vs[i]? = some v → kindOf x ≠ some .local →
    bindC kindOf (P.zip vs) m x = some v
  | [], _, _, _, _, h, _, _ => by simp at h
  | _ :: _, [], _, _, _, _, h, _ => by simp at h
  | p :: P, w :: vs, 0, m, nd, h1, h2, hk => by
    simp at h1 h2; subst h1; subst h2
    show bindC kindOf ((p, w) :: P.zip vs) m p = _
    unfold bindC
    rw [bindC_out fun v hv => (List.nodup_cons.mp nd).1 (List.of_mem_zip hv).1, if_neg hk]
    simp
  | p :: P, w :: vs, i + 1, m, nd, h1, h2, hk => by
    show bindC kindOf ((p, w) :: P.zip vs) m x = _
    unfold bindC
    exact bindC_get (i := i) (List.nodup_cons.mp nd).2 (by simpa using h1) (by simpa using h2) hk

/-- the names' values at the entry -/
def start (N : List Str) (vs : List V) : St := vs.map some ++ List.replicate (N.length - vs.length) none

/-- the context of a def's body, at its entry; an exception leaves the frame, then lies as CX says -/
def cxOf (CX : CXT) (P : Program) (w : World) (K : PySem.W.Frag) (mg : Str → Option Value) (base : Heap) (N : List Str) (qual : Str) (scope : Scope) (f : Addr) (cd : Value) (A : Around) (outer : List Env) (s : Shared) (H : Hp) (E : XK) : Cx where
  prog := P
  w := w
  K := K
  mg := mg
  base := base
  A := A.deeper (envOfC qual scope s.heap.objs.size f cd)
  N := N
  s_0 := s
  H_0 := H
  env := envOfC qual scope s.heap.objs.size f cd
  outer := outer
  stack := envOfC qual scope s.heap.objs.size f cd :: outer
  ex := []
  calm := true
  fn := fun _ => true
  pn := []
  xe := fun e s' => wpAny (model P w) (A.deeper (envOfC qual scope s.heap.objs.size f cd)) (leaving (envOfC qual scope s.heap.objs.size f cd) e) (fun _ s'' => CX outer H s E e s'') (fun e' s'' => CX outer H s E e' s'') s'

theorem cell_has {sc : Scope} {n : Nat} {x : Str} (h : sc.names.lookup x = some .cell) : ∃ c, (cellsFrom n sc.names []).lookup x = some c := by
  have q := PySem.W.cellsFrom_some sc.names n [] (.inl h)
  exact Option.isSome_iff_exists.mp q

theorem inv_start {CX : CXT} {P : Program} {w : World} {K : PySem.W.Frag} {mg : Str → Option Value} {base : Heap} {N ps : List Str} {qual : Str} {scope : Scope} {f : Addr} {cd : Value} {A : Around} {outer : List Env} {s s1 : Shared} {H : Hp} {E : XK} {us : List Value} {vs : List V}
    (S : FnScope N ps scope) (hd : A.handled = none) (e0 : Env0 P w K mg base A outer s H) (hl : vs.length = ps.length) (r : Vals vs us)
    (x : InCallC s s.heap.objs.size (bindL (envOfC qual scope s.heap.objs.size f cd).kindOf (ps.zip us) fun _ => none) (cellsFrom (s.heap.objs.size + 1) scope.names []) (bindC (envOfC qual scope s.heap.objs.size f cd).kindOf (ps.zip us) fun _ => none) s1) :
    Inv (cxOf CX P w K mg base N qual scope f cd A outer s H E) [] (start N vs) H s1 := by
  have hpl : ps.length ≤ N.length := by have := congrArg List.length S.pre; rw [List.length_take] at this; omega
  obtain ⟨h1, tk, rfl, hk⟩ := x.done
  have noA : ∀ b : Addr, b ∉ (cxOf CX P w K mg base N qual scope f cd A outer s H E).ex := fun b z => absurd (show b ∈ ([] : List Addr) from z) (by simp)
  refine ⟨⟨e0.mod, S.kind, rfl, rfl, Nat.le_refl _, fun y z c h1 h2 => ?_, fun y hy => ?_, fun y c _ h => ?_, fun _ => hd, Around.frames_deeper e0.frames, .inr ⟨rfl, rfl⟩, fun b z => absurd z (noA b), e0.bs, e0.bsz, fun b _ _ => noA b, fun b z => absurd z (noA b), e0.funs, e0.frf⟩,
    rfl, e0.bare, Un.kept hk, ⟨_, x.toInCall.ns, fun i y v h1 h2 h3 => ?_⟩, fun y c h => ⟨_, x.cell y c h⟩, e0.hok.fresh (Nat.le_refl _), fun y c h => ?_, fun p hp => absurd (show p ∈ ([] : List (Addr × Obj)) from hp) (by simp), e0.hok.kept hk, ?_⟩
  · exact name_of_addr x.apart (PySem.mem_of_lookup h1) (PySem.mem_of_lookup h2)
  · have hy : scope.names.lookup y = some .cell ∨ scope.names.lookup y = some .free := hy
    rcases hy with hy | hy
    · exact cell_has hy
    · exact absurd rfl (S.nofree _ (PySem.mem_of_lookup hy))
  · exact Nat.le_of_lt (x.above y c (PySem.mem_of_lookup h))
  · have hi : i < vs.length := by
      unfold start at h2
      by_cases hi : i < vs.length
      · exact hi
      · rw [List.getElem?_append_right (by simpa using hi)] at h2
        rw [List.getElem?_replicate] at h2
        split at h2 <;> cases h2
    have ha : vs[i]? = some v := by
      unfold start at h2
      rw [List.getElem?_append_left (by simpa using hi), List.getElem?_map] at h2
      cases e : vs[i]? with
      | none => rw [e] at h2; cases h2
      | some a => rw [e] at h2; cases h2; rfl
    obtain ⟨u, hu, rv⟩ := r.get ha
    have hp : ps[i]? = some y := by
      rw [← S.pre, List.getElem?_take_of_lt (by omega)]; exact h1
    have ndP : ps.Nodup := by rw [← S.pre]; exact S.nd.sublist (List.take_sublist _ _)
    refine ⟨u, rv, ?_⟩
    rcases S.par y (List.mem_of_getElem? hp) with k | k
    · exact .inl ⟨k, bindL_get ndP hp hu k⟩
    · obtain ⟨c, e⟩ := cell_has (n := s.heap.objs.size + 1) k
      refine .inr ⟨.inl k, c, e, ?_⟩
      have q := x.cell y c e
      rw [bindC_get ndP hp hu (by show scope.names.lookup y ≠ _; rw [k]; decide)] at q
      exact q
  · exact e0.hok.fresh (Nat.le_of_lt (x.above y c (PySem.mem_of_lookup h)))
  · unfold start
    show _ = N.length
    rw [List.length_append, List.length_map, List.length_replicate]
    omega

/-- THE RULE: a def (or a method) of the text, by its body. The body's reading t is chosen for each entry; it is run at the parameters' values -/
theorem fn_of {CX : CXT} {P : Program} {w : World} {K : PySem.W.Frag} {mg : Str → Option Value} {base : Heap} {k : Nat} {f : Addr} {name qual : Str} {params : Arguments} {body : List Stmt} {scope : Scope} {dV kV doc pm cdv ct oc : Value} {an od : Option Addr}
    {osl : Array (Option Value)} {N ps : List Str} {sp : Sp} (lk : K.lookup f = some ⟨oc, od, .func (PySem.W.fnOf name qual params body scope dV kV doc pm an cdv ct), osl⟩) (hcd : PySem.W.codeIn K cdv qual = true) (S : FnScope N ps scope)
    (len : ∀ vs H Q E, sp vs H Q E → vs.length = ps.length)
    (hbody : ∀ (A : Around) (outer : List Env) (s : Shared) (H : Hp) (vs : List V) (Q : VK) (E : XK), Room k (A.deeper (envOfC qual scope s.heap.objs.size f cdv)) → sp vs H Q E →
      ∃ t, PSs (cxOf CX P w K mg base N qual scope f cdv A outer s H E) body t ∧ t { nx := fun _ H' => Q .non H', rt := Q } (start N vs) H) :
    FnOk P w K mg base CX (k + 1) f (PySem.W.fnOf name qual params body scope dV kV doc pm an cdv ct) ps sp := by
  refine ⟨len, fun A outer s H args us vs Q E hr e0 hb r hsp => ?_⟩
  have hl := len _ _ _ _ hsp
  have KX : K.In s.heap := e0.mod.kin.keeps fun b o e => (e0.bs b o e).1
  have lim : s.heap.NoLimit := e0.mod.nolimit.keeps fun b o e => (e0.bs b o e).1
  have hkind : ∀ y ∈ ps.zip us, scope.names.lookup y.1 = some .local ∨ (scope.names.lookup y.1 = some .cell ∧ ((cellsFrom (s.heap.objs.size + 1) scope.names []).lookup y.1).isSome = true) := fun ⟨n, v⟩ hy => by
    rcases S.par n (List.of_mem_zip hy).1 with q | q
    · exact .inl q
    · exact .inr ⟨q, PySem.W.cellsFrom_some _ _ _ (.inl q)⟩
  refine codeAny_call_function hr.depth (KX _ _ lk) rfl S.co S.gen rfl (PySem.W.codeRec_of KX hcd) (hb _ _ _ _ ?_)
  refine wpAny_newFunctionEnv_cells S.kind hkind fun env he s1 x => ?_
  subst he
  refine ⟨lim.keeps x.toInCall.keep, codeAny_func ?_⟩
  obtain ⟨t, ht, hq⟩ := hbody A outer s H vs Q E (hr.deeper _) hsp
  have I : Inv (cxOf CX P w K mg base N qual scope f cdv A outer s H E) [] (start N vs) H s1 := inv_start S hr.hd e0 hl r x
  refine wpAny_mono (ht [] s1 (start N vs) H _ I hq) (fun fl s' hs => ?_) fun e s' hs => hs
  have fin : ∀ {σ' : St} {H' : Hp} {v : V} {u : Value}, Inv (cxOf CX P w K mg base N qual scope f cdv A outer s H E) [] σ' H' s' → RelV v u → Q v H' → CE outer P w H s Q u s' :=
    fun {σ' H' v u} J rv q => ⟨v, H', J.os, J.bare, J.base, J.hok, rv, q⟩
  cases fl with
  | ret u =>
    obtain ⟨v, σ', H', J, rv, q⟩ := hs
    exact fin J rv q
  | next =>
    obtain ⟨σ', H', J, q⟩ := hs
    exact fin (v := V.non) (u := Value.none) J rfl q
  | brk =>
    obtain ⟨_, _, _, q⟩ := hs
    exact False.elim q
  | cont =>
    obtain ⟨_, _, _, q⟩ := hs
    exact False.elim q
end L2

namespace L2
open PySem PySem.Spec PyProof.Rows
section
variable {X : Cx} {x : Str} {p pos : Pos} {e : Expr} {es : List Expr} {t : TA} {id T : String} {r : List V → Hp → VK → Prop}

def tCB (r : List V → Hp → VK → Prop) (t : TA) : TE := fun σ H Q => t σ H fun vs H1 => r vs H1 Q
/-- f(e, ..), f a built-in function -/
theorem pe_callB (hc : CallR X (.builtin id) r) (hg : Gl X x) (hm : X.mg x = none) (hv : bootBuiltins x = some (.builtin id)) (ha : PA X (e :: es) t) (hn : x ≠ "__name__" := by decide) (hdb : (x == ("__debug__" : Str)) = false := by decide)
    (he : starEach (e :: es) X.env = (false, eval e X.env) :: starEach es X.env := by rfl) (hpl : (backTo pos (starEach es X.env)).any (·.1) = false := by rfl) : PE X (.Call (.Name x p) (e :: es) [] pos) (tCB r t) := by
  intro pins s σ H Q I h
  refine wpAny_Call_Name_kw (ld_blt I hg hm hv ?_ hn hdb)
  exact PyProof.Rows.callWith_builtin1 (thn (ha pos pins s σ H _ I h) fun us s1 ⟨vs, H1, I1, r1, q1⟩ => hc pins s1 σ H1 vs us Q I1 r1 q1) he hpl
/-- T(e, ..), T a built-in type -/
theorem pe_callTy (hc : CallR X (.type T) r) (hg : Gl X x) (hm : X.mg x = none) (hv : bootBuiltins x = some (.type T)) (ha : PA X (e :: es) t) (hn : x ≠ "__name__" := by decide) (hdb : (x == ("__debug__" : Str)) = false := by decide)
    (he : starEach (e :: es) X.env = (false, eval e X.env) :: starEach es X.env := by rfl) (hpl : (backTo pos (starEach es X.env)).any (·.1) = false := by rfl) : PE X (.Call (.Name x p) (e :: es) [] pos) (tCB r t) := by
  intro pins s σ H Q I h
  refine wpAny_Call_Name_kw (ld_blt I hg hm hv ?_ hn hdb)
  exact PyProof.Rows.callWith_type1 (thn (ha pos pins s σ H _ I h) fun us s1 ⟨vs, H1, I1, r1, q1⟩ => hc pins s1 σ H1 vs us Q I1 r1 q1) he hpl
end
end L2

namespace HT
open PySem PyProof.Rows

/-- t < u of tuples of ints -/
def lexLt : List Int → List Int → Bool
  | [], [] => false
  | [], _ :: _ => true
  | _ :: _, [] => false
  | x :: xs, y :: ys => if x = y then lexLt xs ys else decide (x < y)
theorem lexLt_cons (x y : Int) (xs ys : List Int) : lexLt (x :: xs) (y :: ys) = if x = y then lexLt xs ys else decide (x < y) := rfl
theorem lexLt_nil_nil : lexLt [] [] = false := rfl
theorem eqAt_int (A : Around) (s : Shared) (a : Int) (t : Tok) (c : Int) (u : Tok) : ∃ e, SeqAt.EqAt A s (.int a t) (.int c u) e ∧ (e = true ↔ a = c) :=
  ⟨(a == c), SeqAt.EqAt.int_int a t c u, by simp⟩
theorem rcLt_int (A : Around) (s : Shared) (a : Int) (t : Tok) (c : Int) (u : Tok) (prog : Program) (w : World) (E : Value → Shared → Prop) (Q : Value → Shared → Prop) (h : Q (.bool (decide (a < c))) s) :
    wpAny (model prog w) A (richCompare .Lt (.int a t) (.int c u)) Q E s :=
  (PyProof.Rows.lt_int h : wpAny (model prog w) A (compareOp .Lt (.int a t) (.int c u)) Q E s)

section
open PySem.SeqAt
open PySem.AutoSeq1 (wpAny_loadPart')
open PySem.MeetsSeq PySem.MeetsSeq2 PySem.MeetsSeq3

end

section
variable {prog : Program} {w : World} {A : Around} {E : Value → Shared → Prop} {s : Shared}

/-! ### t[a:b], not the whole -/
/-- a slice's bound as a place among n (d where it is left out) -/
def sIx (n d : Nat) : Option Int → Nat
  | none => d
  | some v => if v < 0 then (v + (n : Int)).toNat else min v.toNat n
end
end HT

namespace L2
open PySem PySem.Spec PyProof.Rows

/-! ### the parts of a slice -/
abbrev TO := St → Hp → (Option Int → Hp → Prop) → Prop
/-- a slice's part (left out, or an int) -/
def PO (X : Cx) (e : Option Expr) (t : TO) : Prop :=
  ∀ (pins : List (Addr × Obj)) (s : Shared) (σ : St) (H : Hp) (Q : Option Int → Hp → Prop), Inv X pins σ H s → t σ H Q →
    wpAny (model X.prog X.w) X.A (evalPart e X.env) (fun u s' => ∃ o H', Inv X pins σ H' s' ∧ IsPart u o ∧ Q o H') X.xe s
def tNoPart : TO := fun _ H Q => Q none H
def tPart (t : TE) : TO := fun σ H Q => t σ H fun x H1 => ∃ i, x = .int i ∧ Q (some i) H1

section
variable {X : Cx} {e : Expr} {te : TE} {lo hi : Option Expr} {tl th : TO} {pos p2 : Pos}

theorem po_none : PO X none tNoPart := by
  intro pins s σ H Q I h
  rw [evalPart_none]
  exact wpAny_pure ⟨none, H, I, .none, h⟩
theorem po_some (h : PE X e te) : PO X (some e) (tPart te) := by
  intro pins s σ H Q I hw
  rw [evalPart_some]
  refine thn (h pins s σ H _ I hw) fun u s1 ⟨x, H1, I1, r1, q1⟩ => ?_
  obtain ⟨i, rfl, q⟩ := q1
  obtain ⟨t, rfl⟩ := r1
  exact ⟨some i, H1, I1, .int i t, q⟩

/-- what a slice of a value is, by values: the slice object stands at sl -/
def SlR (X : Cx) (r : V → Option Int → Option Int → Hp → VK → Prop) : Prop :=
  ∀ (pins : List (Addr × Obj)) (s : Shared) (σ : St) (H : Hp) (x : V) (v vl vu : Value) (lo hi : Option Int) (sl : Addr) (Q : VK), Inv X pins σ H s → RelV x v → s.heap.IsSliceOf sl vl vu .none → IsPart vl lo → IsPart vu hi → r x lo hi H Q →
    ∃ T id, typeLookup (.type T) "__getitem__" = pure (some (.builtin id)) ∧ s.TypeIs v T ∧ wpAny (model X.prog X.w) X.A (getItem v (.ref sl)) (EP X pins σ Q) X.xe s
theorem SlR.or {r r' : V → Option Int → Option Int → Hp → VK → Prop} (h : SlR X r) (h' : SlR X r') : SlR X (fun x lo hi H Q => r x lo hi H Q ∨ r' x lo hi H Q) := by
  intro pins s σ H x v vl vu lo hi sl Q I rx hs pl pu q
  rcases q with q | q
  · exact h pins s σ H x v vl vu lo hi sl Q I rx hs pl pu q
  · exact h' pins s σ H x v vl vu lo hi sl Q I rx hs pl pu q
def tSl (r : V → Option Int → Option Int → Hp → VK → Prop) (te : TE) (tl th : TO) : TE := fun σ H Q => te σ H fun x H1 => tl σ H1 fun l H2 => th σ H2 fun u H3 => r x l u H3 Q
/-- a[lo:hi], any a -/
theorem pe_slice {r : V → Option Int → Option Int → Hp → VK → Prop} (hr : SlR X r) (he : PE X e te) (hl : PO X lo tl) (hu : PO X hi th) : PE X (.Subscript e (.Slice lo hi none p2) pos) (tSl r te tl th) := by
  intro pins s σ H Q I h
  refine Subscript_ (thn (he pins s σ H _ I h) fun v s1 ⟨x, H1, I1, r1, q1⟩ => ?_)
  refine wpAny_Slice (thn (hl pins s1 σ H1 _ I1 q1) fun vl s2 ⟨l, H2, I2, pl, q2⟩ => thn (hu pins s2 σ H2 _ I2 q2) fun vu s3 ⟨u, H3, I3, pu, q3⟩ => ?_)
  rw [evalPart_none]
  refine wpAny_pure ?_
  have I4 : Inv X pins σ H3 { s3 with heap := s3.heap.push { cls := .type "slice", data := .fields #[vl, vu, .none] } } := I3.kept (t' := s3.toks) fun b ob q => Heap.get?_push_of_some _ q
  obtain ⟨T, id, hT, ht, hg⟩ := hr pins { s3 with heap := s3.heap.push { cls := .type "slice", data := .fields #[vl, vu, .none] } } σ H3 x v vl vu l u s3.heap.objs.size Q I4 r1 (Heap.IsSliceOf.new ..) pl pu q3
  show wpAny (model X.prog X.w) X.A (subscriptTail e (.Slice lo hi none p2) v (.ref s3.heap.objs.size)) (EP X pins σ Q) X.xe { s3 with heap := s3.heap.push { cls := .type "slice", data := .fields #[vl, vu, .none] } }
  exact tail_any (ops := [.ref s3.heap.objs.size, v]) ht hT hg (by with_unfolding_all rfl)

/-- the items of xs[lo:hi] -/
def cutV (xs : List V) (lo hi : Option Int) : List V := (xs.drop (HT.sIx xs.length 0 lo)).take (HT.sIx xs.length xs.length hi - HT.sIx xs.length 0 lo)
theorem cutV_length (xs : List V) (lo hi : Option Int) : (cutV xs lo hi).length ≤ xs.length := by
  unfold cutV
  rw [List.length_take, List.length_drop]
  omega
/-! ### t < u, t + u -/
end
end L2

namespace L2
open PySem PySem.Spec PyProof.Rows

/-! ### places -/
/-- the place that an index of any sign means -/
def ixN (n : Nat) (i : Int) : Option Nat := if 0 ≤ i then (if i < n then some i.toNat else none) else if -(n : Int) ≤ i then some (i + n).toNat else none
def atI {α : Type} (xs : List α) (i : Int) : Option α := (ixN xs.length i).bind fun j => xs[j]?
theorem ixN_seq {n : Nat} {i : Int} {j : Nat} (h : ixN n i = some j) : seqIndex? i n = some j ∧ j < n ∧ -(n : Int) ≤ i ∧ i < n := by
  unfold ixN at h
  by_cases h0 : 0 ≤ i
  · rw [if_pos h0] at h
    by_cases h1 : i < n
    · rw [if_pos h1] at h
      have e : i.toNat = j := Option.some.inj h
      exact ⟨by rw [seqIndex_of h0 h1, e], by omega, by omega, h1⟩
    · rw [if_neg h1] at h; cases h
  · rw [if_neg h0] at h
    by_cases h1 : -(n : Int) ≤ i
    · rw [if_pos h1] at h
      have e : (i + n).toNat = j := Option.some.inj h
      exact ⟨by rw [seqIndex_neg (by omega) h1, e], by omega, h1, by omega⟩
    · rw [if_neg h1] at h; cases h
theorem atI_get {α : Type} {xs : List α} {i : Int} {v : α} (h : atI xs i = some v) : ∃ j, seqIndex? i xs.length = some j ∧ xs[j]? = some v ∧ j < xs.length ∧ -(xs.length : Int) ≤ i ∧ i < xs.length := by
  unfold atI at h
  cases e : ixN xs.length i with
  | none => rw [e] at h; cases h
  | some j =>
    rw [e] at h
    obtain ⟨h1, h2, h3, h4⟩ := ixN_seq e
    exact ⟨j, h1, h, h2, h3, h4⟩
theorem atI_nat {α : Type} {xs : List α} {j : Nat} {v : α} (h : xs[j]? = some v) : atI xs (j : Int) = some v := by
  have hj : j < xs.length := (List.getElem?_eq_some_iff.mp h).1
  have e : ixN xs.length (j : Int) = some j := by
    unfold ixN
    rw [if_pos (by omega), if_pos (by omega)]; simp
  unfold atI; rw [e]; exact h
theorem atI_last {α : Type} (xs : List α) (v : α) : atI (xs ++ [v]) (-1) = some v := by
  have hl : (xs ++ [v]).length = xs.length + 1 := by simp
  have e : ixN (xs ++ [v]).length (-1) = some xs.length := by
    unfold ixN
    rw [hl, if_neg (by decide), if_pos (by omega)]
    congr 1
    omega
  unfold atI
  rw [e]
  show (xs ++ [v])[xs.length]? = some v
  simp

/-! ### what may be subscripted -/
/-- what stands as an index of a plain subscript -/
def PlainIx (b : Expr) : Prop := ∀ o i, subscripted b false o i = operate [o, i] (getItem o i)
/-- a subscript by values -/
def IxR (X : Cx) (r : R2) : Prop :=
  ∀ (value slice : Expr) (pins : List (Addr × Obj)) (s : Shared) (σ : St) (H : Hp) (x y : V) (v u : Value) (Q : VK), Inv X pins σ H s → RelV x v → RelV y u → r x y H Q →
    subscripted slice false v u = operate [v, u] (getItem v u) → wpAny (model X.prog X.w) X.A (subscriptTail value slice v u) (EP X pins σ Q) X.xe s
/-- a call of a builtin's method by values: the receiver, the arguments -/
def MtR (X : Cx) (id : String) (r : V → List V → Hp → VK → Prop) : Prop :=
  ∀ (pins : List (Addr × Obj)) (s : Shared) (σ : St) (H : Hp) (x : V) (xs : List V) (v : Value) (us : List Value) (Q : VK), Inv X pins σ H s → RelV x v → Vals xs us → r x xs H Q →
    wpAny (model X.prog X.w) X.A (call (.builtin id) (v :: us)) (EP X pins σ Q) X.xe s
section
variable {X : Cx} {a b : Expr} {ta tb : TE} {pos : Pos}
theorem IxR.or {r r' : R2} (h : IxR X r) (h' : IxR X r') : IxR X (fun x y H Q => r x y H Q ∨ r' x y H Q) := by
  intro value slice pins s σ H x y v u Q I rx ry q hs
  rcases q with q | q
  · exact h value slice pins s σ H x y v u Q I rx ry q hs
  · exact h' value slice pins s σ H x y v u Q I rx ry q hs
theorem MtR.or {id : String} {r r' : V → List V → Hp → VK → Prop} (h : MtR X id r) (h' : MtR X id r') : MtR X id (fun x xs H Q => r x xs H Q ∨ r' x xs H Q) := by
  intro pins s σ H x xs v us Q I rx rs q
  rcases q with q | q
  · exact h pins s σ H x xs v us Q I rx rs q
  · exact h' pins s σ H x xs v us Q I rx rs q
/-- a[b] -/
theorem pe_ix {r : R2} (hr : IxR X r) (ha : PE X a ta) (hb : PE X b tb) (hs : PlainIx b) : PE X (.Subscript a b pos) (tOp r ta tb) := by
  intro pins s σ H Q I h
  exact Subscript_ (binT ha hb I h fun v u s2 x y H2 I2 rx ry q => hr a b pins s2 σ H2 x y v u Q I2 rx ry q (hs _ _))

def rIxL (K : PySem.W.Frag) : R2 := fun x y H Q => ∃ p xs i v, x = .ref p ∧ y = .int i ∧ SqL K H p xs ∧ atI xs i = some v ∧ Q v H
def rIxT (K : PySem.W.Frag) : R2 := fun x y H Q => ∃ p xs i v, x = .ref p ∧ y = .int i ∧ SqT K H p xs ∧ atI xs i = some v ∧ Q v H
def rIxS : R2 := fun x y H Q => ∃ z i c, x = .str z ∧ y = .int i ∧ z.length ≤ sizeLine ∧ atI z.cps.toList i = some c ∧ Q (.str ⟨#[c]⟩) H
theorem ix_list : IxR X (rIxL X.K) := by
  intro value slice pins s σ H x y v u Q I rx ry h hs
  obtain ⟨p, xs, i, z, rfl, rfl, hq, he, q⟩ := h
  cases rx
  obtain ⟨t, rfl⟩ := ry
  obtain ⟨its, r, pl, hz⟩ := I.list hq
  obtain ⟨j, h1, h2, h3, h4, h5⟩ := atI_get he
  obtain ⟨w, ew, rw'⟩ := r.get h2
  have hl := r.length
  have hn := line63
  have fin : EP X pins σ Q w s := ⟨z, H, I, rw', q⟩
  by_cases h0 : 0 ≤ i
  · have hj : i.toNat = j := by
      rw [seqIndex_of h0 h5] at h1
      exact Option.some.inj h1
    exact item_listR pl.isList h0 (by omega) (by rw [hj]; simpa using ew) fin hs
  · have hj : (i + (its.toArray.size : Int)).toNat = j := by
      rw [seqIndex_neg (by omega) h4] at h1
      rw [List.size_toArray, ← hl]
      exact Option.some.inj h1
    exact subscriptTail_builtinR (x := w) pl.isList.typeIs slot_list_getitem.lookup
      (wpAny_getItem_list_neg (Q := fun r s' => r = w ∧ EP X pins σ Q r s') pl.isList (by omega) (by rw [List.size_toArray] <;> omega) (by omega) (by rw [hj]; simpa using ew) ⟨rfl, fin⟩) hs
theorem ix_tup : IxR X (rIxT X.K) := by
  intro value slice pins s σ H x y v u Q I rx ry h hs
  obtain ⟨p, xs, i, z, rfl, rfl, hq, he, q⟩ := h
  cases rx
  obtain ⟨t, rfl⟩ := ry
  obtain ⟨its, r, pl, hz⟩ := I.tuple hq
  obtain ⟨j, h1, h2, h3, h4, h5⟩ := atI_get he
  obtain ⟨w, ew, rw'⟩ := r.get h2
  have hl := r.length
  have hn := line63
  have fin : EP X pins σ Q w s := ⟨z, H, I, rw', q⟩
  exact subscriptTail_builtinR (x := w) pl.typeIs slot_tuple_getitem.lookup
    (getItem_tuple (j := j) (Q := fun r s' => r = w ∧ EP X pins σ Q r s') pl (by omega) (by omega) (by rw [List.size_toArray, ← hl]; exact h1) (by simpa using ew) ⟨rfl, fin⟩) hs
theorem ix_str : IxR X rIxS := by
  intro value slice pins s σ H x y v u Q I rx ry h hs
  obtain ⟨z, i, c, rfl, rfl, hz, he, q⟩ := h
  obtain ⟨t, rfl⟩ := rx
  obtain ⟨t', rfl⟩ := ry
  obtain ⟨j, h1, h2, h3, h4, h5⟩ := atI_get he
  have hl : z.cps.toList.length = z.length := by simp [Str.length]
  rw [hl] at h1 h4 h5
  have hn := line63
  exact tail_any (typeIs_str s z t) slot_str_getitem.lookup (getItem_str (c := c) (by
    have e1 : decide (i < -(2 ^ 63 : Int)) = false := decide_eq_false (by omega)
    have e2 : decide (i ≥ 2 ^ 63) = false := decide_eq_false (by omega)
    rw [e1, e2, Bool.or_false]) (by rw [h1]; simpa using h2) ⟨.str ⟨#[c]⟩, H, I.tok _, ⟨_, rfl⟩, q⟩) hs
/-- list, tuple or str -/
def rIx (K : PySem.W.Frag) : R2 := fun x y H Q => rIxL K x y H Q ∨ rIxT K x y H Q ∨ rIxS x y H Q
theorem ix_seq : IxR X (rIx X.K) := ix_list.or (ix_tup.or ix_str)

/-! ### xs[i] = v, any sign -/
/-- the list's object behind a store -/
theorem mapSeq_set (its : List Value) (n j : Nat) (u : Value) : Obj.mapSeq (·.setIfInBounds j u) { cls := .type "list", data := .seq its.toArray n } = { cls := .type "list", data := .seq (its.set j u).toArray n } := by
  simp [Obj.mapSeq]
theorem Inv.lst {pins : List (Addr × Obj)} {σ : St} {H : Hp} {s : Shared} {p : Addr} {xs : List V} (I : Inv X pins σ H s) (h : H p = some (.lst xs)) :
    ∃ (its : List Value) (n : Nat), Vals xs its ∧ s.heap.get? p = some { cls := .type "list", data := .seq its.toArray n } ∧ xs.length ≤ sizeLine := by
  obtain ⟨z, its, n, r, e⟩ := I.hok p _ h
  exact ⟨its, n, r, e, z⟩
/-- the list at p is written by an update of its object -/
theorem Inv.lstUpd {pins : List (Addr × Obj)} {σ : St} {H : Hp} {s : Shared} {p : Addr} {xs ys : List V} {its its' : List Value} {n n' : Nat} {f : Obj → Obj} (I : Inv X pins σ H s) (h : H p = some (.lst xs))
    (ho : s.heap.get? p = some { cls := .type "list", data := .seq its.toArray n }) (hf : f { cls := .type "list", data := .seq its.toArray n } = { cls := .type "list", data := .seq its'.toArray n' }) (r : Vals ys its') (hz : ys.length ≤ sizeLine) (t : Nat) :
    Inv X pins σ (upd H p (.lst ys)) { s with heap := s.heap.update p f, toks := t } := by
  have e : (s.heap.update p f).get? p = some { cls := .type "list", data := .seq its'.toArray n' } := by
    rw [Heap.get?_update_self f ho (by rw [hf] <;> rfl), hf]
  refine I.write (x := p) (e := p) (by rw [h]; trivial) (.inl rfl) (fun b u hb q => (Heap.get?_update_other _ _ (Ne.symm hb)).trans q) ⟨_, e⟩ ?_
  exact ⟨hz, its', n', r, e⟩
def rSetL : V → V → V → Hp → (Hp → Prop) → Prop := fun o i v H Q => ∃ p xs k j, o = .ref p ∧ i = .int k ∧ H p = some (.lst xs) ∧ ixN xs.length k = some j ∧ Q (upd H p (.lst (xs.set j v)))
theorem set_list : PSet X rSetL := by
  intro pins s σ H o i v ov iv u Q I ro ri rv h
  obtain ⟨p, xs, k, j, rfl, rfl, hp, hj, q⟩ := h
  cases ro
  obtain ⟨t, rfl⟩ := ri
  obtain ⟨its, n, r, ho, hz⟩ := I.lst hp
  obtain ⟨h1, h2, h3, h4⟩ := ixN_seq hj
  have hl := r.length
  have hn := line63
  have I' : Inv X pins σ (upd H p (.lst (xs.set j v))) { s with heap := s.heap.update p (Obj.mapSeq (·.setIfInBounds j u)) } :=
    I.lstUpd hp ho (mapSeq_set its n j u) (r.set rv j) (by rw [List.length_set]; exact hz) s.toks
  by_cases h0 : 0 ≤ k
  · have hk : k.toNat = j := by
      rw [seqIndex_of h0 h4] at h1
      exact Option.some.inj h1
    exact PySem.W.ki_setAt ho h0 (by omega) (by rw [List.size_toArray, ← hl]; exact h4) (by rw [hk]; exact ⟨_, I', q⟩)
  · have hk : (k + (its.toArray.size : Int)).toNat = j := by
      rw [seqIndex_neg (by omega) h3] at h1
      rw [List.size_toArray, ← hl]
      exact Option.some.inj h1
    exact PySem.W.ki_setBack ho (by omega) (by rw [List.size_toArray, ← hl]; exact h3) (by omega) (by rw [hk]; exact ⟨_, I', q⟩)

/-! ### slices -/
theorem slice_bounds (lo hi : Option Int) (n : Nat) : (sliceBounds lo hi none n).1 = ((HT.sIx n 0 lo : Nat) : Int) ∧ (sliceBounds lo hi none n).2.1 = ((HT.sIx n n hi : Nat) : Int) ∧ (sliceBounds lo hi none n).2.2 = 1 := by
  refine ⟨?_, ?_, rfl⟩
  · cases lo with
    | none => simp [sliceBounds, HT.sIx]
    | some i =>
      simp only [sliceBounds, HT.sIx, Option.getD_none, show (1 : Int) > 0 by decide, if_true]
      by_cases h : i < 0
      · simp only [h, if_true] <;> omega
      · simp only [h, if_false] <;> omega
  · cases hi with
    | none => simp [sliceBounds, HT.sIx]
    | some i =>
      simp only [sliceBounds, HT.sIx, Option.getD_none, show (1 : Int) > 0 by decide, if_true]
      by_cases h : i < 0
      · simp only [h, if_true] <;> omega
      · simp only [h, if_false] <;> omega
theorem slicePick_cut (its : List Value) (lo hi : Option Int) : slicePick its.toArray lo hi none = ((its.drop (HT.sIx its.length 0 lo)).take (HT.sIx its.length its.length hi - HT.sIx its.length 0 lo)).toArray := by
  obtain ⟨h1, h2, h3⟩ := slice_bounds lo hi its.toArray.size
  unfold slicePick
  rw [h1, h2, h3]
  simp only [sliceRange_one, pick_run, List.size_toArray] <;> rfl
/-- xs[lo:hi] of a list: a new list -/
def rSlL (K : PySem.W.Frag) : V → Option Int → Option Int → Hp → VK → Prop := fun x lo hi H Q => ∃ a xs, x = .ref a ∧ SqL K H a xs ∧ ∀ p, H p = none → Q (.ref p) (upd H p (.lst (cutV xs lo hi)))
theorem sl_list : SlR X (rSlL X.K) := by
  intro pins s σ H x v vl vu lo hi sl Q I rx hs pl pu h
  obtain ⟨a, xs, rfl, hx, q⟩ := h
  cases rx
  obtain ⟨its, r, ht, hz⟩ := I.list hx
  have hlen := r.length
  refine ⟨"list", _, slot_list_getitem.lookup, ht.isList.typeIs, ?_⟩
  refine wpAny_getItem_list_slice ht.isList hs pl pu .none (by simp) ?_ (by rw [List.size_toArray] <;> omega)
  rw [slicePick_cut, ← hlen]
  refine ⟨.ref s.heap.objs.size, _, I.laid (t' := s.toks) (o := .lst (cutV xs lo hi)) (fun b ob q => Heap.get?_push_of_some _ q) (Nat.le_refl _) ?_, rfl, q _ (I.hok.fresh (Nat.le_refl _))⟩
  exact ⟨Nat.le_trans (cutV_length xs lo hi) hz, _, 0, (r.drop (HT.sIx xs.length 0 lo)).take (HT.sIx xs.length xs.length hi - HT.sIx xs.length 0 lo), Heap.get?_push_size _ rfl⟩

/-! ### in, not in: flat items -/
/-! ### len, list(x), tuple(x) of any list or tuple that is read -/
theorem call_len_seq : CallR X (.builtin "len") (fun xs H Q => ∃ p ys, xs = [.ref p] ∧ (SqL X.K H p ys ∨ SqT X.K H p ys) ∧ Q (.int ys.length) H) := by
  intro pins s σ H xs us Q I r h
  obtain ⟨p, ys, rfl, hq, q⟩ := h
  obtain ⟨u, rfl, rx⟩ := vals1 r
  cases rx
  have hn := line63
  rcases hq with hq | hq
  · obtain ⟨its, r', pl, hz⟩ := I.list hq
    have hlen := r'.length
    exact Calls.call_len_list pl.isList (by simp only [List.size_toArray] <;> omega) ⟨.int ys.length, H, I.tok _, ⟨s.toks + 1, by rw [List.size_toArray, hlen]⟩, q⟩
  · obtain ⟨its, r', pl, hz⟩ := I.tuple hq
    have hlen := r'.length
    exact len_tuple pl (by simp only [List.size_toArray] <;> omega) ⟨.int ys.length, H, I.tok _, ⟨s.toks + 1, by rw [List.size_toArray, hlen]⟩, q⟩
theorem CallR.or {f : Value} {r r' : List V → Hp → VK → Prop} (h : CallR X f r) (h' : CallR X f r') : CallR X f (fun xs H Q => r xs H Q ∨ r' xs H Q) := by
  intro pins s σ H xs us Q I rs q
  rcases q with q | q
  · exact h pins s σ H xs us Q I rs q
  · exact h' pins s σ H xs us Q I rs q
theorem call_list_of : CallR X (.type "list") (fun xs H Q => ∃ p ys, xs = [.ref p] ∧ (SqL X.K H p ys ∨ SqT X.K H p ys) ∧ ∀ l, H l = none → Q (.ref l) (upd H l (.lst ys))) := by
  intro pins s σ H xs us Q I r h
  obtain ⟨p, ys, rfl, hq, q⟩ := h
  obtain ⟨u, rfl, rx⟩ := vals1 r
  cases rx
  have fin : ∀ (its : List Value), Vals ys its → ys.length ≤ sizeLine → ∀ (h' : Heap) (c' : Nat), (∀ b o', s.heap.get? b = some o' → h'.get? b = some o') →
      h'.get? s.heap.objs.size = some { cls := .type "list", dict := none, data := .seq its.toArray c', slots := #[] } → EP X pins σ Q (.ref s.heap.objs.size) { s with heap := h' } := fun its r' hz h' c' kp e =>
    ⟨.ref s.heap.objs.size, _, I.laid (t' := s.toks) kp (Nat.le_refl _) (show ObjOk X.prog X.w _ h' _ (.lst ys) from ⟨hz, its, c', r', e⟩), rfl, q _ (I.hok.fresh (Nat.le_refl _))⟩
  rcases hq with hq | hq
  · obtain ⟨its, r', pl, hz⟩ := I.list hq
    have hlen := r'.length
    obtain ⟨o, ho, hc, n, hd⟩ := pl.isList
    exact call_list_seq p (.inl rfl) ho hc hd (fun h' c' kp e => fin its r' hz h' c' kp e) (by simp only [List.size_toArray] <;> omega)
  · obtain ⟨its, r', pl, hz⟩ := I.tuple hq
    have hlen := r'.length
    obtain ⟨o, ho, hc, n, hd⟩ := pl
    exact call_list_seq p (.inr rfl) ho hc hd (fun h' c' kp e => fin its r' hz h' c' kp e) (by simp only [List.size_toArray] <;> omega)
/-! ### the call of a builtin's method: o.m(..) -/
/-- the value is of that builtin type -/
def tyV (K : PySem.W.Frag) (T : String) (x : V) (H : Hp) : Prop := match x with
  | .str _ => T = "str"
  | .int _ => T = "int"
  | .ref p => (T = "list" ∧ ∃ xs, SqL K H p xs) ∨ (T = "tuple" ∧ ∃ o, K.lookup p = some o ∧ o.cls = .type "tuple" ∧ o.dict = none) ∨
      (T = "dict" ∧ ((∃ kvs, H p = some (.dK kvs)) ∨ ∃ kvs, H p = some (.dT kvs))) ∨ (T = "set" ∧ ∃ S n, H p = some (.set S n))
  | _ => False
theorem tyV_is {pins : List (Addr × Obj)} {σ : St} {H : Hp} {s : Shared} {T : String} {x : V} {v : Value} (I : Inv X pins σ H s) (r : RelV x v) (ty : tyV X.K T x H) :
    s.TypeIs v T ∧ ∀ a, v = .ref a → ∃ ob, s.heap.get? a = some ob ∧ ob.dict = none := by
  cases x with
  | str z =>
    obtain ⟨t, rfl⟩ := r
    cases (show T = "str" from ty)
    exact ⟨typeIs_str s z t, fun _ e => nomatch e⟩
  | int i =>
    obtain ⟨t, rfl⟩ := r
    cases (show T = "int" from ty)
    exact ⟨typeIs_int s i t, fun _ e => nomatch e⟩
  | ref p =>
    cases r
    rcases ty with ⟨rfl, xs, hq⟩ | ⟨rfl, o, hk, hc, hd⟩ | ⟨rfl, hk⟩ | ⟨rfl, S, n, hk⟩
    · obtain ⟨its, _, pl, _⟩ := I.list hq
      refine ⟨pl.isList.typeIs, fun a e => ?_⟩
      cases e
      obtain ⟨o, n, e, c, hd, _⟩ := pl
      exact ⟨o, e, hd⟩
    · refine ⟨⟨o, I.kIn p o hk, hc⟩, fun a e => ?_⟩
      cases e
      exact ⟨o, I.kIn _ o hk, hd⟩
    · have z : ∃ o, s.heap.get? p = some o ∧ o.ExactDict := by
        rcases hk with ⟨kvs, hk⟩ | ⟨kvs, hk⟩
        · obtain ⟨_, _, _, _, o, _, _, e, ex, _⟩ := I.hok p _ hk
          exact ⟨o, e, ex⟩
        · obtain ⟨_, _, _, _, o, _, _, e, ex, _⟩ := I.hok p _ hk
          exact ⟨o, e, ex⟩
      obtain ⟨o, e, ex⟩ := z
      refine ⟨⟨o, e, ex.1⟩, fun a e2 => ?_⟩
      cases e2
      exact ⟨o, e, ex.2.1⟩
    · obtain ⟨o, _, _, _, e, ex, _⟩ := I.hok p _ hk
      refine ⟨⟨o, e, ex.1⟩, fun a e2 => ?_⟩
      cases e2
      exact ⟨o, e, ex.2.1⟩
  | _ => exact False.elim ty
def tBM (K : PySem.W.Frag) (T : String) (r : V → List V → Hp → VK → Prop) (to : TE) (t : TA) : TE := fun σ H Q => to σ H fun x H1 => tyV K T x H1 ∧ t σ H1 fun xs H2 => r x xs H2 Q
variable {o e : Expr} {es : List Expr} {to : TE} {t : TA} {name : Str} {apos cpos : Pos} {T id : String} {r : V → List V → Hp → VK → Prop}
theorem pe_bm (pa : PlainAttrs T) (slot : Slot T name id) (hty : typeOf (.builtin id) = pure (.type "method_descriptor")) (hm : MtR X id r) (ho : PE X o to) (ha : PA X (e :: es) t)
    (hbase : attributeBase o name X.env (eval o X.env) = eval o X.env := by rfl)
    (hfew : ((backTo cpos (starEach (e :: es) X.env)).all (fun x => !x.1) && (backToKw cpos (keywordEach [] X.env)).all (fun x => x.1.isSome)
      && decide ((e :: es).length + ([] : List Keyword).length + (if ([] : List Keyword).isEmpty then 0 else 1) < 30)) = true := by rfl)
    (hline : (apos.endLine == cpos.line) = true := by rfl) (hs : starEach (e :: es) X.env = (false, eval e X.env) :: starEach es X.env := by rfl) (hplain : (backTo cpos (starEach es X.env)).any (·.1) = false := by rfl) :
    PE X (.Call (.Attribute o name apos) (e :: es) [] cpos) (tBM X.K T r to t) := by
  intro pins s σ H Q I h
  refine wpAny_Call_method_late hbase hfew hline rfl (thn (ho pins s σ H _ I h) fun v s1 ⟨x, H1, I1, r1, ty, q1⟩ => ?_)
  obtain ⟨h1, h2⟩ := tyV_is I1 r1 ty
  refine ⟨T, id, pa, slot, hty, h1, h2, ?_⟩
  have hA := ha cpos pins s1 σ H1 _ I1 q1
  rw [hs] at hA ⊢
  refine Calls.callWith_builtin (by show (false || (backTo cpos (starEach es X.env)).any (·.1)) = false; rw [hplain] <;> rfl) (Calls.evalArgs_plain ?_)
  exact thn hA fun us s2 ⟨vs, H2, I2, r2, q2⟩ => hm pins s2 σ H2 x vs v us Q I2 r1 r2 q2
/- xs.append(e), list.index on a module's tuple .. are MtR facts of 06m -/
end
end L2

namespace L2
open PySem PySem.Spec PyProof.Rows

def MtM (X : Cx) (id : String) (r : V → List V → Hp → VK → Prop) : Prop :=
  ∀ (pins : List (Addr × Obj)) (s : Shared) (σ : St) (H : Hp) (x : V) (xs : List V) (v : Value) (us : List Value) (Q : VK), Inv X pins σ H s → RelV x v → Vals xs us → r x xs H Q →
    wpAny (model X.prog X.w) X.A (call (.builtin id) (v :: us)) (EP X pins σ Q) X.xe s

/-! ### lists of values -/
theorem Vals.one : ∀ {x : V} {us : List Value}, Vals [x] us → ∃ u, us = [u] ∧ RelV x u
  | _, _, .cons r .nil => ⟨_, rfl, r⟩
theorem Vals.two : ∀ {x y : V} {us : List Value}, Vals [x, y] us → ∃ u v, us = [u, v] ∧ RelV x u ∧ RelV y v
  | _, _, _, .cons r (.cons q .nil) => ⟨_, _, rfl, r, q⟩
theorem Vals.zero : ∀ {us : List Value}, Vals [] us → us = []
  | _, .nil => rfl
theorem Vals.dropLast {xs : List V} {us : List Value} (h : Vals xs us) : Vals xs.dropLast us.dropLast := by
  induction h with
  | nil => exact .nil
  | cons r t ih =>
    cases t with
    | nil => exact .nil
    | cons q t' => exact .cons r ih
theorem Vals.eraseIdx : ∀ {xs : List V} {us : List Value} (i : Nat), Vals xs us → Vals (xs.eraseIdx i) (us.eraseIdx i)
  | _, _, _, .nil => .nil
  | _, _, 0, .cons _ t => t
  | _, _, i + 1, .cons r t => .cons r (Vals.eraseIdx i t)
theorem Vals.reverse {xs : List V} {us : List Value} (h : Vals xs us) : Vals xs.reverse us.reverse := by
  induction h with
  | nil => exact .nil
  | cons r t ih => rw [List.reverse_cons, List.reverse_cons]; exact Vals.append ih (.cons r .nil)
theorem Vals.rep {xs : List V} {us : List Value} (h : Vals xs us) : ∀ k : Nat, Vals (List.replicate k xs).flatten (List.replicate k us).flatten
  | 0 => .nil
  | k + 1 => by
    rw [List.replicate_succ, List.replicate_succ, List.flatten_cons, List.flatten_cons]
    exact Vals.append h (Vals.rep h k)
theorem len_erase {α : Type} : ∀ (l : List α) (i : Nat), (l.eraseIdx i).length ≤ l.length
  | [], _ => Nat.le_refl _
  | _ :: _, 0 => Nat.le_succ _
  | _ :: r, i + 1 => Nat.succ_le_succ (len_erase r i)
theorem foldl_rep (its : List Value) : ∀ (k : Nat) (acc : List Value),
    List.foldl (fun x1 x2 => x1 ++ x2) acc.toArray (List.replicate k its.toArray) = (acc ++ (List.replicate k its).flatten).toArray
  | 0, acc => by simp
  | k + 1, acc => by
    have e : acc.toArray ++ its.toArray = (acc ++ its).toArray := by simp
    have e2 : (acc ++ its) ++ (List.replicate k its).flatten = acc ++ (List.replicate (k + 1) its).flatten := by
      rw [List.replicate_succ, List.flatten_cons, List.append_assoc]
    rw [← e2, ← foldl_rep its k (acc ++ its), ← e, List.replicate_succ, List.foldl_cons]

section
variable {X : Cx} {pins : List (Addr × Obj)} {σ : St} {H : Hp} {s : Shared} {l b : Addr} {xs ys zs : List V}

/-! ### the two steps: a tracked list is rewritten, a new list is laid -/
theorem Inv.lset {its its' : List Value} {n : Nat} {f : Array Value → Array Value} {t' : Nat} (I : Inv X pins σ H s) (hH : H l = some (.lst xs))
    (e : s.heap.get? l = some { cls := .type "list", data := .seq its.toArray n }) (hf : f its.toArray = its'.toArray) (hv : Vals ys its') (hz : ys.length ≤ sizeLine) :
    Inv X pins σ (upd H l (.lst ys)) { s with heap := s.heap.update l (Obj.mapSeq f), toks := t' } := by
  have q := PySem.IsL.update e f
  rw [hf] at q
  refine I.write (x := l) (e := l) (by rw [hH]; exact trivial) (.inl rfl) (fun b' u hb hu => (Heap.get?_update_other s.heap (Obj.mapSeq f) (Ne.symm hb)).trans hu) ⟨_, q⟩ ?_
  exact ⟨hz, its', _, hv, q⟩
theorem Inv.lnew {its : List Value} {t' : Nat} (I : Inv X pins σ H s) (hv : Vals ys its) (hz : ys.length ≤ sizeLine) :
    Inv X pins σ (upd H s.heap.objs.size (.lst ys)) { s with heap := s.heap.push { cls := .type "list", data := .seq its.toArray }, toks := t' } :=
  I.laid (fun _ _ q => Heap.get?_push_of_some _ q) (Nat.le_refl _) ⟨hz, its, 0, hv, Heap.get?_push_size _ rfl⟩
theorem Inv.fresh (I : Inv X pins σ H s) : H s.heap.objs.size = none := I.hok.fresh (Nat.le_refl _)
theorem Inv.lstM (I : Inv X pins σ H s) (hH : H l = some (.lst xs)) : xs.length ≤ sizeLine ∧ ∃ (its : List Value) (n : Nat), Vals xs its ∧ xs.length = its.length ∧ s.heap.get? l = some { cls := .type "list", data := .seq its.toArray n } := by
  obtain ⟨z, its, n, r, e⟩ := I.hok l _ hH
  exact ⟨z, its, n, r, r.length, e⟩

theorem notLongL {n : Nat} (h : n ≤ sizeLine) : Builtin.List.listTooLong n = false := by
  unfold Builtin.List.listTooLong
  exact decide_eq_false (by omega)
end

section
variable {X : Cx}

/-! ### methods -/
def rAppend : V → List V → Hp → VK → Prop := fun x vs H Q => ∃ l xs y, x = .ref l ∧ vs = [y] ∧ H l = some (.lst xs) ∧ xs.length < sizeLine ∧ Q .non (upd H l (.lst (xs ++ [y])))
theorem mt_append : MtM X "list.append" rAppend := by
  intro pins s σ H x vs v us Q I rx rv h
  obtain ⟨l, xs, y, rfl, rfl, hH, hz, q⟩ := h
  cases rx
  obtain ⟨u, rfl, ru⟩ := rv.one
  obtain ⟨z, its, n, r, hl, e⟩ := I.lstM hH
  refine call_meets F.slot_list_append ⟨_, e, rfl⟩ F.entry_list_append (F.args_list_append_2 _ _) (PySem.list_append l its.toArray n u (by rw [List.size_toArray]; omega)) ⟨e, ?_⟩
  refine ⟨.non, _, I.lset (its' := its ++ [u]) hH e (by simp) (r.append (.cons ru .nil)) ?_, rfl, q⟩
  rw [List.length_append, List.length_singleton]
  omega

def rPopAt : V → List V → Hp → VK → Prop := fun x vs H Q => ∃ l xs i k y, x = .ref l ∧ vs = [.int i] ∧ H l = some (.lst xs) ∧ -(2 ^ 63) ≤ i ∧ i < 2 ^ 63 ∧ seqIndex? i xs.length = some k ∧ xs[k]? = some y ∧ Q y (upd H l (.lst (xs.eraseIdx k)))
theorem mt_popAt : MtM X "list.pop" rPopAt := by
  intro pins s σ H x vs v us Q I rx rv h
  obtain ⟨l, xs, i, k, y, rfl, rfl, hH, h1, h2, hk, hy, q⟩ := h
  cases rx
  obtain ⟨u, rfl, ru⟩ := rv.one
  obtain ⟨t, rfl⟩ := ru
  obtain ⟨z, its, n, r, hl, e⟩ := I.lstM hH
  obtain ⟨w, hw, rw'⟩ := r.get hy
  refine call_meets F.slot_list_pop ⟨_, e, rfl⟩ F.entry_list_pop (F.args_list_pop_2 _ _)
    (MeetsSeq.list_pop_at l its.toArray n i t k w (fitsIndex_both h1 h2) (by rw [List.size_toArray, ← hl]; exact hk) (by rw [← Array.getElem?_toList]; exact hw) (by rw [List.size_toArray]; omega)) ⟨e, ?_⟩
  refine ⟨y, _, I.lset (its' := its.eraseIdx k) hH e ?_ (r.eraseIdx k) ?_, rw', q⟩
  · show its.toArray.eraseIdxIfInBounds k = (its.eraseIdx k).toArray
    rw [List.eraseIdxIfInBounds_toArray]
  · have := len_erase xs k
    omega

/-! ### list + list, list += list, list * int -/
/-- a list times an int (a negative one is nothing) -/
def rRep : R2 := fun x y H Q => ∃ l k xs, x = .ref l ∧ y = .int k ∧ H l = some (.lst xs) ∧ -(2 ^ 63) ≤ k ∧ k < 2 ^ 63 ∧ xs.length * k.toNat ≤ sizeLine ∧
  ∀ p, H p = none → Q (.ref p) (upd H p (.lst (List.replicate k.toNat xs).flatten))
theorem len_rep {α : Type} (xs : List α) (k : Nat) : (List.replicate k xs).flatten.length = k * xs.length := by
  induction k with
  | zero => simp
  | succ k ih => rw [List.replicate_succ, List.flatten_cons, List.length_append, ih, Nat.succ_mul, Nat.add_comm]
theorem op_rep : OpR X (binaryOp .Mult) rRep := by
  intro pins s σ H x y v u Q I rx ry h
  obtain ⟨l, k, xs, rfl, rfl, hH, h1, h2, hz, q⟩ := h
  cases rx
  obtain ⟨t, rfl⟩ := ry
  obtain ⟨z, its, n, r, hl, e⟩ := I.lstM hH
  have hlen : its.toArray.size * k.toNat ≤ sizeLine := by rw [List.size_toArray, ← hl]; exact hz
  have hcap : ¬ its.toArray.size * k.toNat > (2 ^ 63 - 1) / 8 := by
    have : (sizeLine : Nat) ≤ (2 ^ 63 - 1) / 8 := by decide
    omega
  have hfit : ¬ (!Builtin.List.listFitsIndex k) = true := by
    rw [fitsIndex_both h1 h2]
    exact Bool.false_ne_true
  have hlong : ¬ Builtin.List.listTooLong (its.toArray.size * k.toNat) = true := by
    rw [notLongL hlen]
    exact Bool.false_ne_true
  have hnew : List.foldl (fun x1 x2 => x1 ++ x2) #[] (List.replicate (if its.toArray.isEmpty = true then 0 else k.toNat) its.toArray) = (List.replicate k.toNat its).flatten.toArray := by
    have f0 : ∀ m : Nat, List.foldl (fun x1 x2 => x1 ++ x2) #[] (List.replicate m its.toArray) = (List.replicate m its).flatten.toArray := fun m => by
      have := foldl_rep its m []
      rw [List.nil_append] at this
      exact this
    rw [f0]
    cases its with
    | nil => simp
    | cons a r' => rw [if_neg (by simp)]
  refine wpAny_binaryOp_repeat_ref (T := "list") (U := "int") (by decide) ⟨_, e, rfl⟩ (fun s' => typeIs_int s' k t) noFill_list_mul F.fills_int_mul F.slot_int_rmul repeat_list F.slot_int_index.lookup
    (call_meets F.slot_int_rmul (typeIs_int s k t) F.entry_int_rmul (F.args_int_rmul_2 _ _) (int___rmul___int_list k t l its.toArray n)
      ⟨e, rfl, ⟨_, e, rfl⟩, call_meets F.slot_list_mul ⟨_, e, rfl⟩ F.entry_list_mul (F.args_list_mul_2 _ _) (AutoListH.list___mul___list_int_3 l its.toArray n k t hfit hcap hlong) ⟨e, ?_⟩⟩)
  rw [hnew]
  exact ⟨.ref _, _, I.lnew (t' := s.toks) (r.rep k.toNat) (by rw [len_rep, Nat.mul_comm]; exact hz), rfl, q _ I.fresh⟩

/-! ### del xs[i] -/
end

/-! ### xs[a:b] = ys -/
section
variable {prog : Program} {w : World} {A : Around} {E : Value → Shared → Prop} {s : Shared}
end

section
variable {X : Cx}
end
end L2

namespace L2
open PySem PySem.Spec PyProof.Rows

theorem Vals.ints : ∀ {ns : List Int} {us : List Value}, Vals (ns.map V.int) us → IntsAre us ns
  | [], us, h => by
    rw [List.map_nil] at h
    cases h
    exact IntsAre.nil
  | n :: ns, us, h => by
    rw [List.map_cons] at h
    cases h with
    | cons r t =>
      obtain ⟨k, rfl⟩ := r
      exact IntsAre.cons n k (Vals.ints t)
theorem vals_of_ints : ∀ {us : List Value} {ns : List Int}, IntsAre us ns → Vals (ns.map V.int) us
  | _, _, .nil => by rw [List.map_nil]; exact Paired.nil
  | _, _, .cons n t h => by rw [List.map_cons]; exact Paired.cons (show RelV (V.int n) (Value.int n t) from ⟨t, rfl⟩) (vals_of_ints h)
theorem Vals.strs : ∀ {xs : List Str} {us : List Value}, Vals (xs.map V.str) us → StrsAre us xs
  | [], us, h => by
    rw [List.map_nil] at h
    cases h
    exact StrsAre.nil
  | x :: xs, us, h => by
    rw [List.map_cons] at h
    cases h with
    | cons r t =>
      obtain ⟨k, rfl⟩ := r
      exact StrsAre.cons x k (Vals.strs t)
theorem Vals.ref1 {a : Addr} {us : List Value} (r : Vals [V.ref a] us) : us = [Value.ref a] := by
  cases r with
  | cons r t =>
    cases t
    cases r
    rfl
/-! ### the library's walks over a list of ints, kept objects alone -/
section
variable {prog : Program} {w : World} {A : Around} {E : Value → Shared → Prop} {s : Shared} {l : Addr} {its : List Value} {ns : List Int} {Q : Value → Shared → Prop}
theorem sum_raw (hh : A.handled = none) (hl : s.heap.IsList l its.toArray) (hi : IntsAre its ns)
    (h : ∀ h' tk t', (∀ b o, s.heap.get? b = some o → h'.get? b = some o) → Q (.int ns.sum t') { s with heap := h', toks := tk }) : wpAny (model prog w) A (call (.builtin "sum") [.ref l]) Q E s := by
  obtain ⟨xs, e⟩ := hi.allInts.items
  have hn : numsOf (intItems xs).toList = ns := by rw [← e]; exact hi.numsOf
  rw [nums_intItems] at hn
  rw [e] at hl
  refine PySem.sum_intListG hh hl fun h' tk t' hk => ?_
  have := h h' tk t' hk
  rw [preSum_eq, List.take_of_length_le (by simp), hn]; exact this
end

/-! ### the calls, by values (CallR of 03t; MtR of 06l) -/
section
variable {X : Cx}
/-- sum(xs) of a list of ints -/
def rSum (K : PySem.W.Frag) : List V → Hp → VK → Prop := fun vs H Q => ∃ (a : Addr) (ns : List Int), vs = [V.ref a] ∧ SqL K H a (ns.map V.int) ∧ Q (.int ns.sum) H
theorem cr_sum (hc : X.calm = true) : CallR X (.builtin "sum") (rSum X.K) := by
  intro pins s σ H vs us Q I r h
  obtain ⟨a, ns, rfl, hs, q⟩ := h
  obtain ⟨its, rv, hl, _⟩ := I.list hs
  rw [Vals.ref1 r]
  exact sum_raw (I.ok.hd hc) hl.isList rv.ints fun h' tk t' hk => ⟨.int _, H, I.kept hk, ⟨_, rfl⟩, q⟩
/-! sorted, sort (fewer than 64 items: the library's own bound) -/
end

/-! ### list.index, flat items -/
section
variable {X : Cx}
end

/-! ### type(x) of an own instance; is, is not of a module's class -/
section
variable {X : Cx}
end

/-! ### any(xs), all(xs) of a list of bools -/
section
variable {X : Cx}
end

/-! ### == and != of data at any depth: none, bools, ints, texts, lists, tuples -/
mutual
inductive Dp (K : PySem.W.Frag) (H : Hp) : V → PyData → Prop
  | non : Dp K H .non .none
  | bl (b : Bool) : Dp K H (.bl b) (.bool b)
  | int (i : Int) : Dp K H (.int i) (.int i)
  | str (x : Str) : Dp K H (.str x) (.str x)
  | lst {a : Addr} {xs : List V} {ds : List PyData} : SqL K H a xs → DpAll K H xs ds → Dp K H (.ref a) (.list ds)
  | tup {a : Addr} {xs : List V} {ds : List PyData} : SqT K H a xs → DpAll K H xs ds → Dp K H (.ref a) (.tuple ds)
inductive DpAll (K : PySem.W.Frag) (H : Hp) : List V → List PyData → Prop
  | nil : DpAll K H [] []
  | cons {v : V} {vs : List V} {d : PyData} {ds : List PyData} : Dp K H v d → DpAll K H vs ds → DpAll K H (v :: vs) (d :: ds)
end
section
variable {X : Cx} {pins : List (Addr × Obj)} {σ : St} {H : Hp} {s : Shared}
mutual
theorem Dp.reads (I : Inv X pins σ H s) : ∀ (d : PyData) (v : V) (u : Value), Dp X.K H v d → RelV v u → ∃ as, Reads s.heap u d as
  | .none, _, _, h, r => by
    cases h
    cases r
    exact ⟨_, Reads.none⟩
  | .bool b, _, _, h, r => by
    cases h
    cases r
    exact ⟨_, Reads.bool b⟩
  | .int i, _, _, h, r => by
    cases h
    obtain ⟨t, rfl⟩ := r
    exact ⟨_, Reads.int i t⟩
  | .str x, _, _, h, r => by
    cases h
    obtain ⟨t, rfl⟩ := r
    exact ⟨_, Reads.str x t⟩
  | .list ds, _, _, h, r => by
    cases h with
    | lst hs ha =>
      cases r
      obtain ⟨its, rv, ⟨o, n, ho, hc, _, hd⟩, _⟩ := I.list hs
      obtain ⟨as, hr⟩ := Dp.readsAll I ds _ its ha rv
      exact ⟨_, Reads.list ho hc hd hr⟩
  | .tuple ds, _, _, h, r => by
    cases h with
    | tup hs ha =>
      cases r
      obtain ⟨its, rv, ⟨o, ho, hc, n, hd⟩, _⟩ := I.tuple hs
      obtain ⟨as, hr⟩ := Dp.readsAll I ds _ its ha rv
      exact ⟨_, Reads.tuple ho hc hd hr⟩
  | .dict _, _, _, h, _ => by cases h
theorem Dp.readsAll (I : Inv X pins σ H s) : ∀ (ds : List PyData) (vs : List V) (us : List Value), DpAll X.K H vs ds → Vals vs us → ∃ as, ReadsAll s.heap us ds as
  | [], _, _, h, r => by
    cases h
    cases r
    exact ⟨_, ReadsAll.nil⟩
  | d :: ds, _, _, h, r => by
    cases h with
    | cons h1 h2 =>
      cases r with
      | cons r1 r2 =>
        obtain ⟨as, q1⟩ := Dp.reads I d _ _ h1 r1
        obtain ⟨bs, q2⟩ := Dp.readsAll I ds _ _ h2 r2
        exact ⟨_, ReadsAll.cons q1 q2⟩
end
end
section
variable {X : Cx}
def rEqD (K : PySem.W.Frag) : R2 := fun x y H Q => ∃ d e, Dp K H x d ∧ Dp K H y e ∧ SeqAt.shaped d = true ∧ SeqAt.shaped e = true ∧ Q (.bl (PyData.eqv d e)) H
def rNeD (K : PySem.W.Frag) : R2 := fun x y H Q => ∃ d e, Dp K H x d ∧ Dp K H y e ∧ SeqAt.shaped d = true ∧ SeqAt.shaped e = true ∧ Q (.bl (!PyData.eqv d e)) H
theorem op_eqD (hu : X.A.units + 64 < cLine) : OpR X (compareOp .Eq) (rEqD X.K) := by
  intro pins s σ H x y v u Q I rx ry h
  obtain ⟨d, e, hd, he, sd, se, q⟩ := h
  obtain ⟨as, r1⟩ := Dp.reads I d x v hd rx
  obtain ⟨bs, r2⟩ := Dp.reads I e y u he ry
  exact SeqAt.compareEq_shaped r1 r2 sd se hu ⟨.bl _, H, I, rfl, q⟩
theorem op_neD (hu : X.A.units + 64 < cLine) : OpR X (compareOp .NotEq) (rNeD X.K) := by
  intro pins s σ H x y v u Q I rx ry h
  obtain ⟨d, e, hd, he, sd, se, q⟩ := h
  obtain ⟨as, r1⟩ := Dp.reads I d x v hd rx
  obtain ⟨bs, r2⟩ := Dp.reads I e y u he ry
  exact SeqAt.compareNe_shaped r1 r2 sd se hu ⟨.bl _, H, I, rfl, q⟩
end
end L2

namespace L2
open PySem PySem.Spec PyProof.Rows
abbrev CellAt (h : Heap) (c : Addr) (v : Option Value) : Prop := h.IsCell c v
def relS (scope sc : Scope) : Scope :=
  { scope with names := scope.names.map fun (n, k) => if (k == .free && sc.kind == .function && sc.names.lookup n == some .cell) then (n, .cell) else (n, k) }

def cloFrom (cells : List (Str × Addr)) : List (Str × NameKind) → List (Str × Addr) → List (Str × Addr)
  | [], acc => acc
  | (n, k) :: r, acc => if k == .free then cloFrom cells r ((n, (cells.lookup n).getD 0) :: acc) else cloFrom cells r acc

theorem closure_loop (env : Env) (f : Str × NameKind → List (Str × Addr) → Sem (ForInStep (List (Str × Addr))))
    (hf : ∀ n k c, f (n, k) c = if k == .free then (do let a ← cellOf env n; pure (.yield ((n, a) :: c))) else pure (.yield c)) :
    ∀ (names : List (Str × NameKind)) (acc : List (Str × Addr)), (∀ y ∈ names, y.2 = .free → ∃ c, env.cells.lookup y.1 = some c) → forIn names acc f = pure (cloFrom env.cells names acc)
  | [], acc, _ => by rw [List.forIn_nil]; rfl
  | (n, k) :: r, acc, h => by
    rw [List.forIn_cons, hf]
    have ih := fun acc => closure_loop env f hf r acc fun y hy => h y (List.mem_cons_of_mem _ hy)
    unfold cloFrom
    by_cases hk : (k == NameKind.free) = true
    · rw [if_pos hk, if_pos hk]
      obtain ⟨c, hc⟩ := h (n, k) List.mem_cons_self (by simpa using hk)
      have e : cellOf env n = pure c := by unfold cellOf; rw [hc]
      rw [e]
      have e2 : (env.cells.lookup n).getD 0 = c := by rw [hc]; rfl
      rw [e2]
      exact ih _
    · rw [if_neg hk, if_neg hk]
      exact ih _
theorem closure_ok {scope : Scope} {env : Env} (h : ∀ y ∈ scope.names, y.2 = .free → ∃ c, env.cells.lookup y.1 = some c) : closureFor scope env = pure (cloFrom env.cells scope.names []) := by
  simp only [closureFor]
  rw [closure_loop env _ (fun n k c => rfl) scope.names [] h]
  rfl

theorem mem_lookup {α : Type} : ∀ {l : List (Str × α)} {n : Str} {c : α}, (n, c) ∈ l → ∃ c', l.lookup n = some c'
  | (k, v) :: r, n, c, h => by
    rw [List.lookup_cons]
    cases hb : n == k with
    | true => exact ⟨_, rfl⟩
    | false =>
      rcases List.mem_cons.mp h with e | h
      · cases e; simp at hb
      · exact mem_lookup h

theorem cloFrom_mem {cells : List (Str × Addr)} : ∀ {names : List (Str × NameKind)} {acc : List (Str × Addr)} {n : Str} {c : Addr}, (n, c) ∈ cloFrom cells names acc → (n, c) ∈ acc ∨ ((n, .free) ∈ names ∧ c = (cells.lookup n).getD 0)
  | [], _, _, _, h => .inl h
  | (m, k) :: r, acc, n, c, h => by
    unfold cloFrom at h
    split at h
    · rename_i hk
      have hk : k = .free := by simpa using hk
      rcases cloFrom_mem h with h | ⟨h1, h2⟩
      · rcases List.mem_cons.mp h with e | h
        · cases e; exact .inr ⟨hk ▸ List.mem_cons_self, rfl⟩
        · exact .inl h
      · exact .inr ⟨List.mem_cons_of_mem _ h1, h2⟩
    · rcases cloFrom_mem h with h | ⟨h1, h2⟩
      · exact .inl h
      · exact .inr ⟨List.mem_cons_of_mem _ h1, h2⟩
theorem cloFrom_acc {cells : List (Str × Addr)} : ∀ {names : List (Str × NameKind)} {acc : List (Str × Addr)} {p : Str × Addr}, p ∈ acc → p ∈ cloFrom cells names acc
  | [], _, _, h => h
  | (m, k) :: r, acc, p, h => by
    unfold cloFrom
    split
    · exact cloFrom_acc (List.mem_cons_of_mem _ h)
    · exact cloFrom_acc h
theorem cloFrom_has {cells : List (Str × Addr)} : ∀ {names : List (Str × NameKind)} {acc : List (Str × Addr)} {n : Str}, (n, .free) ∈ names → (n, (cells.lookup n).getD 0) ∈ cloFrom cells names acc
  | (m, k) :: r, acc, n, h => by
    unfold cloFrom
    rcases List.mem_cons.mp h with e | h
    · cases e
      exact cloFrom_acc List.mem_cons_self
    · split
      · exact cloFrom_has h
      · exact cloFrom_has h

theorem cells_mem : ∀ {names : List (Str × NameKind)} {h : Heap} {acc : List (Str × Addr)} {x : Str} {c : Addr}, (x, c) ∈ cellsFrom h.objs.size names acc →
    (x, c) ∈ acc ∨ ((x, .cell) ∈ names ∧ h.objs.size ≤ c ∧ CellAt (pushCells h names) c none)
  | [], _, _, _, _, h => .inl h
  | (n, k) :: r, h, acc, x, c, hm => by
    unfold cellsFrom at hm
    unfold pushCells
    split at hm
    · rename_i hk
      rw [if_pos hk]
      have hk : k = .cell := by simpa using hk
      rw [← Heap.size_push h { cls := .type "cell", data := .cell none }] at hm
      rcases cells_mem hm with hm | ⟨h1, h2, h3⟩
      · rcases List.mem_cons.mp hm with e | hm
        · cases e
          exact .inr ⟨hk ▸ List.mem_cons_self, Nat.le_refl _, _, pushCells_keeps r _ _ _ (Heap.get?_push_size _ rfl), rfl⟩
        · exact .inl hm
      · rw [Heap.size_push] at h2
        exact .inr ⟨List.mem_cons_of_mem _ h1, Nat.le_of_succ_le h2, h3⟩
    · rename_i hk
      rw [if_neg hk]
      rcases cells_mem hm with hm | ⟨h1, h2, h3⟩
      · exact .inl hm
      · exact .inr ⟨List.mem_cons_of_mem _ h1, h2, h3⟩
theorem cells_acc : ∀ {names : List (Str × NameKind)} {n : Nat} {acc : List (Str × Addr)} {p : Str × Addr}, p ∈ acc → p ∈ cellsFrom n names acc
  | [], _, _, _, h => h
  | (m, k) :: r, n, acc, p, h => by
    unfold cellsFrom
    split
    · exact cells_acc (List.mem_cons_of_mem _ h)
    · exact cells_acc h
theorem cells_has : ∀ {names : List (Str × NameKind)} {n : Nat} {acc : List (Str × Addr)} {x : Str}, (x, .cell) ∈ names → ∃ c, (x, c) ∈ cellsFrom n names acc
  | (m, k) :: r, n, acc, x, h => by
    unfold cellsFrom
    rcases List.mem_cons.mp h with e | h
    · cases e
      exact ⟨n, cells_acc List.mem_cons_self⟩
    · split
      · exact cells_has h
      · exact cells_has h
theorem cells_inj : ∀ {names : List (Str × NameKind)} {h : Heap} {acc : List (Str × Addr)} {x y : Str} {c : Addr}, (∀ p ∈ acc, p.2 < h.objs.size) → (∀ x y c, (x, c) ∈ acc → (y, c) ∈ acc → x = y) →
    (x, c) ∈ cellsFrom h.objs.size names acc → (y, c) ∈ cellsFrom h.objs.size names acc → x = y
  | [], _, _, _, _, _, _, hi, h1, h2 => hi _ _ _ h1 h2
  | (n, k) :: r, h, acc, x, y, c, hl, hi, h1, h2 => by
    unfold cellsFrom at h1 h2
    split at h1
    · rename_i hk
      rw [if_pos hk] at h2
      rw [← Heap.size_push h { cls := .type "cell", data := .cell none }] at h1 h2
      refine cells_inj (h := h.push _) (fun p hp => ?_) (fun x y c a b => ?_) h1 h2
      · rw [Heap.size_push]
        rcases List.mem_cons.mp hp with rfl | hp
        · exact Nat.lt_succ_self _
        · exact Nat.lt_succ_of_lt (hl p hp)
      · rcases List.mem_cons.mp a with e | a <;> rcases List.mem_cons.mp b with e' | b
        · cases e; cases e'; rfl
        · cases e; exact absurd (hl _ b) (Nat.lt_irrefl _)
        · cases e'; exact absurd (hl _ a) (Nat.lt_irrefl _)
        · exact hi _ _ _ a b
    · rename_i hk
      rw [if_neg hk] at h2
      exact cells_inj hl hi h1 h2

theorem newEnv_comp {M : Model} {A : Around} {E : Value → Shared → Prop} {s : Shared} {scope : Scope} {globals : Addr} {closure : List (Str × Addr)} {qual : Str} {func : Option Addr} {code : Value} {around : Env} {builtins : Addr} {Q : Env → Shared → Prop}
    (h : Q (newEnv scope s.heap.objs.size globals (cellsFrom (s.heap.objs.size + 1) scope.names closure) qual func code (some around) builtins)
      { s with heap := pushCells (s.heap.push { cls := .type "dict", data := .dict #[] }) scope.names }) :
    wpAny M A (newFunctionEnv scope globals closure [] qual func code (some around) builtins) Q E s := by
  simp only [newFunctionEnv, Option.isSome_some, if_true]
  refine wpAny_bind (wpAny_alloc ?_)
  refine wpAny_bind (wpAny_layCells _ (fun n k c => rfl) scope.names closure _ _ ?_)
  rw [show ({ s with heap := s.heap.push { cls := .type "dict", data := .dict #[] } } : Shared).heap.objs.size = s.heap.objs.size + 1 from Heap.size_push ..]
  rw [List.forIn_nil]
  exact wpAny_bind (wpAny_pure (wpAny_pure h))

/-- every name of the written scope, in the scope that runs -/
theorem lookup_relS {sc : Scope} : ∀ {names : List (Str × NameKind)} {x : Str} {k : NameKind},
    (names.map fun (n, k) => if (k == NameKind.free && sc.kind == .function && sc.names.lookup n == some .cell) then (n, NameKind.cell) else (n, k)).lookup x = some k →
    ∃ k', names.lookup x = some k' ∧ (k = k' ∨ (k' = .free ∧ k = .cell))
  | [], _, _, h => by simp at h
  | (n, k₀) :: r, x, k, h => by
    have ih := @lookup_relS sc r x k
    have h' : List.lookup x ((if (k₀ == NameKind.free && sc.kind == .function && sc.names.lookup n == some .cell) = true then (n, NameKind.cell) else (n, k₀)) :: (r.map _)) = some k := h
    cases hx : x == n with
    | true =>
      simp only [List.lookup_cons, hx]
      by_cases hc : (k₀ == NameKind.free && sc.kind == .function && sc.names.lookup n == some .cell) = true
      · rw [if_pos hc] at h'
        simp only [List.lookup_cons, hx] at h'
        cases h'
        simp only [Bool.and_eq_true, beq_iff_eq] at hc
        exact ⟨k₀, rfl, .inr ⟨hc.1.1, rfl⟩⟩
      · rw [if_neg hc] at h'
        simp only [List.lookup_cons, hx] at h'
        cases h'
        exact ⟨_, rfl, .inl rfl⟩
    | false =>
      simp only [List.lookup_cons, hx]
      by_cases hc : (k₀ == NameKind.free && sc.kind == .function && sc.names.lookup n == some .cell) = true
      · rw [if_pos hc] at h'
        simp only [List.lookup_cons, hx] at h'
        exact ih h'
      · rw [if_neg hc] at h'
        simp only [List.lookup_cons, hx] at h'
        exact ih h'
/-- the names of a comprehension's block: its own (with their places in N), or captured -/
structure BlkOk (N : List Str) (sc scope : Scope) (own : List (Str × Nat)) : Prop where
  kind : scope.kind = .function
  uniq : ∀ y ∈ scope.names, scope.names.lookup y.1 = some y.2
  ix : ∀ p ∈ own, N[p.2]? = some p.1
  free : ∀ y ∈ scope.names, y.2 = .free → sc.names.lookup y.1 = some .cell ∨ sc.names.lookup y.1 = some .free
  own : ∀ y ∈ scope.names, y.2 = .local ∨ y.2 = .cell → y.1 ∈ own.map (·.1) ∨ y.1 ∉ N
/-- the slots of the block's own names forgotten -/
def wipe (σ : St) : List Nat → St
  | [] => σ
  | v :: vs => (wipe σ vs).set v none
theorem wipe_length (σ : St) : ∀ vs : List Nat, (wipe σ vs).length = σ.length
  | [] => rfl
  | v :: vs => by unfold wipe; rw [List.length_set, wipe_length σ vs]
theorem wipe_some {σ : St} {i : Nat} {x : V} : ∀ {vs : List Nat}, (wipe σ vs)[i]? = some (some x) → σ[i]? = some (some x) ∧ i ∉ vs
  | [], h => ⟨h, by simp⟩
  | v :: vs, h => by
    unfold wipe at h
    by_cases hi : v = i
    · subst hi
      by_cases hv : v < (wipe σ vs).length
      · rw [List.getElem?_set_self hv] at h; cases h
      · rw [List.getElem?_eq_none (by simpa using hv)] at h; cases h
    · rw [List.getElem?_set_ne hi] at h
      obtain ⟨h1, h2⟩ := wipe_some h
      exact ⟨h1, by simp only [List.mem_cons, not_or]; exact ⟨fun e => hi e.symm, h2⟩⟩

/-- the context of a block that starts at s, its iterator's objects at fp -/
abbrev Cx.blk (X : Cx) (s : Shared) (H : Hp) (scope : Scope) (cenv : Env) (fp : List Addr) : Cx := { X with s_0 := s, H_0 := H, env := cenv, outer := X.stack, ex := fp, fn := fun x => scope.names.lookup x == some .cell, pn := [], xe := fun _ _ => False }
section
variable {X : Cx} {pins : List (Addr × Obj)} {σ : St} {H : Hp} {s : Shared}
theorem block_start {scope : Scope} {own : List (Str × Nat)} {fp : List Addr} (I : Inv X pins σ H s) (ok : BlkOk X.N X.env.scope scope own) (hN : X.N.Nodup) (hfp : ∀ b ∈ fp, FpOk X pins H b ∧ b < s.heap.objs.size) :
    Inv (X.blk s H scope (compEnvC scope (cellsFrom (s.heap.objs.size + 1) scope.names (cloFrom X.env.cells scope.names [])) s.heap.objs.size X.env) fp) [] (wipe σ (own.map (·.2))) H { s with heap := pushCells (s.heap.push { cls := .type "dict", data := .dict #[] }) scope.names } := by
  have hfree : ∀ y ∈ scope.names, y.2 = .free → ∃ c, X.env.cells.lookup y.1 = some c := fun y hy e => by
    rcases ok.free y hy e with k | k
    · exact I.ok.has _ (.inl k)
    · exact I.ok.has _ (.inr k)
  generalize hcenv : compEnvC scope (cellsFrom (s.heap.objs.size + 1) scope.names (cloFrom X.env.cells scope.names [])) s.heap.objs.size X.env = cenv
  have kp : ∀ b o, s.heap.get? b = some o → (pushCells (s.heap.push { cls := .type "dict", data := .dict #[] }) scope.names).get? b = some o := fun b o e => pushCells_keeps _ _ _ _ (Heap.get?_push_of_some _ e)
  have hL : cenv.locals = s.heap.objs.size := by rw [← hcenv]; rfl
  have hcl : cenv.cells = cellsFrom (s.heap.objs.size + 1) scope.names (cloFrom X.env.cells scope.names []) := by rw [← hcenv]; rfl
  have hsc : cenv.scope = relS scope X.env.scope := by rw [← hcenv]; rfl
  rw [← Heap.size_push s.heap { cls := .type "dict", data := .dict #[] }] at hcl
  have cm : ∀ {y c}, (y, c) ∈ cloFrom X.env.cells scope.names [] → X.env.cells.lookup y = some c ∧ c < s.heap.objs.size := fun {y c} hm => by
    rcases cloFrom_mem hm with hm | ⟨h1, rfl⟩
    · cases hm
    · obtain ⟨c, hc⟩ := hfree _ h1 rfl
      rw [hc]
      obtain ⟨w, z⟩ := I.cell _ _ hc
      exact ⟨rfl, z.lt⟩
  have mem : ∀ {y c}, cenv.cells.lookup y = some c → (X.env.cells.lookup y = some c ∧ c < s.heap.objs.size) ∨ (s.heap.objs.size + 1 ≤ c ∧ CellAt (pushCells (s.heap.push { cls := .type "dict", data := .dict #[] }) scope.names) c none) := fun {y c} e => by
    rw [hcl] at e
    rcases cells_mem (PySem.mem_of_lookup e) with hm | ⟨_, h2, h3⟩
    · exact .inl (cm hm)
    · rw [Heap.size_push] at h2; exact .inr ⟨h2, h3⟩
  have look : ∀ {y}, scope.names.lookup y = some .free → ∃ c, cenv.cells.lookup y = some c ∧ X.env.cells.lookup y = some c := fun {y} hl => by
    have hy : (y, NameKind.free) ∈ scope.names := PySem.mem_of_lookup hl
    obtain ⟨c', e'⟩ := mem_lookup (cells_acc (names := scope.names) (n := (s.heap.push { cls := .type "dict", data := .dict #[] }).objs.size) (cloFrom_has (cells := X.env.cells) (acc := []) hy))
    rw [← hcl] at e'
    refine ⟨c', e', ?_⟩
    rw [hcl] at e'
    rcases cells_mem (PySem.mem_of_lookup e') with hm | ⟨h1, _, _⟩
    · exact (cm hm).1
    · have := ok.uniq _ h1
      rw [hl] at this; cases this
  have okB : (X.blk s H scope cenv fp).Ok := by
    refine ⟨I.ok.mod, by show cenv.scope.kind = _; rw [hsc]; exact ok.kind, by show cenv.globals = _; rw [← hcenv]; exact I.ok.glob, by show cenv.builtins = _; rw [← hcenv]; exact I.ok.blt, by show s.heap.objs.size ≤ cenv.locals; rw [hL]; exact Nat.le_refl _,
      fun y z c e1 e2 => ?_, fun y hy => ?_, fun y c z e => ?_, I.ok.hd, I.ok.frames, .inl rfl, fun b hb => ⟨?_, fun y c e z => ?_⟩, I.bs, Nat.le_trans I.ok.bsz I.sz, fun b o e hb => ?_, fun b hb z => ?_, I.stack, I.stkFree⟩
    · have e1 : cenv.cells.lookup y = some c := e1
      have e2 : cenv.cells.lookup z = some c := e2
      rw [hcl] at e1 e2
      refine cells_inj (fun p hp => ?_) (fun y z c a b => I.ok.inj y z c (cm a).1 (cm b).1) (PySem.mem_of_lookup e1) (PySem.mem_of_lookup e2)
      rw [Heap.size_push]
      exact Nat.lt_succ_of_lt (cm (y := p.1) (c := p.2) hp).2
    · show ∃ c, cenv.cells.lookup y = some c
      have key : ∀ k, cenv.kindOf y = some k → (k = .cell ∨ k = .free) → ∃ c, cenv.cells.lookup y = some c := fun k hk hk' => by
        unfold Env.kindOf at hk
        rw [hsc] at hk
        obtain ⟨k', e, r⟩ := lookup_relS hk
        have : k' = .cell ∨ k' = .free := by
          rcases r with rfl | ⟨rfl, _⟩
          · exact hk'
          · exact .inr rfl
        rcases this with rfl | rfl
        · obtain ⟨c, hm⟩ := cells_has (n := (s.heap.push { cls := .type "dict", data := .dict #[] }).objs.size) (acc := cloFrom X.env.cells scope.names []) (PySem.mem_of_lookup e)
          obtain ⟨c', e'⟩ := mem_lookup hm
          exact ⟨c', by rw [hcl]; exact e'⟩
        · obtain ⟨c, h1, _⟩ := look e
          exact ⟨c, h1⟩
      rcases hy with hy | hy
      · exact key _ hy (.inl rfl)
      · exact key _ hy (.inr rfl)
    · have z : (scope.names.lookup y == some NameKind.cell) = true := z
      have z : scope.names.lookup y = some .cell := by simpa using z
      have e : cenv.cells.lookup y = some c := e
      rw [hcl] at e
      rcases cells_mem (PySem.mem_of_lookup e) with hm | ⟨_, h2, _⟩
      · rcases cloFrom_mem hm with hm | ⟨h1, _⟩
        · cases hm
        · have q := ok.uniq _ h1
          rw [z] at q; cases q
      · rw [Heap.size_push] at h2
        exact Nat.le_of_succ_le h2
    · show b ≠ cenv.locals
      rw [hL]; exact Nat.ne_of_lt (hfp b hb).2
    · have e : cenv.cells.lookup y = some c := e
      rcases mem e with ⟨h1, _⟩ | ⟨h1, _⟩
      · exact (hfp b hb).1.2.2.2.2.1 y c h1 z
      · have h2 : s.heap.objs.size + 1 ≤ b := by rw [← z]; exact h1
        exact absurd (Nat.lt_of_lt_of_le (hfp b hb).2 (Nat.le_of_succ_le h2)) (Nat.lt_irrefl _)
    · rcases (hfp b hb).1.2.2.2.1 with z | z
      · exact I.ok.noex b o e z
      · exact absurd (Nat.lt_of_lt_of_le (Heap.lt_size e) (Nat.le_trans I.ok.bsz z)) (Nat.lt_irrefl _)
    · rcases List.mem_cons.mp (I.stkSub b z) with z | z
      · exact (hfp b hb).1.2.1 z
      · exact (hfp b hb).1.2.2.1 z
  refine ⟨okB, rfl, I.bare, Un.kept kp, ⟨fun _ => none, ?_, fun i y av e1 e2 e3 => ?_⟩, fun y c e => ?_, ?_, fun y c e => ?_, fun p hp => ?_, I.hok.kept kp, by rw [wipe_length]; exact I.len⟩
  · show Heap.Ns _ cenv.locals _
    rw [hL]
    exact Heap.Ns.keeps (Heap.Ns.new ..) fun b o e => pushCells_keeps _ _ _ _ e
  · obtain ⟨e2, hne⟩ := wipe_some e2
    have hfr : scope.names.lookup y = some .free ∧ (cenv.kindOf y = some .cell ∨ cenv.kindOf y = some .free) := by
      have key : ∀ k, cenv.scope.names.lookup y = some k → k = .local ∨ k = .cell ∨ k = .free → scope.names.lookup y = some .free ∧ (cenv.kindOf y = some .cell ∨ cenv.kindOf y = some .free) := fun k hk hk' => by
        have hk0 := hk
        rw [hsc] at hk
        obtain ⟨k', e, r⟩ := lookup_relS hk
        have no : ¬ (k' = .local ∨ k' = .cell) := fun hh => by
          rcases ok.own _ (PySem.mem_of_lookup e) hh with e' | e'
          · obtain ⟨p, hp, hpy⟩ := List.mem_map.mp e'
            have e3 := ok.ix p hp
            have : p.1 = y := hpy
            rw [this] at e3
            exact hne (List.mem_map.mpr ⟨p, hp, nodup_ix hN e3 e1⟩)
          · exact e' (List.mem_of_getElem? e1)
        rcases r with rfl | ⟨rfl, rfl⟩
        · rcases hk' with rfl | rfl | rfl
          · exact absurd (.inl rfl) no
          · exact absurd (.inr rfl) no
          · exact ⟨e, .inr hk0⟩
        · exact ⟨e, .inl hk0⟩
      have e3 : Vis cenv.scope y := e3
      rcases e3 with e3 | e3 | e3
      · exact key _ e3 (.inl rfl)
      · exact key _ e3 (.inr (.inl rfl))
      · exact key _ e3 (.inr (.inr rfl))
    obtain ⟨m, hn, hl⟩ := I.loc
    have hvis : Vis X.env.scope y := (ok.free _ (PySem.mem_of_lookup hfr.1) rfl).elim (fun k => .inr (.inl k)) (fun k => .inr (.inr k))
    obtain ⟨w, r, q⟩ := hl i y av e1 e2 hvis
    refine ⟨w, r, .inr ⟨hfr.2, ?_⟩⟩
    obtain ⟨c, h1, h2⟩ := look hfr.1
    rcases q with ⟨k, _⟩ | ⟨_, c', e', z⟩
    · have k : X.env.scope.names.lookup y = some .local := k
      rcases ok.free _ (PySem.mem_of_lookup hfr.1) rfl with k' | k' <;> rw [show X.env.scope.names.lookup y = _ from k'] at k <;> cases k
    · rw [h2] at e'; cases e'
      exact ⟨c, h1, z.keeps kp⟩
  · have e : cenv.cells.lookup y = some c := e
    rcases mem e with ⟨h1, _⟩ | ⟨_, z⟩
    · obtain ⟨w, z⟩ := I.cell y c h1
      exact ⟨w, z.keeps kp⟩
    · exact ⟨_, z⟩
  · show H cenv.locals = none
    rw [hL]; exact I.hok.fresh (Nat.le_refl _)
  · have e : cenv.cells.lookup y = some c := e
    rcases mem e with ⟨h1, _⟩ | ⟨h1, _⟩
    · exact I.freeC y c h1
    · exact I.hok.fresh (Nat.le_of_succ_le h1)
  · exact absurd (show p ∈ ([] : List (Addr × Obj)) ++ [] from hp) (by simp)

/-- an item appended to a tracked list -/
theorem app_ok {E : Value → Shared → Prop} {D : Addr} {xs : List V} {y : V} {v : Value} {Q : Value → Shared → Prop} (I : Inv X pins σ H s) (hD : H D = some (.lst xs)) (hz : xs.length < sizeLine) (r : RelV y v)
    (h : ∀ s', Inv X pins σ (upd H D (.lst (xs ++ [y]))) s' → Q .none s') : wpAny (model X.prog X.w) X.A (call (.builtin "list.append") [.ref D, v]) Q E s := by
  obtain ⟨hz', its, n, ri, e⟩ := I.hok D _ hD
  have hl := ri.length
  refine append_at (hsz := by rw [List.size_toArray]; omega) e fun h' sb ho' => ?_
  refine h { s with heap := h' } (I.write (t' := s.toks) (by rw [hD]; trivial) (.inl rfl) (fun b u hb q => (sb.2 b hb).trans q) ⟨_, ho'⟩ ⟨by rw [List.length_append]; exact hz, its ++ [v], n + 1, ri.append (.cons r .nil), ?_⟩)
  rw [ho']
  simp

/-- a clause's tests -/
def PTs (X : Cx) (ifs : List Expr) (t : TT) : Prop :=
  ∀ (pins : List (Addr × Obj)) (s : Shared) (σ : St) (H : Hp) (Q : Bool → Hp → Prop), Inv X pins σ H s → t σ H Q →
    wpAny (model X.prog X.w) X.A (forIn ifs true fun c r => if r = true then do let ok ← isTrue c X.env (eval c X.env); pure (ForInStep.yield ok) else pure (ForInStep.yield r)) (TP X pins σ Q) X.xe s
def tYes : TT := fun _ H Q => Q true H
theorem pts_nil : PTs X [] tYes := fun _ _ _ H _ I h => wpAny_tests_nil ⟨H, I, h⟩
theorem pts_one {c : Expr} {t : TT} (h : PT X c t) : PTs X [c] t := fun pins s σ H Q I hw => wpAny_tests_one (h pins s σ H Q I hw)
end

theorem thnF {α : Type} {t : Sem α} {Q Q' : α → Shared → Prop} {M : Model} {A : Around} {E : Value → Shared → Prop} {s : Shared} (h : wpAny M A t Q (fun _ _ => False) s) (hQ : ∀ a s, Q a s → Q' a s) : wpAny M A t Q' E s := wpAny_mono h hQ fun _ _ z => False.elim z

/-- the loop of a list comprehension's block, the target of any form (codeAny_compLoop_tests asks a target that no tuple goes to; statement and proof follow it, PyProof/CompMap.lean:41-61, with the step letOwnedTupleGo kept) -/
theorem compLoop_any {prog : Program} {w : World} {A : Around} {R : Result → Shared → Prop} {s : Shared} {elt target iter : Expr} {ifs : List Expr} {scope : Scope} {pos : Pos} {it acc : Value} {env : Env} (I : Nat → Shared → Prop)
    (turn : ∀ n s, I n s → wpAny (model prog w) A (pyNext it) (fun r s₁ => match r with
      | none => R (.ok .next) s₁
      | some v => wpAny (model prog w) A (letOwnedTupleGo target it v) (fun _ s₁' => wpAny (model prog w) A (assign target env v) (fun _ s₂ =>
          wpAny (model prog w) A (forIn ifs true fun c r => if r = true then do let ok ← isTrue c env (eval c env); pure (ForInStep.yield ok) else pure (ForInStep.yield r)) (fun ok s₃ =>
            if ok = true then wpAny (model prog w) A (eval elt env) (fun x s₄ =>
              wpAny (model prog w) A (call (.builtin "list.append") [acc, x]) (fun _ s₅ => ∃ m, m < n ∧ I m s₅) (notedBy (model prog w) A env fun e s' => R (.error e) s') s₄) (notedBy (model prog w) A env fun e s' => R (.error e) s') s₃
            else ∃ m, m < n ∧ I m s₃) (notedBy (model prog w) A env fun e s' => R (.error e) s') s₂) (notedBy (model prog w) A env fun e s' => R (.error e) s') s₁') (notedBy (model prog w) A env fun e s' => R (.error e) s') s₁) (notedBy (model prog w) A env fun e s' => R (.error e) s') s)
    (n : Nat) (h : I n s) :
    codeAny (model prog w) A (.compLoop (.ListComp elt [⟨target, iter, ifs, 0⟩] scope pos) 0 it acc env) R s := by
  refine codeAny_loop rfl I (fun n s hI => ?_) n h
  show wpAny _ A ((compTurn (.ListComp elt [⟨target, iter, ifs, 0⟩] scope pos) 0 it acc env).onRaise (fun x => do noteFrame x env; theTreesLotGoes x)) _ _ s
  refine wpAny_noted ?_
  rw [compTurn_list]
  refine wpAny_bind (wpAny_standAt (wpAny_bind (wpAny_mono (turn n s hI) (fun r s₁ h₁ => ?_) fun _ _ h' => h')))
  cases r with
  | none => exact wpAny_pure h₁
  | some v =>
    refine wpAny_bind (wpAny_mono h₁ (fun _ s₁' h₁' => ?_) fun _ _ h' => h')
    refine wpAny_bind (wpAny_mono h₁' (fun _ s₂ h₂ => wpAny_bind (wpAny_mono h₂ (fun ok s₃ h₃ => ?_) fun _ _ h' => h')) fun _ _ h' => h')
    cases ok with
    | false => exact wpAny_pure ⟨rfl, h₃⟩
    | true =>
      exact wpAny_bind (wpAny_bind (wpAny_mono h₃ (fun x s₄ h₄ => wpAny_bind (wpAny_mono h₄ (fun _ s₅ h₅ => wpAny_pure (wpAny_pure ⟨rfl, h₅⟩)) fun _ _ h' => h')) fun _ _ h' => h'))

section
variable {X : Cx}
/-- [elt for target in iter if ..]: D the new list; W by the turn and a measure, Nx what a turn is to reach -/
def tLc (wi : TI) (g : TG) (tt : TT) (te : TE) (vs : List Nat) : TE := fun σ H Q => wi σ H fun J H1 => ∀ D, H1 D = none → ∃ W : Nat → Nat → Hp → Prop, (∃ m, W 0 m (upd H1 D (.lst []))) ∧ ∀ i m H, W i m H →
  (J.stop i H ∧ Q (.ref D) H) ∨ (J.go i H ∧ ∃ Nx : Hp → Prop, (∀ H', Nx H' → ∃ m', m' < m ∧ W (i + 1) m' H') ∧ ∀ x H', J.yld i H x H' → g x (wipe σ vs) H' fun σ2 H2 => wipe σ2 vs = wipe σ vs ∧ tt σ2 H2 fun b H3 =>
    if b = true then te σ2 H3 fun y H4 => ∃ acc, H4 D = some (.lst acc) ∧ acc.length < sizeLine ∧ Nx (upd H4 D (.lst (acc ++ [y]))) else Nx H3)
theorem lc_core {pins : List (Addr × Obj)} {s : Shared} {σ : St} {H : Hp} {Q : VK} {elt tg iter : Expr} {ifs : List Expr} {scope : Scope} {own : List (Str × Nat)} {pos pos' : Pos} {wi : TI} {g : TG} {tt : TT} {te : TE} {use : Option (Value → Sem Unit)} {Qf : Value → Shared → Prop}
    (hc : X.calm = true) (hN : X.N.Nodup) (I : Inv X pins σ H s) (hi : PI X tg iter wi) (ok : BlkOk X.N X.env.scope scope own)
    (hg : ∀ (s : Shared) (H : Hp) (C : Addr) (cl : List (Str × Addr)) (fp : List Addr), PG (X.blk s H scope (compEnvC scope cl C X.env) fp) tg g) (ht : ∀ (s : Shared) (H : Hp) (C : Addr) (cl : List (Str × Addr)) (fp : List Addr), PTs (X.blk s H scope (compEnvC scope cl C X.env) fp) ifs tt)
    (he : ∀ (s : Shared) (H : Hp) (C : Addr) (cl : List (Str × Addr)) (fp : List Addr), PE (X.blk s H scope (compEnvC scope cl C X.env) fp) elt te) (hs : ∀ x, foldedSetIterable iter X.env x = pure x)
    (h : tLc wi g tt te (own.map (·.2)) σ H Q)
    (hRR : ∀ D C s' m H', Inv X pins σ H' s' → Q (.ref D) H' → s'.heap.Ns C m → FpOk X pins H' C → compPost (model X.prog X.w) X.A X.xe use Qf (.ref D) C (.ok .next) s') :
    wpAny (model X.prog X.w) X.A (comprehension (.ListComp elt [⟨tg, iter, ifs, 0⟩] scope pos) scope X.env pos' (newList []) false (eval iter X.env) use) Qf X.xe s := by
  have hfree : ∀ y ∈ scope.names, y.2 = .free → ∃ c, X.env.cells.lookup y.1 = some c := fun y hy e => by
    rcases ok.free y hy e with k | k
    · exact I.ok.has _ (.inl k)
    · exact I.ok.has _ (.inr k)
  refine wpAny_comprehension_free (use := use) rfl hs (closure_ok hfree) ok.kind (fun y hy e => by rw [ok.uniq y hy, e])
    (thn (hi pins s σ H _ I h) fun xv s1 hx => thn hx fun itv s2 h2 => ?_)
  obtain ⟨it, fp, tn, J, H2, e, I2, T, st2, f2, q⟩ := h2
  subst e
  refine wpAny_newObj_type (newEnv_comp ?_) (by show 0 ≤ sizeLine; decide)
  generalize hD : s2.heap.objs.size = D
  have hDn : H2 D = none := I2.hok.fresh (Nat.le_of_eq hD)
  obtain ⟨W, ⟨m0, w0⟩, turn⟩ := q D hDn
  -- the new list
  generalize hs3 : ({ s2 with heap := s2.heap.push { cls := .type "list", data := .seq ([] : List Value).toArray } } : Shared) = s3
  have I3 : Inv X pins σ (upd H2 D (.lst [])) s3 := by
    rw [← hs3]
    refine I2.laid (t' := s2.toks) (fun b o e => Heap.get?_push_of_some _ e) (Nat.le_of_eq hD) ⟨Nat.zero_le _, [], 0, .nil, ?_⟩
    rw [← hD]
    exact Heap.get?_push_size _ rfl
  have h3 : s3.heap = s2.heap.push { cls := .type "list", data := .seq ([] : List Value).toArray } := by rw [← hs3]
  have sz : ∀ b ∈ fp, b < s2.heap.objs.size := fun b hb => by
    obtain ⟨o, e, _⟩ := T.obj _ _ st2 b hb
    exact Heap.lt_size e
  have f3 : ∀ b ∈ fp, FpOk X pins (upd H2 D (.lst [])) b ∧ b < s3.heap.objs.size := fun b hb => by
    have hlt := sz b hb
    refine ⟨⟨?_, (f2 b hb).2⟩, by rw [h3, Heap.size_push]; exact Nat.lt_succ_of_lt hlt⟩
    rw [upd_ne (by rw [← hD]; exact Nat.ne_of_lt hlt)]
    exact (f2 b hb).1
  have st3 : tn 0 s3.heap := T.keep _ _ _ st2 fun b _ o e => by rw [h3]; exact Heap.get?_push_of_some _ e
  have I4 := block_start I3 ok hN f3
  have pg := hg s3 (upd H2 D (.lst [])) s3.heap.objs.size (cellsFrom (s3.heap.objs.size + 1) scope.names (cloFrom X.env.cells scope.names [])) fp
  have pt := ht s3 (upd H2 D (.lst [])) s3.heap.objs.size (cellsFrom (s3.heap.objs.size + 1) scope.names (cloFrom X.env.cells scope.names [])) fp
  have pe := he s3 (upd H2 D (.lst [])) s3.heap.objs.size (cellsFrom (s3.heap.objs.size + 1) scope.names (cloFrom X.env.cells scope.names [])) fp
  show codeAny _ _ (.compStart (.ListComp elt [⟨tg, iter, ifs, 0⟩] scope pos) 0 (.ref it) (.ref D) (compEnvC scope (cellsFrom (s3.heap.objs.size + 1) scope.names (cloFrom X.env.cells scope.names [])) s3.heap.objs.size X.env)) (compPost (model X.prog X.w) X.A X.xe use Qf (.ref D) s3.heap.objs.size) { s3 with heap := pushCells (s3.heap.push { cls := .type "dict", data := .dict #[] }) scope.names }
  have nfp : ∀ b ∈ fp, (upd H2 D (.lst [])) b = none := fun b hb => (f3 b hb).1.1
  generalize hce : compEnvC scope (cellsFrom (s3.heap.objs.size + 1) scope.names (cloFrom X.env.cells scope.names [])) s3.heap.objs.size X.env = ce at I4 pg pt pe ⊢
  have cL : ce.locals = s3.heap.objs.size := by subst hce; rfl
  generalize hH3 : upd H2 D (.lst []) = H3 at I3 I4 pg pt pe w0 nfp f3
  generalize hs4 : ({ s3 with heap := pushCells (s3.heap.push { cls := .type "dict", data := .dict #[] }) scope.names } : Shared) = s4 at I4 ⊢
  have st4 : tn 0 s4.heap := T.keep _ _ _ st3 fun b _ o e => by rw [← hs4]; exact pushCells_keeps _ _ _ _ (Heap.get?_push_of_some _ e)
  have stat : ∀ {σ' : St} {H' : Hp} {s' : Shared}, Inv (X.blk s3 H3 scope ce fp) [] σ' H' s' → (∀ b ∈ fp, H' b = none) → ∀ b ∈ fp, FpOk (X.blk s3 H3 scope ce fp) [] H' b := fun {σ' H' s'} I' hn b hb =>
    ⟨hn b hb, (I'.ok.exf b hb).1, I'.ok.exfs b hb, .inl hb, fun x c e => (I'.ok.exf b hb).2 x c e, fun p hp => absurd (show p ∈ ([] : List (Addr × Obj)) ++ [] from hp) (by simp)⟩
  have loop : codeAny (model X.prog X.w) X.A (.compLoop (.ListComp elt [⟨tg, iter, ifs, 0⟩] scope pos) 0 (.ref it) (.ref D) ce) (compPost (model X.prog X.w) X.A X.xe use Qf (.ref D) s3.heap.objs.size) s4 := by
    refine compLoop_any (fun n s' => ∃ i H', Inv (X.blk s3 H3 scope ce fp) [] (wipe σ (own.map (·.2))) H' s' ∧ tn i s'.heap ∧ (∀ b ∈ fp, H' b = none) ∧ W i n H') ?_ m0 ⟨0, H3, I4, st4, nfp, w0⟩
    rintro n s5 ⟨i, H5, I5, st5, n5, w5⟩
    rcases turn i n H5 w5 with ⟨stop, qq⟩ | ⟨go, Nx, hNx, step⟩
    · have td := T.done (X.blk s3 H3 scope ce fp) rfl rfl rfl hc i [] s5 _ H5 (fun _ _ => False) I5 (stat I5 n5) st5 stop
      refine thnF td fun r s6 ⟨hr, I6⟩ => ?_
      subst hr
      -- back in the def's context
      have I7 : Inv X pins σ H5 s6 := I3.call' (ch := fp) I6.os I6.base I6.hok I6.bare fun b hb => ⟨(f3 b hb).1.2.2.2.1, (f3 b hb).1.2.1, (f3 b hb).1.2.2.2.2.1, (f3 b hb).1.2.2.2.2.2⟩
      have nC : H5 s3.heap.objs.size = none := by
        have z : H5 ce.locals = none := I6.free
        rw [cL] at z
        exact z
      obtain ⟨m, hn, _⟩ := I6.loc
      have hn : s6.heap.Ns ce.locals m := hn
      rw [cL] at hn
      exact hRR D s3.heap.objs.size s6 m H5 I7 qq hn (I3.fpOk (Nat.le_refl _) nC)
    · have ti := T.item (X.blk s3 H3 scope ce fp) rfl rfl rfl hc i [] s5 _ H5 (fun _ _ => False) I5 (stat I5 n5) st5 go
      refine thnF ti fun r s6 ⟨u, hr, h6⟩ => ?_
      subst hr
      refine thnF h6 fun _ s7 ⟨x, H7, I7, r7, y7, st7, n7⟩ => ?_
      have I7' := I7.pinned (stat I7 n7) (T.obj _ _ st7)
      refine thnF (pg _ s7 _ H7 x u _ I7' r7 (step x H7 y7)) fun _ s8 ⟨σ8, H8, I8, hw8, q8⟩ => ?_
      refine thnF (pt _ s8 σ8 H8 _ I8 q8) fun b s9 ⟨H9, I9, q9⟩ => ?_
      -- the turn's end
      have fin : ∀ {s' : Shared} {H' : Hp}, Inv (X.blk s3 H3 scope ce fp) ([] ++ pinsAt fp s7.heap) σ8 H' s' → Nx H' → ∃ m, m < n ∧ ∃ i H', Inv (X.blk s3 H3 scope ce fp) [] (wipe σ (own.map (·.2))) H' s' ∧ tn i s'.heap ∧ (∀ b ∈ fp, H' b = none) ∧ W i m H' := fun {s' H'} I' nx => by
        obtain ⟨m', hm, w'⟩ := hNx H' nx
        have pin' : ∀ b ∈ fp, ∀ o, s7.heap.get? b = some o → s'.heap.get? b = some o ∧ H' b = none := fun b hb o e =>
          let z := I'.pin (b, o) (List.mem_append_right _ (List.mem_append_right _ (mem_pinsAt hb e)))
          ⟨z.1, z.2.1⟩
        have hl : (wipe σ (own.map (·.2))).length = σ8.length := by rw [← hw8, wipe_length]
        refine ⟨m', hm, i + 1, H', (I'.unpinned (pins := [])).weak hl (fun j v e => ?_), T.keep _ _ _ st7 fun b hb o e => (pin' b hb o e).1, fun b hb => ?_, w'⟩
        · rw [← hw8] at e
          exact (wipe_some e).1
        · obtain ⟨o, e, _⟩ := T.obj _ _ st7 b hb
          exact (pin' b hb o e).2
      cases b with
      | false =>
        simp only [Bool.false_eq_true, if_false] at q9 ⊢
        exact fin I9 q9
      | true =>
        simp only [if_true] at q9 ⊢
        refine thnF (pe _ s9 σ8 H9 _ I9 q9) fun z s10 ⟨yv, H10, I10, r10, acc, hD10, hz10, nx⟩ => ?_
        exact app_ok (X := X.blk s3 H3 scope ce fp) I10 hD10 hz10 r10 fun s11 I11 => fin I11 nx
  exact codeAny_compStart_list loop (T.self X.A 0 _ _ _ st4 loop)
/-- as a value -/
theorem pe_lc {elt tg iter : Expr} {ifs : List Expr} {scope : Scope} {own : List (Str × Nat)} {pos : Pos} {wi : TI} {g : TG} {tt : TT} {te : TE} (hc : X.calm = true) (hN : X.N.Nodup) (hi : PI X tg iter wi) (ok : BlkOk X.N X.env.scope scope own)
    (hg : ∀ (s : Shared) (H : Hp) (C : Addr) (cl : List (Str × Addr)) (fp : List Addr), PG (X.blk s H scope (compEnvC scope cl C X.env) fp) tg g) (ht : ∀ (s : Shared) (H : Hp) (C : Addr) (cl : List (Str × Addr)) (fp : List Addr), PTs (X.blk s H scope (compEnvC scope cl C X.env) fp) ifs tt)
    (he : ∀ (s : Shared) (H : Hp) (C : Addr) (cl : List (Str × Addr)) (fp : List Addr), PE (X.blk s H scope (compEnvC scope cl C X.env) fp) elt te) (hs : ∀ x, foldedSetIterable iter X.env x = pure x := by intro _; rfl) :
    PE X (.ListComp elt [⟨tg, iter, ifs, 0⟩] scope pos) (tLc wi g tt te (own.map (·.2))) := by
  intro pins s σ H Q I h
  rw [eval_ListComp]
  refine lc_core hc hN I hi ok hg ht he hs h fun D C s' m H' I' q hn f => ⟨m, hn, fun h'' sb => ?_⟩
  obtain ⟨f0, f1, f2, f3, f4, f5⟩ := f
  exact ⟨.ref D, H', I'.turned (t' := s'.toks) (fun b o hb e => (sb.2 b hb).trans e) f0 f1 f3 f4 f5, rfl, q⟩
/-- name = [..] on one line, the name a local -/
theorem ps_setLc {i : Nat} {y : Str} {py : Pos} {elt tg iter : Expr} {ifs : List Expr} {scope : Scope} {own : List (Str × Nat)} {pos spos : Pos} {wi : TI} {g : TG} {tt : TT} {te : TE} (hc : X.calm = true) (hN : X.N.Nodup) (hy : X.N[i]? = some y) (hyl : X.env.scope.names.lookup y = some .local)
    (hsw : swapsWith (.ListComp elt [⟨tg, iter, ifs, 0⟩] scope pos) (some (.Name y py)) spos.line X.env = pure true) (hi : PI X tg iter wi) (ok : BlkOk X.N X.env.scope scope own)
    (hg : ∀ (s : Shared) (H : Hp) (C : Addr) (cl : List (Str × Addr)) (fp : List Addr), PG (X.blk s H scope (compEnvC scope cl C X.env) fp) tg g) (ht : ∀ (s : Shared) (H : Hp) (C : Addr) (cl : List (Str × Addr)) (fp : List Addr), PTs (X.blk s H scope (compEnvC scope cl C X.env) fp) ifs tt)
    (he : ∀ (s : Shared) (H : Hp) (C : Addr) (cl : List (Str × Addr)) (fp : List Addr), PE (X.blk s H scope (compEnvC scope cl C X.env) fp) elt te) (hs : ∀ x, foldedSetIterable iter X.env x = pure x := by intro _; rfl) :
    PS X (.Assign [.Name y py] (.ListComp elt [⟨tg, iter, ifs, 0⟩] scope pos) spos) (tAsg (tLc wi g tt te (own.map (·.2))) (gName i)) := by
  intro pins s σ H D I h
  rw [exec_Assign_Name_used _ _ _ _ hsw]
  refine wpAny_bind (wpAny_standAt (wpAny_bind ?_))
  show wpAny _ X.A (do let _ ← comprehension (.ListComp elt [⟨tg, iter, ifs, 0⟩] scope pos) scope X.env (firstIterPos [⟨tg, iter, ifs, 0⟩] pos) (newList []) false (eval iter X.env) (some (assign (.Name y py) X.env))) _ _ s
  have h : tLc wi g tt te (own.map (·.2)) σ H (fun x H1 => gName i x σ H1 D.nx) := h
  refine wpAny_bind (thn (lc_core (Qf := fun _ s' => SP X pins D .next s') hc hN I hi ok hg ht he hs h fun L C s' m H' I' q hn f => ?_) fun _ s' hq => wpAny_pure (wpAny_pure hq))
  show wpAny _ _ (assign (.Name y py) X.env (.ref L)) _ _ _
  refine wpAny_assign_Name (store_ok2 (v := V.ref L) I' hN hy (.inl hyl) rfl (fun s2 I2 ⟨a, sb, ha⟩ => ?_) (.inr hyl))
  obtain ⟨f0, f1, f2, f3, f4, f5⟩ := f
  have haC : C ≠ a := by
    rcases ha with z | z
    · rw [z]; exact f1
    · exact fun e => f4 y a z e.symm
  refine ⟨m, hn.sameBut sb haC, fun h3 sb3 => ?_⟩
  exact ⟨_, H', I2.turned (t' := s2.toks) (fun b o hb e => (sb3.2 b hb).trans e) f0 f1 f3 f4 f5, q⟩
theorem sw_true {elt : Expr} {gs : List Comprehension} {scope : Scope} {pos py : Pos} {y : Str} {l : Nat} {env : Env} (hk : env.scope.kind = .function) (hy : env.scope.names.lookup y = some .local) (hl : (py.line == pos.line) = true)
    (ha : (scope.names.any fun (n, k) => n == y && (k == .local || k == .cell)) = false) : swapsWith (.ListComp elt gs scope pos) (some (.Name y py)) l env = pure true := by
  have ky : env.kindOf y = some .local := hy
  have hb : env.blockKind = .function := by unfold Env.blockKind; rw [hk]; rfl
  unfold swapsWith
  simp only [hb, ky, ha, Expr.pos, hl]
  rfl
end

/-! ### the forms one uses -/
/-- over a range: Pv by the turn and the heap (the new list at D within) -/
theorem lc_range {lo : Int} {n : Nat} {g : TG} {tt : TT} {te : TE} {vs : List Nat} {σ : St} {H1 : Hp} {D : Addr} {Qd : Hp → Prop} (Pv : Nat → Hp → Prop) (h0 : Pv 0 (upd H1 D (.lst [])))
    (hs : ∀ i H, i < n → Pv i H → g (.int (lo + i)) (wipe σ vs) H fun σ2 H2 => wipe σ2 vs = wipe σ vs ∧ tt σ2 H2 fun b H3 =>
      if b = true then te σ2 H3 fun y H4 => ∃ acc, H4 D = some (.lst acc) ∧ acc.length < sizeLine ∧ Pv (i + 1) (upd H4 D (.lst (acc ++ [y]))) else Pv (i + 1) H3) (hd : ∀ H, Pv n H → Qd H) :
    ∃ W : Nat → Nat → Hp → Prop, (∃ m, W 0 m (upd H1 D (.lst []))) ∧ ∀ i m H, W i m H →
      ((Itr lo n).stop i H ∧ Qd H) ∨ ((Itr lo n).go i H ∧ ∃ Nx : Hp → Prop, (∀ H', Nx H' → ∃ m', m' < m ∧ W (i + 1) m' H') ∧ ∀ x H', (Itr lo n).yld i H x H' → g x (wipe σ vs) H' fun σ2 H2 => wipe σ2 vs = wipe σ vs ∧ tt σ2 H2 fun b H3 =>
        if b = true then te σ2 H3 fun y H4 => ∃ acc, H4 D = some (.lst acc) ∧ acc.length < sizeLine ∧ Nx (upd H4 D (.lst (acc ++ [y]))) else Nx H3) := by
  refine ⟨fun i m H => m = n - i ∧ i ≤ n ∧ Pv i H, ⟨n, by simp, Nat.zero_le _, h0⟩, ?_⟩
  rintro i m H ⟨rfl, hi, p⟩
  by_cases hlt : i < n
  · refine .inr ⟨hlt, Pv (i + 1), fun H' p' => ⟨n - (i + 1), by omega, rfl, hlt, p'⟩, fun x H' y => ?_⟩
    obtain ⟨e, y⟩ := y
    subst e y
    exact hs i _ hlt p
  · have e : i = n := by omega
    subst e
    exact .inl ⟨Nat.le_refl _, hd H p⟩
/-- over a list that the block leaves as it is -/
theorem lc_list {K : PySem.W.Frag} {a : Addr} {xs : List V} {g : TG} {tt : TT} {te : TE} {vs : List Nat} {σ : St} {H1 : Hp} {D : Addr} {Qd : Hp → Prop} (Pv : Nat → Hp → Prop) (h0 : Pv 0 (upd H1 D (.lst []))) (hl : ∀ i H, i ≤ xs.length → Pv i H → SqL K H a xs)
    (hs : ∀ i x H, xs[i]? = some x → Pv i H → g x (wipe σ vs) H fun σ2 H2 => wipe σ2 vs = wipe σ vs ∧ tt σ2 H2 fun b H3 =>
      if b = true then te σ2 H3 fun y H4 => ∃ acc, H4 D = some (.lst acc) ∧ acc.length < sizeLine ∧ Pv (i + 1) (upd H4 D (.lst (acc ++ [y]))) else Pv (i + 1) H3) (hd : ∀ H, Pv xs.length H → Qd H) :
    ∃ W : Nat → Nat → Hp → Prop, (∃ m, W 0 m (upd H1 D (.lst []))) ∧ ∀ i m H, W i m H →
      ((Itl K a).stop i H ∧ Qd H) ∨ ((Itl K a).go i H ∧ ∃ Nx : Hp → Prop, (∀ H', Nx H' → ∃ m', m' < m ∧ W (i + 1) m' H') ∧ ∀ x H', (Itl K a).yld i H x H' → g x (wipe σ vs) H' fun σ2 H2 => wipe σ2 vs = wipe σ vs ∧ tt σ2 H2 fun b H3 =>
        if b = true then te σ2 H3 fun y H4 => ∃ acc, H4 D = some (.lst acc) ∧ acc.length < sizeLine ∧ Nx (upd H4 D (.lst (acc ++ [y]))) else Nx H3) := by
  refine ⟨fun i m H => m = xs.length - i ∧ i ≤ xs.length ∧ Pv i H, ⟨xs.length, by simp, Nat.zero_le _, h0⟩, ?_⟩
  rintro i m H ⟨rfl, hi, p⟩
  have q := hl i H hi p
  by_cases hlt : i < xs.length
  · refine .inr ⟨⟨xs, xs[i], q, by simp [hlt]⟩, Pv (i + 1), fun H' p' => ⟨xs.length - (i + 1), by omega, rfl, hlt, p'⟩, fun x H' y => ?_⟩
    obtain ⟨e, y⟩ := y
    subst e
    exact hs i x _ (y xs q) p
  · have e : i = xs.length := by omega
    subst e
    exact .inl ⟨⟨xs, q, Nat.le_refl _⟩, hd H p⟩
def blkC (N : List Str) (sc scope : Scope) (own : List (Str × Nat)) : Bool :=
  (match scope.kind with | .function => true | _ => false) && (scope.names.all fun y => decide (scope.names.lookup y.1 = some y.2)) && (own.all fun p => decide (N[p.2]? = some p.1)) &&
    (scope.names.all fun y => match y.2 with
      | .free => (match sc.names.lookup y.1 with | some .cell => true | some .free => true | _ => false)
      | .local => decide (y.1 ∈ own.map (·.1)) || decide (y.1 ∉ N)
      | .cell => decide (y.1 ∈ own.map (·.1)) || decide (y.1 ∉ N)
      | _ => true)
theorem blkOk_by {N : List Str} {sc scope : Scope} {own : List (Str × Nat)} (h : blkC N sc scope own = true) : BlkOk N sc scope own := by
  unfold blkC at h
  simp only [Bool.and_eq_true, List.all_eq_true, decide_eq_true_eq] at h
  obtain ⟨⟨⟨h1, h2⟩, h3⟩, h4⟩ := h
  refine ⟨?_, h2, h3, fun y hy e => ?_, fun y hy e => ?_⟩
  · split at h1
    · assumption
    · cases h1
  · have q := h4 y hy
    simp only [e] at q
    split at q <;> first | exact .inl (by assumption) | exact .inr (by assumption) | cases q
  · have q := h4 y hy
    rcases e with e | e <;> (simp only [e, Bool.or_eq_true, decide_eq_true_eq] at q; exact q)
end L2

namespace L2
open PySem PySem.Spec PyProof.Rows

section
variable {prog : Program} {w : World} {A : Around} {R : Result → Shared → Prop} {s : Shared} {elt t0 i0 t1 i1 : Expr} {ifs0 ifs1 : List Expr} {scope : Scope} {pos : Pos} {it acc : Value} {env : Env}
end

section
variable {X : Cx}
end
end L2

namespace L2
open PySem PySem.Spec PyProof.Rows

/-! ### lists of pairs as tables -/
section
variable {κ : Type} [DecidableEq κ]
def valV (kvs : List (κ × V)) (k : κ) : Option V := (kvs.find? fun kv => decide (kv.1 = k)).map (·.2)
/-- in its place, or at the end -/
def putK (kvs : List (κ × V)) (k : κ) (v : V) : List (κ × V) :=
  if (kvs.any fun kv => decide (kv.1 = k)) = true then kvs.map (fun kv => if kv.1 = k then (kv.1, v) else kv) else kvs ++ [(k, v)]
def dropK (kvs : List (κ × V)) (k : κ) : List (κ × V) := kvs.filter fun kv => decide (kv.1 ≠ k)

theorem valV_pos {p : κ × V} {r : List (κ × V)} {k : κ} (e : p.1 = k) : valV (p :: r) k = some p.2 := by simp [valV, List.find?_cons, e]
theorem valV_neg {p : κ × V} {r : List (κ × V)} {k : κ} (e : ¬ p.1 = k) : valV (p :: r) k = valV r k := by simp [valV, List.find?_cons, e]
theorem valV_any (k : κ) : ∀ kvs : List (κ × V), (kvs.any fun kv => decide (kv.1 = k)) = (valV kvs k).isSome
  | [] => rfl
  | p :: r => by
    rw [List.any_cons]
    by_cases e : p.1 = k
    · simp only [valV_pos e, decide_eq_true e, Bool.true_or, Option.isSome_some]
    · rw [valV_neg e, decide_eq_false e, Bool.false_or]; exact valV_any k r
theorem valV_map (k j : κ) (y : V) : ∀ kvs : List (κ × V), valV (kvs.map fun kv => if kv.1 = k then (kv.1, y) else kv) j = (valV kvs j).map fun x => if j = k then y else x
  | [] => rfl
  | p :: r => by
    have ih := valV_map k j y r
    rw [List.map_cons]
    by_cases h : p.1 = k
    · rw [if_pos h]
      by_cases e : p.1 = j
      · rw [valV_pos (p := (p.1, y)) e, valV_pos e, Option.map_some, if_pos (e.symm.trans h)]
      · rw [valV_neg (p := (p.1, y)) e, valV_neg e, ih]
    · rw [if_neg h]
      by_cases e : p.1 = j
      · rw [valV_pos (p := p) e, valV_pos e, Option.map_some, if_neg (fun z => h (e.trans z))]
      · rw [valV_neg (p := p) e, valV_neg e, ih]
theorem valV_snoc (k j : κ) (y : V) : ∀ kvs : List (κ × V), valV kvs k = none → valV (kvs ++ [(k, y)]) j = if j = k then some y else valV kvs j
  | [], _ => by
    by_cases e : k = j
    · rw [if_pos e.symm]; exact valV_pos (p := (k, y)) e
    · rw [if_neg (fun z => e z.symm)]; exact valV_neg (p := (k, y)) e
  | p :: r, hn => by
    rw [List.cons_append]
    have hk : ¬ p.1 = k := fun z => by rw [valV_pos z] at hn; cases hn
    rw [valV_neg hk] at hn
    have ih := valV_snoc k j y r hn
    by_cases e : p.1 = j
    · rw [valV_pos e, valV_pos e, if_neg (fun z => hk (e.trans z))]
    · rw [valV_neg e, valV_neg e, ih]
theorem valV_put (kvs : List (κ × V)) (k j : κ) (y : V) : valV (putK kvs k y) j = if j = k then some y else valV kvs j := by
  unfold putK
  by_cases a : (kvs.any fun kv => decide (kv.1 = k)) = true
  · rw [if_pos a, valV_map]
    rw [valV_any] at a
    by_cases e : j = k
    · obtain ⟨x, hx⟩ := Option.isSome_iff_exists.mp a
      rw [if_pos e, e, hx, Option.map_some, if_pos rfl]
    · rw [if_neg e]
      cases valV kvs j with
      | none => rfl
      | some x => rw [Option.map_some, if_neg e]
  · rw [if_neg a]
    refine valV_snoc k j y kvs ?_
    rw [valV_any] at a
    cases q : valV kvs k with
    | none => rfl
    | some x => rw [q] at a; exact (a rfl).elim
theorem length_putK (kvs : List (κ × V)) (k : κ) (v : V) : (putK kvs k v).length ≤ kvs.length + 1 := by
  unfold putK
  split
  · rw [List.length_map]; omega
  · rw [List.length_append, List.length_cons, List.length_nil]; omega
theorem RelO.isSome_eq {o : Option V} {u : Option Value} (r : RelO o u) : o.isSome = u.isSome := by
  cases o with
  | none => cases u with
    | none => rfl
    | some _ => exact (show False from r).elim
  | some _ => cases u with
    | none => exact (show False from r).elim
    | some _ => rfl
theorem RelO.getD {o : Option V} {u : Option Value} {d : V} {d' : Value} (r : RelO o u) (rd : RelV d d') : RelV (o.getD d) (u.getD d') := by
  cases o with
  | none => cases u with
    | none => exact rd
    | some _ => exact (show False from r).elim
  | some _ => cases u with
    | none => exact (show False from r).elim
    | some _ => exact r

/-- raw tables of the same keys -/
theorem KV.val {kvs : List (κ × V)} {vs : List (κ × Value)} (r : KV kvs vs) (k : κ) : RelO (valV kvs k) (valueAt vs k) := by
  unfold KV at r
  induction r with
  | nil => exact True.intro
  | @cons p q ps qs h t ih =>
    obtain ⟨h1, h2⟩ := h
    by_cases e : p.1 = k
    · have e' : q.1 = k := h1.symm.trans e
      have b : valueAt (q :: qs) k = some q.2 := by simp [valueAt, List.find?_cons, e']
      rw [valV_pos e, b]; exact h2
    · have e' : ¬ q.1 = k := fun z => e (h1.trans z)
      have b : valueAt (q :: qs) k = valueAt qs k := by simp [valueAt, List.find?_cons, e']
      rw [valV_neg e, b]; exact ih
theorem KV.any {kvs : List (κ × V)} {vs : List (κ × Value)} (r : KV kvs vs) (k : κ) : (kvs.any fun kv => decide (kv.1 = k)) = vs.any fun kv => decide (kv.1 = k) := by
  unfold KV at r
  induction r with
  | nil => rfl
  | cons h t ih => rw [List.any_cons, List.any_cons, ih, h.1]
theorem KV.repl {kvs : List (κ × V)} {vs : List (κ × Value)} (r : KV kvs vs) (k : κ) {y : V} {u : Value} (ry : RelV y u) :
    KV (kvs.map fun kv => if kv.1 = k then (kv.1, y) else kv) (vs.map fun kv => if kv.1 = k then (kv.1, u) else kv) := by
  unfold KV at r ⊢
  induction r with
  | nil => exact .nil
  | @cons p q ps qs h t ih =>
    rw [List.map_cons, List.map_cons]
    refine .cons ?_ ih
    obtain ⟨h1, h2⟩ := h
    by_cases e : p.1 = k
    · rw [if_pos e, if_pos (h1.symm.trans e)]; exact ⟨h1, ry⟩
    · rw [if_neg e, if_neg (fun z => e (h1.trans z))]; exact ⟨h1, h2⟩
theorem KV.put {kvs : List (κ × V)} {vs : List (κ × Value)} (r : KV kvs vs) (k : κ) {y : V} {u : Value} (ry : RelV y u) : KV (putK kvs k y) (stored vs k u) := by
  unfold putK stored
  rw [r.any k]
  by_cases e : (vs.any fun kv => decide (kv.1 = k)) = true
  · rw [if_pos e, if_pos e]; exact r.repl k ry
  · rw [if_neg e, if_neg e]; exact Paired.snoc r ⟨rfl, ry⟩
theorem KV.drop {kvs : List (κ × V)} {vs : List (κ × Value)} (r : KV kvs vs) (k : κ) : KV (dropK kvs k) (without vs k) := by
  unfold KV at r ⊢
  unfold dropK without
  induction r with
  | nil => exact .nil
  | @cons p q ps qs h t ih =>
    obtain ⟨h1, h2⟩ := h
    rw [List.filter_cons, List.filter_cons]
    by_cases e : p.1 = k
    · have a : ¬ decide (p.1 ≠ k) = true := by simp [e]
      have b : ¬ decide (q.1 ≠ k) = true := by simp [h1.symm.trans e]
      rw [if_neg a, if_neg b]; exact ih
    · have e' : ¬ q.1 = k := fun z => e (h1.trans z)
      have a : decide (p.1 ≠ k) = true := by simp [e]
      have b : decide (q.1 ≠ k) = true := by simp [e']
      rw [if_pos a, if_pos b]; exact .cons ⟨h1, h2⟩ ih
theorem KV.keys {kvs : List (κ × V)} {vs : List (κ × Value)} (r : KV kvs vs) : kvs.map (·.1) = vs.map (·.1) := by
  unfold KV at r
  induction r with
  | nil => rfl
  | cons h t ih => rw [List.map_cons, List.map_cons, ih, h.1]
theorem KV.length {kvs : List (κ × V)} {vs : List (κ × Value)} (r : KV kvs vs) : kvs.length = vs.length := Paired.length r
end

/-! ### a tracked dict, its keys ints and texts or tuples of these -/
theorem kV_is {P : Program} {w : World} {k : Key} {u : Value} (r : RelV (kV k) u) : (mixKind P w).is k u = true := by
  cases k with
  | inl i => obtain ⟨t, e⟩ := (show ∃ t, u = Value.int i t from r); subst e; exact mixKind_int P w i t
  | inr x => obtain ⟨t, e⟩ := (show ∃ t, u = Value.str x t from r); subst e; exact mixKind_str P w x t
theorem items_are {P : Program} {w : World} : ∀ {ks : List Key} {us : List Value}, Vals (ks.map kV) us → ItemsAre (mixKind P w) ks us
  | [], _, r => by rw [List.map_nil] at r; cases r; exact .nil
  | k :: ks, _, r => by
    rw [List.map_cons] at r
    cases r with
    | cons h t => exact .cons (kV_is h) (items_are t)

/-- raw entries of a dict with tuple keys -/
abbrev KT (H : Hp) : List (List Key × V) → List (List Key × Addr × Value) → Prop := Paired fun p q => p.1 = q.1 ∧ H q.2.1 = some (.tup (p.1.map kV)) ∧ RelV p.2 q.2.2
theorem KT.val {H : Hp} {kvs : List (List Key × V)} {xs : List (List Key × Addr × Value)} (r : KT H kvs xs) (k : List Key) : RelO (valV kvs k) ((atKey xs k).map (·.2)) := by
  induction r with
  | nil => exact True.intro
  | @cons p q ps qs h t ih =>
    obtain ⟨h1, _, h2⟩ := h
    by_cases e : p.1 = k
    · have e' : q.1 = k := h1.symm.trans e
      have b : atKey (q :: qs) k = some q.2 := by simp [atKey, List.find?_cons, e']
      rw [valV_pos e, b]; exact h2
    · have e' : ¬ q.1 = k := fun z => e (h1.trans z)
      have b : atKey (q :: qs) k = atKey qs k := by simp [atKey, List.find?_cons, e']
      rw [valV_neg e, b]; exact ih
theorem KT.repl {H : Hp} {kvs : List (List Key × V)} {xs : List (List Key × Addr × Value)} (r : KT H kvs xs) (k : List Key) {y : V} {u : Value} (ry : RelV y u) :
    KT H (kvs.map fun kv => if kv.1 = k then (kv.1, y) else kv) (xs.map (putAt k u)) := by
  induction r with
  | nil => exact .nil
  | @cons p q ps qs h t ih =>
    rw [List.map_cons, List.map_cons]
    refine .cons ?_ ih
    obtain ⟨h1, h2, h3⟩ := h
    unfold putAt
    by_cases e : p.1 = k
    · rw [if_pos e, if_pos (h1.symm.trans e)]; exact ⟨h1, h2, ry⟩
    · rw [if_neg e, if_neg (fun z => e (h1.trans z))]; exact ⟨h1, h2, h3⟩
theorem KT.put {H : Hp} {kvs : List (List Key × V)} {xs : List (List Key × Addr × Value)} (r : KT H kvs xs) (k : List Key) {b : Addr} {y : V} {u : Value} (hb : H b = some (.tup (k.map kV))) (ry : RelV y u) :
    KT H (putK kvs k y) (storedH xs k b u) := by
  have e : (kvs.any fun kv => decide (kv.1 = k)) = (atKey xs k).isSome := by
    rw [valV_any, (r.val k).isSome_eq, Option.isSome_map]
  unfold putK storedH
  rw [e]
  by_cases q : (atKey xs k).isSome = true
  · rw [if_pos q, if_pos q]; exact r.repl k ry
  · rw [if_neg q, if_neg q]; exact Paired.snoc r ⟨rfl, hb, ry⟩
theorem KT.keeps {H H' : Hp} {kvs : List (List Key × V)} {xs : List (List Key × Addr × Value)} (r : KT H kvs xs) (ht : ∀ b ys, H b = some (.tup ys) → H' b = some (.tup ys)) : KT H' kvs xs :=
  Paired.mapP r fun _ _ z => ⟨z.1, ht _ _ z.2.1, z.2.2⟩

section
variable {P : Program} {w : World} {H : Hp} {h : Heap} {a : Addr}
theorem rd_of {u : HO} (ok : HOk P w H h) (e : Rd H a u) : ObjOk P w H h a u := e.ok ok
theorem dk_rd {kvs : List (Key × V)} (ok : HOk P w H h) (e : Rd H a (.dK kvs)) : kvs.length ≤ sizeLine ∧ (a == sysModules) = false ∧ ∃ vs, KV kvs vs ∧ h.DictOf (mixKind P w) a vs :=
  show ObjOk P w H h a (.dK kvs) from rd_of ok e
theorem dk_of {kvs : List (Key × V)} (ok : HOk P w H h) (e : H a = some (.dK kvs)) : kvs.length ≤ sizeLine ∧ (a == sysModules) = false ∧ ∃ vs, KV kvs vs ∧ h.DictOf (mixKind P w) a vs := dk_rd ok (.inl e)
/-- a tracked tuple of ints and texts is a key -/
theorem key_of {ks : List Key} (ok : HOk P w H h) (e : H a = some (.tup (ks.map kV))) : (tupleKind (mixKind P w)).is h ks a := by
  obtain ⟨_, its, r, o, h1, h2, n, h3⟩ := (show ObjOk P w H h a (.tup (ks.map kV)) from ok a _ e)
  exact ⟨o, its.toArray, n, h1, h2, h3, by simpa using items_are r⟩
theorem dt_rd {kvs : List (List Key × V)} (ok : HOk P w H h) (e : Rd H a (.dT kvs)) : kvs.length ≤ sizeLine ∧ (a == sysModules) = false ∧
    ∃ xs, KT H kvs xs ∧ h.DictOfH (tupleKind (mixKind P w)) a xs := by
  obtain ⟨z, y, xs, r, o, es, ep, h1, h2, h3, h4, h5⟩ := (show ObjOk P w H h a (.dT kvs) from rd_of ok e)
  refine ⟨z, y, xs, r, o, es, ep, h1, h2, h3, h4, fun x hx => ?_, h5⟩
  have all : ∀ {l : List (List Key × V)} {m : List (List Key × Addr × Value)}, KT H l m → ∀ x ∈ m, (tupleKind (mixKind P w)).is h x.1 x.2.1 := by
    intro l m q
    induction q with
    | nil => intro x hx; exact nomatch hx
    | @cons p q ps qs hq t ih =>
      intro x hx
      rcases List.mem_cons.mp hx with e | hx
      · subst e
        exact key_of ok (by rw [← hq.1]; exact hq.2.1)
      · exact ih x hx
  exact all r x hx
theorem dt_of {kvs : List (List Key × V)} (ok : HOk P w H h) (e : H a = some (.dT kvs)) : kvs.length ≤ sizeLine ∧ (a == sysModules) = false ∧
    ∃ xs, KT H kvs xs ∧ h.DictOfH (tupleKind (mixKind P w)) a xs := dt_rd ok (.inl e)
end

/-- what the dict at a holds at the key y -/
def DGet (H : Hp) (a : Addr) (y : V) (r : Option V) : Prop :=
  (∃ kvs k, Rd H a (.dK kvs) ∧ y = kV k ∧ r = valV kvs k) ∨ ∃ kvs k b, Rd H a (.dT kvs) ∧ y = .ref b ∧ H b = some (.tup (k.map kV)) ∧ r = valV kvs k
/-- the heap behind a[y] = v -/
def DPut (H : Hp) (a : Addr) (y v : V) (H' : Hp) : Prop :=
  (∃ kvs k, H a = some (.dK kvs) ∧ y = kV k ∧ kvs.length < sizeLine ∧ H' = upd H a (.dK (putK kvs k v))) ∨
  ∃ kvs k b, H a = some (.dT kvs) ∧ y = .ref b ∧ H b = some (.tup (k.map kV)) ∧ kvs.length < sizeLine ∧ H' = upd H a (.dT (putK kvs k v))
theorem DGet.k {H : Hp} {a : Addr} {kvs : List (Key × V)} {k : Key} (e : H a = some (.dK kvs)) : DGet H a (kV k) (valV kvs k) := .inl ⟨kvs, k, .inl e, rfl, rfl⟩
theorem DGet.t {H : Hp} {a b : Addr} {kvs : List (List Key × V)} {k : List Key} (e : H a = some (.dT kvs)) (eb : H b = some (.tup (k.map kV))) : DGet H a (.ref b) (valV kvs k) := .inr ⟨kvs, k, b, .inl e, rfl, eb, rfl⟩
theorem DPut.k {H : Hp} {a : Addr} {kvs : List (Key × V)} {k : Key} {v : V} (e : H a = some (.dK kvs)) (hl : kvs.length < sizeLine) : DPut H a (kV k) v (upd H a (.dK (putK kvs k v))) := .inl ⟨kvs, k, e, rfl, hl, rfl⟩
theorem DPut.t {H : Hp} {a b : Addr} {kvs : List (List Key × V)} {k : List Key} {v : V} (e : H a = some (.dT kvs)) (eb : H b = some (.tup (k.map kV))) (hl : kvs.length < sizeLine) :
    DPut H a (.ref b) v (upd H a (.dT (putK kvs k v))) := .inr ⟨kvs, k, b, e, rfl, eb, hl, rfl⟩

section
variable {X : Cx} {pins : List (Addr × Obj)} {σ : St} {H : Hp} {s : Shared} {a : Addr} {y v : V} {u r : Value} {o : Option V} {A : Around} {E : Value → Shared → Prop}

theorem Inv.big (I : Inv X pins σ H s) : sysModules < s.heap.objs.size := by
  have h : mainGlobals < s.heap.objs.size := (I.mod.glob.keeps I.bk).lt
  exact Nat.lt_trans (by decide) h

/-- d[y], there -/
theorem d_getItem {Q : Value → Shared → Prop} (hu : A.units + 1 < cLine) (I : Inv X pins σ H s) (g : DGet H a y (some v)) (ry : RelV y u) (h : ∀ w' s', Inv X pins σ H s' → RelV v w' → Q w' s') :
    wpAny (model X.prog X.w) A (getItem (.ref a) u) Q E s := by
  rcases g with ⟨kvs, k, e, ey, l⟩ | ⟨kvs, k, b, e, ey, eb, l⟩
  · subst ey
    obtain ⟨z, hd, vs, rel, dd⟩ := dk_rd I.hok e
    obtain ⟨w', hw, rw'⟩ := RelO.some_of (v := v) (o := valueAt vs k) (by rw [l]; exact rel.val k)
    exact wpAny_getItem_of (kV_is ry) dd.mapOf hw (h w' _ (I.tok _) rw')
  · subst ey
    cases (show u = Value.ref b from ry)
    obtain ⟨z, hd, xs, rel, dd⟩ := dt_rd I.hok e
    obtain ⟨w', hw, rw'⟩ := RelO.some_of (v := v) (o := (atKey xs k).map (·.2)) (by rw [l]; exact rel.val k)
    obtain ⟨p, hp, hp2⟩ := Option.map_eq_some_iff.mp hw
    refine wpAny_getItem_heap (tupleKind_room_in1 hu) (key_of I.hok eb) dd hp ?_
    rw [hp2]
    exact h w' _ (I.tok _) rw'
theorem d_notIn {Q : Value → Shared → Prop} (hu : A.units + 1 < cLine) (I : Inv X pins σ H s) (g : DGet H a y o) (ry : RelV y u) (h : ∀ s', Inv X pins σ H s' → Q (.bool (!o.isSome)) s') :
    wpAny (model X.prog X.w) A (compareOp .NotIn u (.ref a)) Q E s := by
  rcases g with ⟨kvs, k, e, ey, l⟩ | ⟨kvs, k, b, e, ey, eb, l⟩
  · subst ey
    obtain ⟨z, hd, vs, rel, dd⟩ := dk_rd I.hok e
    refine wpAny_notIn_of (kV_is ry) hd dd.mapOf ?_
    rw [← (rel.val k).isSome_eq, ← l]
    exact h _ (I.tok _)
  · subst ey
    cases (show u = Value.ref b from ry)
    obtain ⟨z, hd, xs, rel, dd⟩ := dt_rd I.hok e
    refine wpAny_notIn_heap (tupleKind_room_in1 hu) (key_of I.hok eb) hd dd ?_
    have q := (rel.val k).isSome_eq
    rw [Option.isSome_map] at q
    rw [← q, ← l]
    exact h _ (I.tok _)
/-- a dict's object is replaced -/
theorem d_write {h' : Heap} {t' : Nat} {ob : HO} (I : Inv X pins σ H s) (mu : Mut (H a)) (hs : Heap.SameBut a s.heap h') (he : ∃ q, h'.get? a = some q) (new : ObjOk X.prog X.w (upd H a ob) h' a ob) :
    Inv X pins σ (upd H a ob) { s with heap := h', toks := t' } :=
  I.write (x := a) (e := a) mu (.inl rfl) (fun b q hb z => (hs.2 b hb).trans z) he new
theorem dk_new {P : Program} {w : World} {H' : Hp} {h' : Heap} {kvs : List (Key × V)} {vs : List (Key × Value)} (z : kvs.length ≤ sizeLine) (hd : (a == sysModules) = false) (rel : KV kvs vs) (dd : h'.DictOf (mixKind P w) a vs) :
    ObjOk P w H' h' a (.dK kvs) := ⟨z, hd, vs, rel, dd⟩
/-- d[y] = v -/
theorem d_setItem {H' : Hp} {Q : Unit → Shared → Prop} (hu : A.units + 1 < cLine) (I : Inv X pins σ H s) (g : DPut H a y v H') (ry : RelV y u) (rv : RelV v r) (h : ∀ s', Inv X pins σ H' s' → Q () s') :
    wpAny (model X.prog X.w) A (setItem (.ref a) u r) Q E s := by
  rcases g with ⟨kvs, k, e, ey, l, eH⟩ | ⟨kvs, k, b, e, ey, eb, l, eH⟩
  · subst ey eH
    obtain ⟨z, hd, vs, rel, dd⟩ := dk_of I.hok e
    have hz : vs.length ≤ sizeLine := by rw [← rel.length]; exact z
    have hl : (putK kvs k v).length ≤ sizeLine := by have := length_putK kvs k v; omega
    refine wpAny_setItem_pairs (hsz := hz) (kV_is ry) dd fun h' dd' hs => h _ ?_
    have he : ∃ q, h'.get? a = some q := let ⟨q, _, _, hq, _⟩ := dd'; ⟨q, hq⟩
    exact d_write I (by rw [e]; exact True.intro) hs he (dk_new hl hd (rel.put k rv) dd')
  · subst ey eH
    cases (show u = Value.ref b from ry)
    obtain ⟨z, hd, xs, rel, dd⟩ := dt_of I.hok e
    have hz : xs.length ≤ sizeLine := by rw [← Paired.length rel]; exact z
    have hl : (putK kvs k v).length ≤ sizeLine := by have := length_putK kvs k v; omega
    refine wpAny_setItem_heap (hsz := hz) (tupleKind_room_in1 hu) (key_of I.hok eb) dd fun h' dd' hs => h _ ?_
    obtain ⟨q, es, ep, hq, h2, h3, h4, _, h5⟩ := dd'
    refine d_write I (by rw [e]; exact True.intro) hs ⟨q, hq⟩ ⟨hl, hd, _, (rel.put k eb rv).keeps fun c ys ec => ?_, q, es, ep, hq, h2, h3, h4, h5⟩
    rw [upd_ne (ne_of ec e (fun z => nomatch z))]
    exact ec
end

section
variable {X : Cx} {pins : List (Addr × Obj)} {σ : St} {H : Hp} {s : Shared} {a : Addr} {kvs : List (Key × V)} {k : Key} {u : Value} {A : Around} {E : Value → Shared → Prop}
end

/-! ### readings and rules -/
/-- the element of a subscription, not a slice -/
def NoSl (i : Expr) : Prop := ∀ ov iv, subscripted i false ov iv = operate [ov, iv] (getItem ov iv)
theorem subD_of {prog : Program} {w : World} {A : Around} {E : Value → Shared → Prop} {s : Shared} {env : Env} {value slice : Expr} {pos : Pos} {T id : String} {Q : Value → Shared → Prop}
    (hl : typeLookup (.type T) "__getitem__" = pure (some (.builtin id))) (hs : NoSl slice)
    (h : wpAny (model prog w) A (eval value env) (fun o s₁ => wpAny (model prog w) A (eval slice env) (fun i s₂ => s₂.TypeIs o T ∧ wpAny (model prog w) A (getItem o i) Q E s₂) E s₁) E s) :
    wpAny (model prog w) A (eval (.Subscript value slice pos) env) Q E s := by
  refine Subscript_ (wpAny_mono h (fun o s₁ h₁ => wpAny_mono h₁ (fun i s₂ h₂ => ?_) fun _ _ x => x) fun _ _ x => x)
  obtain ⟨hT, h₂⟩ := h₂
  unfold subscriptTail
  refine wpAny_bind ?_
  rw [getitemInPython_of_ne hT.not_modules]
  refine wpAny_bind (wpAny_specialOf hT hl ?_)
  have fin : wpAny (model prog w) A (subscripted slice false o i) (fun r s₃ => wpAny (model prog w) A (letTemporaryGo value o r >>= fun _ => pure r) Q E s₃) E s₂ := by
    rw [hs o i]
    exact wpAny_operating (wpAny_mono h₂ (fun r s₃ h₃ => wpAny_bind (wpAny_letTemporaryGo (wpAny_pure h₃))) fun _ _ x => x)
  first
    | exact wpAny_pure (wpAny_bind fin)
    | exact wpAny_bind (wpAny_pure (wpAny_bind fin))
    | exact wpAny_bind fin

theorem dict_typeIs {X : Cx} {pins : List (Addr × Obj)} {σ : St} {H : Hp} {s : Shared} {a : Addr} {y : V} {o : Option V} (I : Inv X pins σ H s) (g : DGet H a y o) : s.TypeIs (.ref a) "dict" := by
  rcases g with ⟨kvs, k, e, _, _⟩ | ⟨kvs, k, b, e, _, _, _⟩
  · obtain ⟨_, _, vs, _, dd⟩ := dk_rd I.hok e
    exact dd.typeIs
  · obtain ⟨_, _, xs, _, dd⟩ := dt_rd I.hok e
    exact dd.typeIs
/-- d[y] -/
def tDGet (td ty : TE) : TE := fun σ H Q => td σ H fun x H1 => ty σ H1 fun y H2 => ∃ a v, x = .ref a ∧ DGet H2 a y (some v) ∧ Q v H2
def tDNotIn (ty td : TE) : TE := fun σ H Q => ty σ H fun y H1 => td σ H1 fun x H2 => ∃ a o, x = .ref a ∧ DGet H2 a y o ∧ Q (.bl (!o.isSome)) H2
/-- d[y] = v -/
def sDPut (td ty tv : TE) : TS := fun D σ H => tv σ H fun v H1 => td σ H1 fun x H2 => ty σ H2 fun y H3 => ∃ a H4, x = .ref a ∧ DPut H3 a y v H4 ∧ D.nx σ H4
section
variable {X : Cx} {o i e value : Expr} {pos pos' tpos : Pos} {td ty tv : TE}
theorem pe_dget (hu : X.A.units + 1 < cLine) (ho : PE X o td) (hi : PE X i ty) (hs : NoSl i) : PE X (.Subscript o i pos) (tDGet td ty) := by
  intro pins s σ H Q I h
  refine subD_of PySem.F.slot_dict_getitem.lookup hs (thn (ho pins s σ H _ I h) fun u s1 ⟨x, H1, I1, rx, q1⟩ => thn (hi pins s1 σ H1 _ I1 q1) fun iv s2 ⟨y, H2, I2, ry, a, v, ex, g, q2⟩ => ?_)
  subst ex
  obtain rfl : u = Value.ref a := rx
  exact ⟨dict_typeIs I2 g, d_getItem hu I2 g ry fun w' s3 I3 rw' => ⟨v, H2, I3, rw', q2⟩⟩
theorem pc_dnotin (hu : X.A.units + 1 < cLine) (hi : PE X i ty) (ho : PE X o td) : PC X .NotIn i o (tDNotIn ty td) := by
  intro pins s σ H Q I h
  refine thn (hi pins s σ H _ I h) fun iv s1 ⟨y, H1, I1, ry, q1⟩ => thn (ho pins s1 σ H1 _ I1 q1) fun u s2 ⟨x, H2, I2, rx, a, ov, ex, g, q2⟩ => ?_
  subst ex
  obtain rfl : u = Value.ref a := rx
  exact d_notIn hu I2 g ry fun s3 I3 => ⟨.bl (!ov.isSome), H2, I3, rfl, q2⟩
theorem ps_dput (hu : X.A.units + 1 < cLine) (ho : PE X o td) (hi : PE X i ty) (hv : PE X value tv) (hs : swapsWith value (some (.Subscript o i pos')) pos.line X.env = pure false) :
    PS X (.Assign [.Subscript o i pos'] value pos) (sDPut td ty tv) := by
  intro pins s σ H D I h
  refine wpAny_Assign_Subscript (thn (hv pins s σ H _ I h) fun r s1 ⟨v, H1, I1, rv, q1⟩ => thn (ho pins s1 σ H1 _ I1 q1) fun u s2 ⟨x, H2, I2, rx, q2⟩ => thn (hi pins s2 σ H2 _ I2 q2) fun iv s3 ⟨y, H3, I3, ry, a, H4, ex, g, q3⟩ => ?_) hs
  subst ex
  obtain rfl : u = Value.ref a := rx
  exact d_setItem hu I3 g ry rv fun s4 I4 => ⟨σ, H4, I4, q3⟩
end

/-! ### displays -/
theorem dk_empty {P : Program} {w : World} {H : Hp} (h : Heap) (hb : sysModules < h.objs.size) : ObjOk P w H (h.push { cls := .type "dict", data := .dict #[] }) h.objs.size (.dK []) :=
  ⟨Nat.zero_le _, beq_eq_false_iff_ne.mpr (Ne.symm (Nat.ne_of_lt hb)), [], .nil, Heap.DictOf.new h⟩
section
variable {X : Cx} {pos : Pos}
end

/-- the pairs of a display, from the left -/
def tPairs : List (TE × TE) → St → Hp → (List (V × V) → Hp → Prop) → Prop
  | [], _, H, Q => Q [] H
  | (tk, tv) :: r, σ, H, Q => tk σ H fun x H1 => tv σ H1 fun y H2 => tPairs r σ H2 fun ps H3 => Q ((x, y) :: ps) H3
abbrev VV : List (V × V) → List (Value × Value) → Prop := Paired fun p q => RelV p.1 q.1 ∧ RelV p.2 q.2
def PPs (X : Cx) (pos : Pos) (keys : List (Option Expr)) (values : List Expr) (trs : List (TE × TE)) : Prop :=
  ∀ (pins : List (Addr × Obj)) (s : Shared) (σ : St) (H : Hp) (Q : List (V × V) → Hp → Prop), Inv X pins σ H s → tPairs trs σ H Q →
    wpAny (model X.prog X.w) X.A (evalPairs (pairTrees keys values X.env pos)) (fun vs s' => ∃ ps H', Inv X pins σ H' s' ∧ VV ps vs ∧ Q ps H') X.xe s
theorem pps_nil {X : Cx} {pos : Pos} : PPs X pos [] [] [] := fun pins s σ H Q I h => pairTrees_nil_walk ⟨[], H, I, .nil, h⟩
theorem pps_cons {X : Cx} {pos : Pos} {k v : Expr} {ks : List (Option Expr)} {vs : List Expr} {tk tv : TE} {trs : List (TE × TE)} (hk : PE X k tk) (hv : PE X v tv) (hr : PPs X pos ks vs trs) :
    PPs X pos (some k :: ks) (v :: vs) ((tk, tv) :: trs) := fun pins s σ H Q I h =>
  pairTrees_cons_walk (thn (hk pins s σ H _ I h) fun u s1 ⟨x, H1, I1, rx, q1⟩ => thn (hv pins s1 σ H1 _ I1 q1) fun w2 s2 ⟨y, H2, I2, ry, q2⟩ =>
    thn (hr pins s2 σ H2 _ I2 q2) fun ws s3 ⟨ps, H3, I3, rel, q3⟩ => ⟨(x, y) :: ps, H3, I3, .cons ⟨rx, ry⟩ rel, q3⟩)

def mergeK (kvs more : List (Key × V)) : List (Key × V) := more.foldl (fun acc kv => putK acc kv.1 kv.2) kvs
theorem KV.merge : ∀ {more : List (Key × V)} {rs : List (Key × Value)} {kvs : List (Key × V)} {vs : List (Key × Value)}, KV more rs → KV kvs vs → KV (mergeK kvs more) (merged vs rs) := by
  intro more rs kvs vs r
  unfold KV at r
  induction r generalizing kvs vs with
  | nil => intro q; exact q
  | @cons p q ps qs h t ih =>
    intro r0
    have e : KV (putK kvs p.1 p.2) (stored vs q.1 q.2) := by
      have := r0.put p.1 h.2
      rw [← h.1]; exact this
    exact ih e
theorem length_mergeK : ∀ (more kvs : List (Key × V)), (mergeK kvs more).length ≤ kvs.length + more.length
  | [], kvs => by show kvs.length ≤ kvs.length + 0; omega
  | p :: r, kvs => by
    have h1 := length_mergeK r (putK kvs p.1 p.2)
    have h2 := length_putK kvs p.1 p.2
    show (mergeK (putK kvs p.1 p.2) r).length ≤ _
    rw [List.length_cons]; omega
theorem carries_of {P : Program} {w : World} : ∀ {kvs : List (Key × V)} {ws : List (Value × Value)}, VV (kvs.map fun kv => (kV kv.1, kv.2)) ws → ∃ rs, Carries (mixKind P w) ws rs ∧ KV kvs rs
  | [], _, r => by rw [List.map_nil] at r; cases r; exact ⟨[], True.intro, .nil⟩
  | p :: kvs, _, r => by
    rw [List.map_cons] at r
    cases r with
    | @cons a b as bs h t =>
      obtain ⟨rs, c, q⟩ := carries_of (P := P) (w := w) t
      obtain ⟨b1, b2⟩ := b
      exact ⟨(p.1, b2) :: rs, ⟨kV_is h.1, rfl, c⟩, .cons ⟨rfl, h.2⟩ q⟩
/-- {k: v, ..} with keys ints and texts; the new dict stands empty while the pairs are made -/
def tDisp (trs : List (TE × TE)) : TE := fun σ H Q => ∀ p, H p = none → tPairs trs σ (upd H p (.dK [])) fun ps H2 => H2 p = some (.dK []) ∧ ∃ kvs : List (Key × V), ps = kvs.map (fun kv => (kV kv.1, kv.2)) ∧ kvs.length ≤ 15 ∧ Q (.ref p) (upd H2 p (.dK (mergeK [] kvs)))
theorem pe_disp {X : Cx} {pos : Pos} {keys : List (Option Expr)} {values : List Expr} {trs : List (TE × TE)} (h : PPs X pos keys values trs) (hall : keys.all (·.isSome) = true) (hl : keys.length = values.length) (h0 : keys ≠ [])
    (h15 : keys.length ≤ 15) : PE X (.Dict keys values pos) (tDisp trs) := by
  intro pins s σ H Q I q
  have hn := I.hok.fresh (Nat.le_refl s.heap.objs.size)
  have I1 := I.laid (a := s.heap.objs.size) (o := .dK []) (h' := s.heap.push { cls := .type "dict", data := .dict #[] }) (t' := s.toks) (fun _ _ q => Heap.get?_push_of_some _ q) (Nat.le_refl _) (dk_empty s.heap I.big)
  refine wpAny_Dict_walk (knd := mixKind X.prog X.w) hall hl h0 h15 (thn (h pins _ σ _ _ I1 (q _ hn)) fun ws s2 ⟨ps, H2, I2, rel, e, kvs, ep, lk, q2⟩ => ?_)
  subst ep
  obtain ⟨rs, c, rk⟩ := carries_of (P := X.prog) (w := X.w) rel
  obtain ⟨z, hd, vs0, r0, dd⟩ := dk_of I2.hok e
  cases r0
  refine ⟨rs, c, dd, fun h' dd' hs => ⟨.ref s.heap.objs.size, _, ?_, rfl, q2⟩⟩
  have hz : (mergeK [] kvs).length ≤ sizeLine := by
    have h1 := length_mergeK kvs []
    rw [List.length_nil] at h1
    rw [sizeLine_eq]; omega
  have he : ∃ q, h'.get? s.heap.objs.size = some q := let ⟨q, _, _, hq, _⟩ := dd'; ⟨q, hq⟩
  exact d_write I2 (by rw [e]; exact True.intro) hs he (dk_new hz hd (rk.merge .nil) dd')

/-! ### methods -/
/-- a method call o.m(e) of a built-in, with one argument: what must be seen of the text -/
structure M1 (X : Cx) (o : Expr) (m : Str) (apos : Pos) (e : Expr) (cpos : Pos) : Prop where
  base : attributeBase o m X.env (eval o X.env) = eval o X.env
  few : ((backTo cpos (starEach [e] X.env)).all (fun x => !x.1) && (backToKw cpos (keywordEach [] X.env)).all (fun x => x.1.isSome)
    && decide (([e] : List Expr).length + ([] : List Keyword).length + (if ([] : List Keyword).isEmpty then 0 else 1) < 30)) = true
  line : (apos.endLine == cpos.line) = true
  trees : backTo cpos (starEach [e] X.env) = [(false, eval e X.env)]
structure M2 (X : Cx) (o : Expr) (m : Str) (apos : Pos) (e f : Expr) (cpos : Pos) : Prop where
  base : attributeBase o m X.env (eval o X.env) = eval o X.env
  few : ((backTo cpos (starEach [e, f] X.env)).all (fun x => !x.1) && (backToKw cpos (keywordEach [] X.env)).all (fun x => x.1.isSome)
    && decide (([e, f] : List Expr).length + ([] : List Keyword).length + (if ([] : List Keyword).isEmpty then 0 else 1) < 30)) = true
  line : (apos.endLine == cpos.line) = true
  trees : backTo cpos (starEach [e, f] X.env) = [(false, eval e X.env), (false, eval f X.env)]

section
variable {X : Cx} {pins : List (Addr × Obj)} {σ : St} {H : Hp} {s : Shared} {a : Addr} {y d : V} {u r : Value} {o : Option V} {A : Around} {E : Value → Shared → Prop}
end

section
variable {X : Cx} {o e f : Expr} {apos cpos : Pos} {td ty tx : TE}
end

/-! ### dict(d): a copy -/
section
variable {X : Cx} {pins : List (Addr × Obj)} {σ : St} {H : Hp} {s : Shared} {a : Addr} {kvs : List (Key × V)} {A : Around} {E : Value → Shared → Prop}
end

section
variable {X : Cx} {pins : List (Addr × Obj)} {σ : St} {H : Hp} {s : Shared} {a : Addr} {y : V} {u : Value} {A : Around} {E : Value → Shared → Prop}
end
end L2

namespace L2
open PySem PySem.Spec PyProof.Rows

section
variable {prog : Program} {w : World} {A : Around} {E : Value → Shared → Prop}
end

section
variable {X : Cx}
end
end L2

namespace L2
open PySem PySem.Spec PyProof.Rows

section
variable {X : Cx} {pins : List (Addr × Obj)} {σ : St} {H : Hp} {s : Shared} {h' : Heap}
/-- several records of ours have turned -/
theorem Inv.turnedL {t' : Nat} {ch : List Addr} (I : Inv X pins σ H s) (k : ∀ b o, b ∉ ch → s.heap.get? b = some o → h'.get? b = some o) (hf : ∀ b ∈ ch, FpOk X pins H b) : Inv X pins σ H { s with heap := h', toks := t' } := by
  have nit : ∀ b u, H b = some u → b ∉ ch := fun b u e z => by
    have q := (hf b z).1
    rw [q] at e; cases e
  refine I.step (g' := s.gens) (d' := s.drawn) (ch := ch) (fun b hb => ⟨(hf b hb).2.2.2.1, (hf b hb).2.1, (hf b hb).2.2.2.2.1, (hf b hb).2.2.2.2.2⟩) (fun b o _ _ hc e _ => k b o hc e) (fun b o _ _ hc e _ => ⟨o.slots, k b o hc e⟩)
    (fun _ _ _ _ n => n) (fun b o hc e => ⟨o, k b o hc e⟩) (fun _ _ e => e) (fun _ _ _ e => e) (fun b ps e => ⟨#[], by rw [e]; simp⟩) (fun m hm => ?_) (fun b u e => ?_) I.bare
  · obtain ⟨o, es, ep, ho, r⟩ := hm
    exact ⟨o, es, ep, k _ o (fun z => (hf _ z).2.1 rfl) ho, r⟩
  · refine (I.hok b u e).stay (fun c v hc q => k c v ?_ q) (fun _ q => q) fun _ _ q => q
    rcases hc with z | z
    · rw [z]; exact nit b u e
    · exact nit c _ z
/-- .. and one new object is laid -/
theorem Inv.turnedNew {t' : Nat} {ch : List Addr} {T : Addr} {ob : HO} (I : Inv X pins σ H s) (k : ∀ b o, b ∉ ch → s.heap.get? b = some o → h'.get? b = some o) (hf : ∀ b ∈ ch, FpOk X pins H b) (hT : s.heap.objs.size ≤ T)
    (new : ObjOk X.prog X.w (upd H T ob) h' T ob) : Inv X pins σ (upd H T ob) { s with heap := h', toks := t' } := by
  have hn : H T = none := I.hok.fresh hT
  have nit : ∀ b u, H b = some u → b ∉ ch := fun b u e z => by
    have q := (hf b z).1
    rw [q] at e; cases e
  refine I.step (g' := s.gens) (d' := s.drawn) (ch := ch) (fun b hb => ⟨(hf b hb).2.2.2.1, (hf b hb).2.1, (hf b hb).2.2.2.2.1, (hf b hb).2.2.2.2.2⟩) (fun b o _ _ hc e _ => k b o hc e) (fun b o _ _ hc e _ => ⟨o.slots, k b o hc e⟩)
    (fun b o _ e n => ?_) (fun b o hc e => ⟨o, k b o hc e⟩) (fun b xs e => ?_) (fun b o u e => ?_) (fun b ps e => ⟨#[], ?_⟩) (fun m hm => ?_) (fun b u e => ?_) I.bare
  · rw [upd_ne (Nat.ne_of_lt (Nat.lt_of_lt_of_le (Heap.lt_size e) hT))]; exact n
  · rw [upd_ne (ne_of_none e hn)]; exact e
  · rw [upd_ne (ne_of_none e hn)]; exact e
  · rw [upd_ne (ne_of_none e hn), e]; simp
  · obtain ⟨o, es, ep, ho, r⟩ := hm
    exact ⟨o, es, ep, k _ o (fun z => (hf _ z).2.1 rfl) ho, r⟩
  · by_cases hb : b = T
    · subst hb
      rw [upd_same] at e
      cases e
      exact new
    · rw [upd_ne hb] at e
      refine (I.hok b u e).stay (fun c v hc q => k c v ?_ q) (fun c q => by rw [upd_ne (ne_of_none q hn)]; exact q) fun c xs q => by rw [upd_ne (ne_of_none q hn)]; exact q
      rcases hc with z | z
      · rw [z]; exact nit b u e
      · exact nit c _ z

/-! ### locking a thing while a statement runs -/
end
section
variable {X : Cx}
/-! ### one iterator just laid -/
end

/-! ### range with a step -/
section
variable {X : Cx} {tg : Expr}
end
/-! ### reversed(list) -/
section
variable {X : Cx} {tg : Expr}
end

/-! ### a str -/
/-! ### a dict's keys: any dict's entries -/
section
variable {prog : Program} {w : World} {A : Around} {E : Value → Shared → Prop} {s : Shared}
end

/-! ### a locked dict -/
theorem paired_get {α β : Type} {G : α → β → Prop} {l₁ : List α} {l₂ : List β} (h : Paired G l₁ l₂) : ∀ {i : Nat} {a : α}, l₁[i]? = some a → ∃ b, l₂[i]? = some b ∧ G a b := by
  induction h with
  | nil => intro i a e; simp at e
  | @cons a b l₁ l₂ r t ih =>
    intro i a' e
    cases i with
    | zero =>
      simp only [List.getElem?_cons_zero, Option.some.injEq] at e
      subst e
      exact ⟨b, rfl, r⟩
    | succ j =>
      simp only [List.getElem?_cons_succ] at e ⊢
      exact ih e
section
variable {X : Cx} {pins : List (Addr × Obj)} {σ : St} {H : Hp} {s : Shared} {d : Addr} {o : Obj}
end

section
variable {P : Program} {w : World} {K : PySem.W.Frag} {tg : Expr} {d : Addr} {o : Obj} {es : Array DictEntry} {ep : Nat}
end

/-! ### for k in d, d.keys(), d.values(), d.items() -/
section
variable {X : Cx} {tg e : Expr} {td : TE} {apos cpos : Pos}
end

/-! ### enumerate(list) -/
/-! ### zip(list, list) -/
theorem boot_zip5 : bootBuiltins "zip" = some (.type "zip") := by decide +kernel
/-- the lists at a and b as they stand at each turn, the items in new pairs -/
def Itz (K : PySem.W.Frag) (a b : Addr) : It :=
  ⟨fun i H => ∃ (xs ys : List V) (x y : V), SqL K H a xs ∧ SqL K H b ys ∧ xs[i]? = some x ∧ ys[i]? = some y,
    fun i H v H' => ∃ T x y, v = .ref T ∧ H T = none ∧ H' = upd H T (.tup [x, y]) ∧ (∀ xs, SqL K H a xs → xs[i]? = some x) ∧ ∀ ys, SqL K H b ys → ys[i]? = some y,
    fun i H => ∃ xs ys : List V, SqL K H a xs ∧ SqL K H b ys ∧ (xs.length ≤ i ∨ ys.length ≤ i)⟩
theorem turn_zip {P : Program} {w : World} {K : PySem.W.Frag} {elts : List Expr} {kk : Nat} {tpos : Pos} {a b z TI TO i1 i2 : Addr} (D : ZipApart z TI TO i1 i2 a b) :
    Turn P w K (.Tuple elts kk tpos) (Itz K a b) [z, TI, TO, i1, i2] z (fun i h => IsZip h z TI TO .none ∧ IsPair h TI (.ref i1) (.ref i2) ∧ (∃ x y, IsPair h TO x y) ∧ h.IsListIter i1 a i ∧ h.IsListIter i2 b i) where
  mem := by simp
  obj := fun i h st c hc => by
    obtain ⟨hz, hTI, ⟨x, y, hTO⟩, ⟨o1, e1, _, d1⟩, ⟨o2, e2, _, d2⟩⟩ := st
    have e' : c = z ∨ c = TI ∨ c = TO ∨ c = i1 ∨ c = i2 := by simpa using hc
    rcases e' with q | q | q | q | q
    · rw [q]; exact ⟨_, hz, fun v q => nomatch q⟩
    · rw [q]; exact ⟨_, hTI, fun v q => nomatch q⟩
    · rw [q]; exact ⟨_, hTO, fun v q => nomatch q⟩
    · rw [q]; exact ⟨o1, e1, fun v q => by rw [d1] at q; cases q⟩
    · rw [q]; exact ⟨o2, e2, fun v q => by rw [d2] at q; cases q⟩
  keep := fun i h h' st k => by
    obtain ⟨hz, hTI, ⟨x, y, hTO⟩, h1, h2⟩ := st
    exact ⟨k z (by simp) _ hz, k TI (by simp) _ hTI, ⟨x, y, k TO (by simp) _ hTO⟩, h1.at fun o q => k i1 (by simp) o q, h2.at fun o q => k i2 (by simp) o q⟩
  item := by
    intro X hP hw hK hc i pins s σ H E I hf st hg
    subst hP hw hK
    obtain ⟨hz, hTI, ⟨x0, y0, hTO⟩, h1, h2⟩ := st
    obtain ⟨xs, ys, x, y, hqx, hqy, hx, hy⟩ := hg
    obtain ⟨its, rv, p, _⟩ := I.list hqx
    obtain ⟨its2, rv2, p2, _⟩ := I.list hqy
    obtain ⟨u, hu, ru⟩ := rv.get hx
    obtain ⟨u2, hu2, ru2⟩ := rv2.get hy
    have hzl : z < s.heap.objs.size := Heap.lt_size hz
    refine wpAny_pyNext_zip_item D hz hTI hTO h1 h2 p.isList p2.isList (x := u) (y := u2) (by simpa using hu) (by simpa using hu2) fun h' z' TO' h1' h2' hT hsz hk => ?_
    refine ⟨_, rfl, wpAny_letOwnedTupleGo_zip (s := { s with heap := h' }) z' fun h'' z'' sb => ?_⟩
    have hT2 : h''.get? s.heap.objs.size = some { cls := .type "tuple", data := .seq #[u, u2] } := (sb.2 _ (Nat.ne_of_gt hzl)).trans hT
    have new : ObjOk X.prog X.w (upd H s.heap.objs.size (.tup [x, y])) h'' s.heap.objs.size (.tup [x, y]) :=
      ⟨by show 2 ≤ sizeLine; decide, [u, u2], .cons ru (.cons ru2 .nil), ⟨_, hT2, rfl, _, rfl⟩⟩
    have I1 : Inv X pins σ (upd H s.heap.objs.size (.tup [x, y])) { s with heap := h'' } :=
      I.turnedNew (t' := s.toks) (ch := [z, TI, TO, i1, i2]) (fun c o hb q => (sb.2 c (fun q' => hb (by simp [q']))).trans (hk c o (fun q' => hb (by simp [q'])) (fun q' => hb (by simp [q'])) (fun q' => hb (by simp [q'])) (fun q' => hb (by simp [q'])) q)) hf (Nat.le_refl _) new
    refine ⟨.ref s.heap.objs.size, _, I1, rfl, ⟨_, x, y, rfl, I.hok.fresh (Nat.le_refl _), rfl, fun l hl => by rw [I.list_inj hl hqx]; exact hx, fun l hl => by rw [I.list_inj hl hqy]; exact hy⟩, ⟨z'', ?_, ⟨u, u2, ?_⟩, ?_, ?_⟩, fun c hcm => ?_⟩
    · exact (sb.2 _ D.TIz).trans (hk _ _ D.TIz D.TITO D.TIi1 D.TIi2 hTI)
    · exact (sb.2 _ D.TOz).trans TO'
    · exact h1'.at fun o q => (sb.2 _ D.i1z).trans q
    · exact h2'.at fun o q => (sb.2 _ D.i2z).trans q
    · have hlt : c < s.heap.objs.size := by
        have e' : c = z ∨ c = TI ∨ c = TO ∨ c = i1 ∨ c = i2 := by simpa using hcm
        rcases e' with q | q | q | q | q
        · rw [q]; exact hzl
        · rw [q]; exact Heap.lt_size hTI
        · rw [q]; exact Heap.lt_size hTO
        · rw [q]; obtain ⟨_, e1, _⟩ := h1; exact Heap.lt_size e1
        · rw [q]; obtain ⟨_, e2, _⟩ := h2; exact Heap.lt_size e2
      rw [upd_ne (Nat.ne_of_lt hlt)]
      exact (hf c hcm).1
  done := by
    intro X hP hw hK hc i pins s σ H E I hf st hg
    subst hP hw hK
    obtain ⟨hz, hTI, ⟨x0, y0, hTO⟩, h1, h2⟩ := st
    obtain ⟨xs, ys, hqx, hqy, hend⟩ := hg
    obtain ⟨its, rv, p, _⟩ := I.list hqx
    obtain ⟨its2, rv2, p2, _⟩ := I.list hqy
    have l1 := rv.length
    have l2 := rv2.length
    have he : its.toArray[i]? = none ∨ its2.toArray[i]? = none := by
      rcases hend with q | q
      · exact .inl (by simp; omega)
      · exact .inr (by simp; omega)
    exact wpAny_pyNext_zip_end (I.ok.hd hc) D hz hTI hTO h1 h2 p.isList p2.isList he fun h' hk => ⟨rfl, I.turnedL (t' := s.toks) (ch := [z, TI, TO, i1, i2]) (fun c o hb q =>
      hk c o (fun q' => hb (by simp [q'])) (fun q' => hb (by simp [q'])) (fun q' => hb (by simp [q'])) (fun q' => hb (by simp [q'])) q) hf⟩
  self := fun A i s Q E st h => wpAny_pyIter_zip st.1 h
def iZip (K : PySem.W.Frag) (ta : TA) : TI := fun σ H R => ta σ H fun vs H1 => ∃ a b xs ys, vs = [.ref a, .ref b] ∧ SqL K H1 a xs ∧ SqL K H1 b ys ∧ R (Itz K a b) H1
theorem pi_zip {X : Cx} {e e2 : Expr} {ta : TA} {p pos tpos : Pos} {elts : List Expr} {kk : Nat} (hg : Gl X "zip") (hm : X.mg "zip" = none) (ha : PA X [e, e2] ta)
    (hs : starEach [e, e2] X.env = (false, eval e X.env) :: starEach [e2] X.env := by rfl) (hpl : (backTo pos (starEach [e2] X.env)).any (·.1) = false := by rfl) :
    PI X (.Tuple elts kk tpos) (.Call (.Name "zip" p) [e, e2] [] pos) (iZip X.K ta) := by
  intro pins s σ H R I h
  refine Call_ (ld_blt I hg hm boot_zip5 (PyProof.Rows.callWith_type1 (thn (ha pos pins s σ H _ I h) fun us s1 ⟨vs, H1, I1, r1, q1⟩ => ?_) hs hpl))
  obtain ⟨a, b, xs, ys, ex, hqx, hqy, q⟩ := q1
  subst ex
  cases r1 with
  | cons r rr =>
    cases rr with
    | cons r' rr =>
      cases rr
      cases r
      cases r'
      obtain ⟨its, rv, p1, _⟩ := I1.list hqx
      obtain ⟨its2, rv2, p2, _⟩ := I1.list hqy
      have la : a < s1.heap.objs.size := p1.lt
      have lb : b < s1.heap.objs.size := p2.lt
      refine call_zip_2 p1.isList p2.isList fun h' hz hTI hTO h1 h2 hsz hk => wpAny_pyIter_zip hz ?_
      have I2 : Inv X pins σ H1 { s1 with heap := h' } := I1.kept (t' := s1.toks) hk
      refine ⟨s1.heap.objs.size + 4, [s1.heap.objs.size + 4, s1.heap.objs.size + 2, s1.heap.objs.size + 3, s1.heap.objs.size, s1.heap.objs.size + 1], _, _, H1, rfl, I2, turn_zip (PySem.W.ktu_apart s1.heap.objs.size a b la lb), ⟨hz, hTI, ⟨_, _, hTO⟩, h1, h2⟩, fun c hcm => ?_, q⟩
      have e' : c = s1.heap.objs.size + 4 ∨ c = s1.heap.objs.size + 2 ∨ c = s1.heap.objs.size + 3 ∨ c = s1.heap.objs.size ∨ c = s1.heap.objs.size + 1 := by simpa using hcm
      have hle : s1.heap.objs.size ≤ c := by
        rcases e' with z | z | z | z | z
        · rw [z]; exact Nat.le_add_right _ _
        · rw [z]; exact Nat.le_add_right _ _
        · rw [z]; exact Nat.le_add_right _ _
        · rw [z]; exact Nat.le_refl _
        · rw [z]; exact Nat.le_add_right _ _
      exact I1.fpOk hle (I1.hok.fresh hle)
end L2

section 
namespace Bits
open PySem PyProof.Rows

end Bits
end 

section 
namespace TL
open PySem PySem.Builtin PySem.Builtin.Str PySem.StrLaws

abbrev tl (x : Str) : List Nat := x.cps.toList
/-! ### the list functions -/
/-- S stands at the head of l -/
def pre (S l : List Nat) : Bool := l.take S.length == S
/-- l cut at each S from the left; k signs are still to be passed over -/
def spl (S : List Nat) : Nat → List Nat → List Nat → List (List Nat)
  | _, acc, [] => [acc]
  | 0, acc, c :: r => if pre S (c :: r) = true then acc :: spl S (S.length - 1) [] r else spl S 0 (acc ++ [c]) r
  | k + 1, acc, _ :: r => spl S k acc r
/-- what stands before the first S, and behind it -/
def par (S : List Nat) : List Nat → List Nat → Option (List Nat × List Nat)
  | _, [] => none
  | acc, c :: r => if pre S (c :: r) = true then some (acc, (c :: r).drop S.length) else par S (acc ++ [c]) r

/-! ### the model's split and partition are these -/
/-! ### computing spl and par -/
/-! ### digits -/
/-! ### words: x.split() -/
end TL
end 

namespace L2
open PySem PySem.Spec PyProof.Rows

section
variable {X : Cx} {pins : List (Addr × Obj)} {σ : St} {H : Hp} {s : Shared} {Q : VK}
end

section
variable {X : Cx}

/-! ### of a text alone -/
/-! ### of a text and a text -/
end

section
variable {X : Cx} {o e : Expr} {to te : TE}
end
end L2

namespace L2
open PySem PySem.Spec PyProof.Rows

section
variable {X : Cx}
end

/-! ### slices of a text -/
theorem IsPart.raw {v : Value} {o : Option Int} (p : IsPart v o) : ∃ l : Option (Int × Tok), v = partValue l ∧ l.map (·.1) = o := by
  cases p with
  | none => exact ⟨none, rfl, rfl⟩
  | int i t => exact ⟨some (i, t), rfl, rfl⟩

end L2

namespace Att
open PySem PySem.W PySem.Calls PyProof.Rows

/-! ### the script -/
theorem ints_of_wellAll {P : Params} {h : Heap} : ∀ (ns : List Int) (vs : List Value), WellAll P h vs (ns.map WData.int) → IntsAre vs ns := by
  intro ns
  induction ns with
  | nil =>
    intro vs w
    rw [List.map_nil] at w
    cases w
    exact .nil
  | cons n ns ih =>
    intro vs w
    rw [List.map_cons] at w
    cases w with
    | cons a b =>
      cases a
      exact .cons _ _ (ih _ b)

theorem script_of {l : OpenLaw} {n : Nat} (hn : l.most = some n) {P : Params} {h : Heap} {args : List WData} {vals : List Value}
    (hpre : l.row.toRowW.claim.pre args = true) (hwl : WellAll P h vals args) :
    ∃ a vs ns, vals = [Value.ref a] ∧ args = [WData.list (ns.map WData.int)] ∧ h.get? a = some { cls := .type "list", data := .seq vs.toArray } ∧ IntsAre vs ns ∧ ns.length ≤ n := by
  have hsh : WShape.hasAll [] args [.list .int] = true := (pre_splitW hpre).1
  have hc : l.pre.holds [] { args := args } = true := (pre_splitW hpre).2
  obtain ⟨d, r, rfl, h1, h2⟩ := hasAllW_cons hsh
  obtain rfl := hasAllW_nil h2
  obtain ⟨xs, rfl, h3⟩ := hasW_list h1
  obtain ⟨ns, rfl⟩ := items_int h3
  have hlen : ns.length ≤ n := by
    unfold OpenLaw.pre at hc
    have h4 : (WTm.not (.lt (.lit (.int (n : Int))) (.len (.arg 0)))).holds [] { args := [.list (ns.map .int)] } = true := by
      have h4 := (holds_andW hc).1
      rw [hn] at h4
      exact h4
    have h5 := condW_of h4 (w_not (w_lt w_lit (w_len_list (w_arg rfl))))
    rw [List.length_map] at h5
    refine Nat.le_of_not_lt fun q => ?_
    have q' : (n : Int) < ((ns.length : Nat) : Int) := by omega
    first
      | (rw [decide_eq_true q'] at h5; exact absurd h5 (by decide))
      | (simp at h5; omega)
  cases hwl with
  | cons w1 w2 =>
    cases w2
    cases w1 with
    | list ho hall => exact ⟨_, _, ns, rfl, rfl, ho, ints_of_wellAll ns _ hall, hlen⟩

theorem post_true (l : OpenLaw) (args : List WData) : l.row.toRowW.claim.post args (.bool true) args = true :=
  postW_of (r := l.row.toRowW) (X := (true == true))
    (show WShape.has [] (.bool true) .bool = true by first | rfl | decide | simp [WShape.has, WShape.arms, WShape.armsAll])
    (show (WTm.eq .res (.lit (.bool true))).value [] { args := args, res := some (.bool true), after := args } = some (.bool (true == true)) from w_eq_bool (w_res rfl) w_lit) rfl

/-! ### the attachment: holds_open's last premise (the goal 'hc' behind k_head) from a wpAny of the law's body -/
/-- the same from a codeAny of the CALL (for a layer whose function contracts speak of calls) -/
theorem attach_call {l : OpenLaw} {n : Nat} {q : Program} {loose : List Str} {XP : (Str → Option Value) → Heap → Prop} {YP : World → Heap → Prop} {d : DefRec}
    (hn : l.most = some n) (hdf : d.params.defaults = [])
    (call : ∀ (w : World) (s₀ s₁ : Shared) (mg mb : Str → Option Value) (fa : Addr) (o : Obj) (pm cd doc : Value) (a : Addr) (vs : List Value) (ns : List Int),
      Ground q loose [] XP w s₀ mg mb s₁.heap → YP w s₁.heap →
      s₁.heap.get? fa = some o → o.data = .func (docDef d.name d.params d.body d.scope pm cd doc) → s₁.heap.CodeRec cd d.name → mg d.name = some (.ref fa) →
      s₁.heap.get? a = some { cls := .type "list", data := .seq vs.toArray } → IntsAre vs ns → ns.length ≤ n → s₁.gens = #[] →
      codeAny (model l.prog w) callerA (.call (.ref fa) ⟨[.ref a], []⟩) (fun r s' => r = .ok (.ret (.bool true)) ∧ OldK s₁.heap s'.heap ∧ s'.os = s₁.os ∧ AllBare s'.gens) s₁) :
    WalkO q loose XP YP l.row.toRowW d [] (fun f vs => PySem.call f vs) := by
  intro w s₀ s₁ mg mb G Y fa o pm cd doc dV kV ho hd hcd hD hmg hg args vals as hpre hlay hrd hwl hlo
  obtain rfl : dV = .none := Dflts.none hD hdf
  obtain rfl : kV = .none := Dflts.noKw hD
  obtain ⟨a, vs, ns, rfl, rfl, hobj, hints, hlen⟩ := script_of hn hpre hwl
  refine enter_call (codeAny_mono (call w s₀ s₁ mg mb fa o pm cd doc a vs ns G Y ho (fd_plain hd) hcd hmg hobj hints hlen hg) fun r s' hq => ?_)
  obtain ⟨rfl, h2, h3, h4⟩ := hq
  exact ⟨.inl ⟨.bool true, .bool true, [], rfl, fun _ => rfl, .bool true, post_true l _, fun _ => ⟨List.Pairwise.nil, fun _ hm => (nomatch hm)⟩⟩, h2, h3, h4⟩

/-! ### rules over ANY heap (no ledger) from facts about the written part K: the library's own take a ledger (News) for what they write -/
section
variable {prog : Program} {w : World} {A : Around} {E : Value → Shared → Prop} {s : Shared} {K : Frag}

/-! the whole heap as the ledger: makes every rule that writes through a ledger a rule over any heap -/
def ledger (h : Heap) (L d : Addr) : List (Addr × Obj) := (List.range h.objs.size).filterMap fun a => if a = L ∨ a = d then none else (h.get? a).map fun o => (a, o)
end
end Att

namespace L2
open PySem PySem.Spec PyProof.Rows

theorem vals_ints : ∀ {vs : List Value} {ns : List Int}, IntsAre vs ns → Vals (ns.map V.int) vs
  | _, _, .nil => .nil
  | _, _, .cons n t h => .cons ⟨t, rfl⟩ (vals_ints h)

/-- nothing is tracked but the script, known to the object (or it is an object of the module) -/
def Only (H : Hp) : Prop := ∀ b, H b = none ∨ ∃ o xs, H b = some (.frz o (.lst xs))

/-- THE HEAD: the law's promise, at the heap behind the top. F, the promise of the law's def, may use that base is part of the heap (so K.In base, base.Ns mainGlobals mg stand in Mod) -/
theorem law_call {P : Program} {w : World} {K : PySem.W.Frag} {mg mb : Str → Option Value} {CX : CXT} {k : Nat} {fa a : Addr} {fd : FuncData} {x : Str} {sp : Sp} {s₁ : Shared} {vs : List Value} {ns : List Int}
    (KX : K.In s₁.heap) (hns : s₁.heap.Ns mainGlobals mg) (hb : s₁.heap.Ns builtinsNs mb) (hbb : ∀ x : Str, x ≠ "__name__" → mb x = bootBuiltins x) (hlim : s₁.heap.NoLimit) (hg : s₁.gens = #[])
    (ha : s₁.heap.get? a = some { cls := .type "list", data := .seq vs.toArray }) (hi : IntsAre vs ns) (hl : ns.length ≤ sizeLine) (hr : Room k callerA)
    (F : ∀ base : Heap, K.In base → base.Ns mainGlobals mg → FnOk P w K mg base CX k fa fd [x] sp) (hbind : ∀ (s : Shared) (u : Value), BindsTo s fd ⟨[u], []⟩ [(x, u)])
    (hsp : ∀ H : Hp, Only H → SqL K H a (ns.map V.int) → sp [.ref a] H (fun v _ => v = .bl true) fun _ _ _ => False)
    (hCX : ∀ H e s', CX [] H s₁ (fun _ _ _ => False) e s' → False) :
    codeAny (model P w) callerA (.call (.ref fa) ⟨[.ref a], []⟩) (fun r s' => r = .ok (.ret (.bool true)) ∧ OldK s₁.heap s'.heap ∧ s'.os = s₁.os ∧ AllBare s'.gens) s₁ := by
  have rv := vals_ints hi
  have lenV := hi.length
  -- from an abstract heap in which nothing but the script may be tracked
  have core : ∀ H : Hp, Only H → SqL K H a (ns.map V.int) → HOk P w H s₁.heap → (∀ b, H b ≠ none → b = a) → (H a ≠ none → K.lookup a = none) →
      codeAny (model P w) callerA (.call (.ref fa) ⟨[.ref a], []⟩) (fun r s' => r = .ok (.ret (.bool true)) ∧ OldK s₁.heap s'.heap ∧ s'.os = s₁.os ∧ AllBare s'.gens) s₁ := by
    intro H hO hS hok hA hK
    have base_of : ∀ {b : Addr} {o : Obj}, s₁.heap.get? b = some o → H b = none → (hidT s₁.heap H).get? b = some o := fun e n => hidT_get e n
    have noA : ∀ {b : Addr} {o : Obj} {es : Array DictEntry} {ep : Nat}, s₁.heap.get? b = some o → o.data = .dict es ep → H b = none := fun {b o es ep} e d => by
      cases q : H b with
      | none => rfl
      | some u =>
        have e' : b = a := hA b (by rw [q]; simp)
        subst e'
        rw [ha] at e; cases e
        have d' : Data.seq vs.toArray _ = Data.dict es ep := d
        cases d'
    have nsK : ∀ {b : Addr} {m : Str → Option Value}, s₁.heap.Ns b m → (hidT s₁.heap H).Ns b m := fun {b m} ⟨o, es, ep, e, d, r⟩ => ⟨o, es, ep, base_of e (noA e d), d, r⟩
    have hKb : K.In (hidT s₁.heap H) := fun b o e => base_of (KX b o e) (by
      cases q : H b with
      | none => rfl
      | some u =>
        have e' : b = a := hA b (by rw [q]; simp)
        subst e'
        rw [hK (by rw [q]; simp)] at e; cases e)
    have hM : Mod K mg (hidT s₁.heap H) := ⟨hKb, nsK hns, ⟨mb, nsK hb, hbb⟩, let ⟨mc, h1, h2⟩ := hlim; ⟨mc, nsK h1, h2⟩⟩
    have e0 : Env0 P w K mg (hidT s₁.heap H) callerA [] s₁ H := ⟨rfl, hM, fun b o e => of_hidT e, Nat.le_of_eq (hidT_size _ _), trivial, fun b hb => absurd (show b ∈ ([] : List Addr) from hb) (by simp), hok, .of_eq hg⟩
    refine codeAny_mono ((F _ hKb (nsK hns)).run callerA [] s₁ H ⟨[.ref a], []⟩ [.ref a] [.ref a] _ _ hr e0 (hbind s₁ (.ref a)) (.cons rfl .nil) (hsp H hO hS)) fun r s' h => ?_
    cases r with
    | error e => exact (hCX H e s' h).elim
    | ok fl =>
      cases fl with
      | next => exact False.elim h
      | brk => exact False.elim h
      | cont => exact False.elim h
      | ret u =>
        obtain ⟨v, H', os, bare, un, hok', r', q⟩ := h
        have q' : v = .bl true := q
        subst q'
        obtain rfl : u = Value.bool true := r'
        refine ⟨rfl, OldK.of_keep fun b o e => ?_, os, bare⟩
        cases q : H b with
        | none => exact un.keep b o e q (by intro z; exact absurd (show b ∈ ([] : List Addr) from z) (by simp)) (by simp)
        | some u =>
          rcases hO b with z | ⟨ob, xs, z⟩
          · rw [q] at z; cases z
          · have z2 := un.frzs b ob _ z
            obtain ⟨e1, _⟩ := hok b _ z
            obtain ⟨e2, _⟩ := hok' b _ z2
            rw [e] at e1; cases e1
            exact e2
  cases hk : K.lookup a with
  | some o =>
    -- the script is one of the module's own objects
    have e := KX a o hk
    rw [ha] at e
    cases e
    refine core (fun _ => none) (fun _ => .inl rfl) (.inr ⟨_, vs.toArray, _, hk, rfl, rfl, rfl, by rw [List.size_toArray, lenV]; exact hl, by simpa using rv⟩) (fun b u z => by have z' : (none : Option HO) = some u := z; cases z') (fun b z => absurd rfl z) fun z => absurd rfl z
  | none =>
    refine core (fun b => if b = a then some (.frz { cls := .type "list", data := .seq vs.toArray } (.lst (ns.map V.int))) else none) (fun b => ?_) (.inl (.inr ⟨{ cls := .type "list", data := .seq vs.toArray }, if_pos rfl⟩)) (fun b u z => ?_) (fun b z => ?_) fun _ => hk
    · by_cases hb : b = a
      · exact .inr ⟨_, _, if_pos hb⟩
      · exact .inl (if_neg hb)
    · by_cases hb : b = a
      · have z' := (if_pos hb).symm.trans z
        cases z'
        subst hb
        exact ⟨ha, by rw [List.length_map]; exact hl, vs, _, rv, ha⟩
      · have z' := (if_neg hb).symm.trans z
        cases z'
    · by_cases hb : b = a
      · exact hb
      · exact absurd (if_neg hb) z
end L2

namespace L2
open PySem PySem.Spec PyProof.Rows

/-- the goal that k_head leaves (case hc), from the law's promise. F gives the function object fd (K's own) once, then the promise over every base -/
theorem walk_of {l : PySem.W.OpenLaw} {n k : Nat} {q : Program} {loose : List Str} {XP : (Str → Option Value) → Heap → Prop} {YP : World → Heap → Prop} {d : DefRec} {K : Params → PySem.W.Frag} {CX : World → CXT} {sp : World → Sp} {x : Str}
    (hn : l.most = some n) (hn2 : n ≤ sizeLine) (hdf : d.params.defaults = []) (hr : Room k callerA)
    (hY : ∀ (w : World) (h : Heap), YP w h → (K w.params).In h)
    (F : ∀ (w : World) (mg : Str → Option Value) (fa : Addr) (h : Heap), (K w.params).In h → h.Ns mainGlobals mg → mg d.name = some (.ref fa) →
      ∃ fd : FuncData, (∀ (s : Shared) (u : Value), BindsTo s fd ⟨[u], []⟩ [(x, u)]) ∧
        ∀ base : Heap, (K w.params).In base → base.Ns mainGlobals mg → FnOk l.prog w (K w.params) mg base (CX w) k fa fd [x] (sp w))
    (hsp : ∀ (w : World) (H : Hp) (a : Addr) (ns : List Int), ns.length ≤ n → Only H → SqL (K w.params) H a (ns.map V.int) → sp w [.ref a] H (fun v _ => v = .bl true) fun _ _ _ => False)
    (hCX : ∀ (w : World) (H : Hp) (s : Shared) (e : Value) (s' : Shared), CX w [] H s (fun _ _ _ => False) e s' → False) :
    PySem.W.WalkO q loose XP YP l.row.toRowW d [] (fun f vs => PySem.call f vs) := by
  refine Att.attach_call hn hdf fun w s₀ s₁ mg mb fa o pm cd doc a vs ns G Y ho hd hcd hmg hobj hints hlen hg => ?_
  have KX := hY w _ Y
  obtain ⟨fd, hb, hF⟩ := F w mg fa _ KX G.T.g hmg
  exact law_call KX G.T.g G.T.b G.T.builtins G.T.nolimit hg hobj hints (Nat.le_trans hlen hn2) hr hF hb (fun H hO hS => hsp w H a ns hlen hO hS) fun H e s' => hCX w H s₁ e s'
end L2

/- THE LAST THEOREM (shape; LID, My.* are yours):
   My.Adr: a structure of the addresses that your layer names (classes, functions); My.Txt K t: a structure (Prop) of the equations over K;
   My.txt_mk : {K} {implicit addresses ..} (e1 : nsIn K mainGlobals "law" = some (some (.ref f))) (e2 : K.lookup f = some ⟨oc, od, .func (fnOf "law" "law" params body scope dV kV doc pm an cdv ct), sl⟩) (e3 : codeIn K cdv "law" = true) .. : ∃ t, My.Txt K t

(the tactic k_is has no namespace: write k_is) -/

/-! SHORT WORDS over the layer: a def of the text, its body, what a loop and a test want. -/
namespace L2
open PySem PySem.Spec PyProof.Rows

/-! ### the text by places -/
def defArgs (s : Stmt) : Arguments := match s with
  | .FunctionDef _ a _ _ _ _ _ _ _ _ => a
  | _ => { posonlyargs := [], args := [], vararg := none, kwonlyargs := [], kw_defaults := [], kwarg := none, defaults := [] }
def defBody (s : Stmt) : List Stmt := match s with
  | .FunctionDef _ _ b _ _ _ _ _ _ _ => b
  | _ => []
def defScope (s : Stmt) : Scope := match s with
  | .FunctionDef _ _ _ _ _ _ sc _ _ _ => sc
  | _ => { kind := .function, names := [], isGenerator := false, isCoroutine := false }

/-! ### no exception leaves a def -/
abbrev CX0 : CXT := fun _ _ _ _ _ _ => False
abbrev E0 : XK := fun _ _ _ => False
theorem pass0 {X : Cx} : Passes CX0 X E0 := fun _ _ _ _ _ _ _ h => h.elim

/-! ### a def (or method) of the text as it stands behind the top -/
structure Fun (K : PySem.W.Frag) (x qual : Str) (st : Stmt) (f : Addr) (fd : FuncData) : Prop where
  ex : ∃ (oc : Value) (od : Option Addr) (kV doc pm : Value) (an : Option Addr) (cdv ct : Value) (osl : Array (Option Value)),
    fd = PySem.W.fnOf x qual (defArgs st) (defBody st) (defScope st) .none kV doc pm an cdv ct ∧ K.lookup f = some ⟨oc, od, .func fd, osl⟩ ∧ PySem.W.codeIn K cdv qual = true
  kp : PySem.W.keepIn K (.ref f) = true
section
variable {P : Program} {w : World} {K : PySem.W.Frag} {mg : Str → Option Value} {base : Heap}
/-- THE RULE for a def: its body as a term of rules, and the reading of that term -/
theorem Fun.ok {x qual : Str} {st : Stmt} {f : Addr} {fd : FuncData} {N ps : List Str} {k : Nat} {sp : Sp} (F : Fun K x qual st f fd) (S : FnScope N ps (defScope st)) (len : ∀ vs H Q E, sp vs H Q E → vs.length = ps.length)
    (hbody : ∀ (cdv : Value) (A : Around) (outer : List Env) (s : Shared) (H : Hp) (vs : List V) (Q : VK) (E : XK), Room k (A.deeper (envOfC qual (defScope st) s.heap.objs.size f cdv)) → sp vs H Q E →
      ∃ t, PSs (cxOf CX0 P w K mg base N qual (defScope st) f cdv A outer s H E).nox (defBody st) t ∧ t { nx := fun _ H' => Q .non H', rt := Q } (start N vs) H) : FnOk P w K mg base CX0 (k + 1) f fd ps sp := by
  obtain ⟨oc, od, kV, doc, pm, an, cdv, ct, osl, rfl, lk, hcd⟩ := F.ex
  refine fn_of lk hcd S len fun A outer s H vs Q E hr hsp => ?_
  obtain ⟨t, h, q⟩ := hbody cdv A outer s H vs Q E hr hsp
  exact ⟨t, h.nox, q⟩
/-- how its arguments bind (no defaults): h is «fun _ _ _ _ _ _ us hl => match us, hl with | [_, _], _ => rfl», one _ a parameter -/
theorem Fun.binds {x qual : Str} {st : Stmt} {f : Addr} {fd : FuncData} {ps : List Str} (F : Fun K x qual st f fd)
    (h : ∀ (kV doc pm : Value) (an : Option Addr) (cdv ct : Value) (us : List Value), us.length = ps.length → bindArgs (PySem.W.fnOf x qual (defArgs st) (defBody st) (defScope st) .none kV doc pm an cdv ct) ⟨us, []⟩ = pure (ps.zip us)) : Binds K fd ps [] := by
  obtain ⟨oc, od, kV, doc, pm, an, cdv, ct, osl, rfl, lk, hcd⟩ := F.ex
  exact .all (h kV doc pm an cdv ct)
theorem fun_mk {x qual : Str} {st : Stmt} {f : Addr} {oc : Value} {od an : Option Addr} {osl : Array (Option Value)} {kV doc pm cdv ct : Value} (l : K.lookup f = some ⟨oc, od, .func (PySem.W.fnOf x qual (defArgs st) (defBody st) (defScope st) .none kV doc pm an cdv ct), osl⟩)
    (c : PySem.W.codeIn K cdv qual = true) (k : PySem.W.keepIn K (.ref f) = true) : Fun K x qual st f (PySem.W.fnOf x qual (defArgs st) (defBody st) (defScope st) .none kV doc pm an cdv ct) := ⟨⟨oc, od, kV, doc, pm, an, cdv, ct, osl, rfl, l, c⟩, k⟩
end
theorem hu_of {A : Around} {k : Nat} (hr : Room k A) : A.units + 1 < cLine := Nat.lt_of_le_of_lt (Nat.add_le_add_left (by decide : 1 ≤ 64) _) hr.units
theorem small1000 {n : Nat} (h : n ≤ 1000) : n < sizeLine := Nat.lt_of_le_of_lt h (by decide)

/-! ### expressions in short: the name that stands in the i-th slot -/
section
variable {X : Cx}
theorem pv (i : Nat) {x : Str} {pos : Pos} (hN : X.N[i]? = some x := by rfl) (hv : Vis X.env.scope x := by first | exact Or.inl rfl | exact Or.inr (Or.inl rfl) | exact Or.inr (Or.inr rfl)) (hd : (x == ("__debug__" : Str)) = false := by decide)
    (hcd : (x == ("__classdict__" : Str)) = false := by decide) : PE X (.Name x pos) (tVar i) := pe_var hN hv hd hcd
end

/-! ### tests -/
theorem iteF {A B : Prop} (h : B) : if false = true then A else B := by
  rw [if_neg Bool.false_ne_true]
  exact h
theorem iteT {A B : Prop} (h : A) : if true = true then A else B := by
  rw [if_pos rfl]
  exact h
theorem ite2 {c A B : Prop} [Decidable c] (h1 : c → A) (h2 : ¬ c → B) : if c then A else B := by
  by_cases h : c
  · rw [if_pos h]
    exact h1 h
  · rw [if_neg h]
    exact h2 h
theorem iteNS {c A B : Prop} [Decidable c] (hc : c) (h : B) : if (!decide c) = true then A else B := by
  rw [decide_eq_true hc]
  exact iteF h

/-! ### heaps -/
/-- all that was tracked is as it was -/
def Same (H H' : Hp) : Prop := ∀ b o, H b = some o → H' b = some o
theorem Same.refl (H : Hp) : Same H H := fun _ _ h => h
theorem Same.trans {H H1 H2 : Hp} (a : Same H H1) (b : Same H1 H2) : Same H H2 := fun c o h => b c o (a c o h)
theorem Same.free {H H' : Hp} (e : Same H H') {l : Addr} (h : H' l = Option.none) : H l = Option.none := by
  cases q : H l with
  | none => rfl
  | some o =>
    rw [e l o q] at h
    cases h
theorem Same.seq {K : PySem.W.Frag} {H H' : Hp} {a : Addr} {xs : List V} (e : Same H H') (h : SqL K H a xs) : SqL K H' a xs := by
  rcases h with (h | ⟨o, h⟩) | h
  · exact .inl (.inl (e _ _ h))
  · exact .inl (.inr ⟨o, e _ _ h⟩)
  · exact .inr h

/-! ### a dict's pairs: keys that differ -/
section
variable {κ : Type} [DecidableEq κ]
theorem valV_not {kvs : List (κ × V)} {k : κ} (h : valV kvs k = none) : ¬ k ∈ kvs.map (·.1) := by
  intro m
  obtain ⟨p, hp, e⟩ := List.mem_map.mp m
  have q : (kvs.any fun kv => decide (kv.1 = k)) = true := List.any_eq_true.mpr ⟨p, hp, decide_eq_true e⟩
  rw [valV_any, h] at q
  exact absurd q (by simp)
theorem nd_snoc : ∀ {l : List κ} {k : κ}, l.Nodup → ¬ k ∈ l → (l ++ [k]).Nodup
  | [], k, _, _ => by simp
  | a :: r, k, h, hk => by
    obtain ⟨h1, h2⟩ := List.nodup_cons.mp h
    show (a :: (r ++ [k])).Nodup
    refine List.nodup_cons.mpr ⟨fun m => ?_, nd_snoc h2 fun m => hk (List.mem_cons.mpr (Or.inr m))⟩
    rcases List.mem_append.mp m with q | q
    · exact h1 q
    · exact hk (List.mem_cons.mpr (Or.inl (List.mem_singleton.mp q).symm))
end
/-! ### lists -/
/-- a new instance and its __init__ leave all that was tracked as it was -/
theorem Same.made {H H1 : Hp} {x dx C : Addr} (nx : H x = Option.none) (nd : H dx = Option.none) (k : ∀ b o, (upd (upd H dx (.own x)) x (.ins C dx [])) b = some o → b ≠ x → H1 b = some o) : Same H H1 := fun b o e =>
  k b o (by rw [upd_ne (ne_of_none e nx), upd_ne (ne_of_none e nd)]; exact e) (ne_of_none e nx)
end L2

set_option Elab.async false
set_option maxRecDepth 100000
set_option linter.all false
set_option maxHeartbeats 4000000
namespace L2
open PySem PySem.Spec PyProof.Rows
section
variable {X : Cx}
/-- range(n) as a value -/
theorem call_range1 : CallR X (.type "range") (fun xs H Q => ∃ j : Int, xs = [.int j] ∧ ∀ p, H p = none → Q (.ref p) (upd H p (.rng 0 j))) := by
  intro pins s σ H xs us Q I r h
  obtain ⟨j, rfl, q⟩ := h
  obtain ⟨u, rfl, rx⟩ := vals1 r
  obtain ⟨t, rfl⟩ := (show ∃ t, u = Value.int j t from rx)
  refine call_range_1 ?_
  exact ⟨.ref s.heap.objs.size, _, I.laid (t' := s.toks + 1 + 1) (fun b o e => Heap.get?_push_of_some _ e) (Nat.le_refl _) (show ObjOk X.prog X.w _ _ _ (.rng 0 j) from ⟨_, _, _, Heap.get?_push_size _ rfl⟩), rfl, q _ (I.hok.fresh (Nat.le_refl _))⟩
/-- the ints lo, lo + 1, .. -/
def rngV (lo : Int) (n : Nat) : List V := (List.range n).map fun i => V.int (lo + (i : Nat))
theorem rngV_len (lo : Int) (n : Nat) : (rngV lo n).length = n := by simp [rngV]
theorem vals_of_items' {P : Nat → V} : ∀ (l : List Value) (k : Nat), (∀ (j : Nat) v, l[j]? = some v → RelV (P (k + j)) v) → Vals ((List.range' k l.length).map P) l
  | [], _, _ => .nil
  | a :: l, k, h => by
    rw [List.length_cons, List.range'_succ, List.map_cons]
    refine .cons (h 0 a rfl) (vals_of_items' l (k + 1) fun j v e => ?_)
    have := h (j + 1) v (by simpa using e)
    rw [show k + 1 + j = k + (j + 1) by omega]
    exact this
theorem vals_of_items {n : Nat} {P : Nat → V} {l : List Value} (hl : l.length = n) (h : ∀ (j : Nat) v, l[j]? = some v → RelV (P j) v) : Vals ((List.range n).map P) l := by
  rw [List.range_eq_range', ← hl]
  exact vals_of_items' l 0 fun j v e => by rw [Nat.zero_add]; exact h j v e
/-- list(range) -/
theorem call_list_rng (hc : X.calm = true) : CallR X (.type "list") (fun xs H Q => ∃ p lo hi, xs = [.ref p] ∧ H p = some (.rng lo hi) ∧ (-(2 ^ 62) ≤ lo ∧ lo < 2 ^ 62 ∧ -(2 ^ 62) ≤ hi ∧ hi < 2 ^ 62) ∧ (hi - lo).toNat ≤ 1000000 ∧
    ∀ l, H l = none → Q (.ref l) (upd H l (.lst (rngV lo (hi - lo).toNat)))) := by
  intro pins s σ H xs us Q I r h
  obtain ⟨p, lo, hi, rfl, hp, ⟨b1, b2, b3, b4⟩, hn, q⟩ := h
  obtain ⟨u, rfl, rx⟩ := vals1 r
  cases rx
  obtain ⟨t, u, v, e⟩ := (show ObjOk X.prog X.w H s.heap p (.rng lo hi) from I.hok p _ hp)
  have hsz : Builtin.Range.rangeSize lo hi 1 = (((hi - lo).toNat : Nat) : Int) := by
    rw [rangeSize_one]; split <;> omega
  refine call_list_range (n := (hi - lo).toNat) (I.ok.hd hc) e (small_one b1 b2 b3 b4) hsz (by omega) fun h' tk acc c hk ha hi' => ?_
  obtain ⟨h1, h2⟩ := hi'
  have hv : Vals (rngV lo (hi - lo).toNat) acc.toList := vals_of_items (by simpa using h1) fun j v ej => by
    have ej' : acc[j]? = some v := by simpa using ej
    obtain ⟨t, rfl⟩ := h2 j v ej'
    exact ⟨t, by rw [Int.mul_one]⟩
  refine ⟨.ref s.heap.objs.size, _, I.laid (t' := tk) hk (Nat.le_refl _) (show ObjOk X.prog X.w _ h' _ (.lst (rngV lo (hi - lo).toNat)) from ⟨?_, acc.toList, c, hv, by simpa using ha⟩), rfl, q _ (I.hok.fresh (Nat.le_refl _))⟩
  rw [rngV_len, sizeLine_eq]; omega
/-- isinstance(x, (A, B, ..)): a tuple of classes -/
theorem isinst_tup {pins : List (Addr × Obj)} {σ : St} {H : Hp} {s : Shared} {A : Around} {E : Value → Shared → Prop} {Q : Value → Shared → Prop} {b : Bool} {x : V} {u t : Value} {tp : Addr} {cs : List V} {its : List Value}
    (I : Inv X pins σ H s) (rx : RelV x u) (ty : TyOf X.K H x t) (hp : H tp = some (.tup cs)) (hv : ∀ its, Vals cs its → PySem.W.kitAny X.K t its = some b) (h : ∀ tk, Q (.bool b) { s with toks := tk }) :
    wpAny (model X.prog X.w) A (call (.builtin "isinstance") [u, .ref tp]) Q E s := by
  obtain ⟨_, its, rv, op, htp, hcp, np, hdp⟩ := (show ObjOk X.prog X.w H s.heap tp (.tup cs) from I.hok tp _ hp)
  have e := hv its rv
  obtain ⟨c, dd, dt, sl⟩ := op
  cases hcp
  cases hdp
  cases ty with
  | non => cases (show u = Value.none from rx); exact PySem.W.kia_tup PySem.W.kitx_none I.kIn True.intro htp e (fun z => nomatch z) h
  | bl y => cases (show u = Value.bool y from rx); exact PySem.W.kia_tup PySem.W.kitx_bool I.kIn True.intro htp e (fun z => nomatch z) h
  | int i => obtain ⟨t, q⟩ := (show ∃ t, u = Value.int i t from rx); cases q; exact PySem.W.kia_tup PySem.W.kitx_int I.kIn True.intro htp e (fun z => nomatch z) h
  | str y => obtain ⟨t, q⟩ := (show ∃ t, u = Value.str y t from rx); cases q; exact PySem.W.kia_tup PySem.W.kitx_str I.kIn True.intro htp e (fun z => nomatch z) h
  | flt y => obtain ⟨t, q⟩ := (show ∃ t, u = Value.float y t from rx); cases q; exact PySem.W.kia_tup PySem.W.kitx_float I.kIn True.intro htp e (fun z => nomatch z) h
  | @lst a xs ea =>
    cases (show u = Value.ref a from rx)
    obtain ⟨_, _, n, _, h1⟩ := (show ObjOk X.prog X.w H s.heap a (.lst xs) from I.hok a _ ea)
    exact PySem.W.kia_tup PySem.W.kitx_list I.kIn ⟨_, h1, rfl⟩ htp e (fun z => nomatch z) h
  | @frz a ob xs ea =>
    cases (show u = Value.ref a from rx)
    obtain ⟨_, _, _, n, _, h1⟩ := (show ObjOk X.prog X.w H s.heap a (.frz ob (.lst xs)) from I.hok a _ ea)
    exact PySem.W.kia_tup PySem.W.kitx_list I.kIn ⟨_, h1, rfl⟩ htp e (fun z => nomatch z) h
  | @tup a xs ea =>
    cases (show u = Value.ref a from rx)
    obtain ⟨_, _, _, p⟩ := (show ObjOk X.prog X.w H s.heap a (.tup xs) from I.hok a _ ea)
    obtain ⟨o, h1, h2, _⟩ := p
    exact PySem.W.kia_tup PySem.W.kitx_tuple I.kIn ⟨o, h1, h2⟩ htp e (fun z => nomatch z) h
  | @dK a kvs ea =>
    cases (show u = Value.ref a from rx)
    obtain ⟨_, _, vs, _, p⟩ := (show ObjOk X.prog X.w H s.heap a (.dK kvs) from I.hok a _ ea)
    obtain ⟨o, es, ep, h1, h2, _⟩ := p
    exact PySem.W.kia_tup PySem.W.kitx_dict I.kIn ⟨o, h1, h2.1⟩ htp e (fun z => nomatch z) h
  | @dT a kvs ea =>
    cases (show u = Value.ref a from rx)
    obtain ⟨_, _, xs, _, o, es, ep, h1, h2, _⟩ := (show ObjOk X.prog X.w H s.heap a (.dT kvs) from I.hok a _ ea)
    exact PySem.W.kia_tup PySem.W.kitx_dict I.kIn ⟨o, h1, h2.1⟩ htp e (fun z => nomatch z) h
  | @ins a C dx fs ea cl ha hn htk hm =>
    cases (show u = Value.ref a from rx)
    obtain ⟨mA, O, _⟩ := ins_get I.hok ea
    obtain ⟨od, J, _⟩ := O.look
    exact PySem.W.kia_tup (PySem.W.kitx_own (cl.get _) cl.hd ha hn htk hm) I.kIn J htp e (fun z => nomatch z) h
/-- isinstance(x, T), isinstance(x, (T, U)): c a built-in class, or a tuple of classes -/
theorem call_isinst {T : String} : CallR X (.builtin "isinstance") (fun xs H Q => ∃ x t b, xs = [x, .ty T] ∧ TyOf X.K H x t ∧ PySem.W.kitOne X.K t (.type T) = some b ∧ Q (.bl b) H) := by
  intro pins s σ H xs us Q I r h
  obtain ⟨x, t, b, rfl, ty, e, q⟩ := h
  obtain ⟨u, w', rfl, r1, r2⟩ := vals2 r
  cases (show w' = Value.type T from r2)
  exact isinst_ok I r1 ty e fun tk => ⟨.bl b, H, I.tok tk, rfl, q⟩
theorem call_isinstT : CallR X (.builtin "isinstance") (fun xs H Q => ∃ x t b tp cs, xs = [x, .ref tp] ∧ TyOf X.K H x t ∧ H tp = some (.tup cs) ∧ (∀ its, Vals cs its → PySem.W.kitAny X.K t its = some b) ∧ Q (.bl b) H) := by
  intro pins s σ H xs us Q I r h
  obtain ⟨x, t, b, tp, cs, rfl, ty, hp, e, q⟩ := h
  obtain ⟨u, w', rfl, r1, r2⟩ := vals2 r
  cases (show w' = Value.ref tp from r2)
  exact isinst_tup (its := []) I r1 ty hp e fun tk => ⟨.bl b, H, I.tok tk, rfl, q⟩
end
example (K : PySem.W.Frag) : PySem.W.kitOne K (.type "list") (.type "tuple") = some false := by rfl
example (K : PySem.W.Frag) : PySem.W.kitAny K (.type "int") [.type "list", .type "tuple"] = some false := by rfl
example (K : PySem.W.Frag) : PySem.W.kitAny K (.type "tuple") [.type "list", .type "tuple"] = some true := by rfl
example (K : PySem.W.Frag) : PySem.W.kitOne K (.type "int") (.type "bool") = some false := by rfl
end L2

set_option Elab.async false
set_option maxRecDepth 100000
set_option linter.all false
set_option maxHeartbeats 4000000
namespace L2
open PySem PySem.Spec PyProof.Rows
/-! ### d.setdefault(k, x), keys that are tuples -/
section
variable {prog : Program} {w : World} {κ : Type} [DecidableEq κ] {knd : HeapKind prog w κ} {A : Around} {E : Value → Shared → Prop} {s : Shared}
end
end L2

set_option Elab.async false
set_option maxRecDepth 100000
set_option linter.all false
set_option maxHeartbeats 4000000
namespace L2
open PySem PySem.Spec PyProof.Rows
/-! ### d.items() of a locked dict with tuple keys -/
section
variable {prog : Program} {w : World} {A : Around} {E : Value → Shared → Prop} {s : Shared}
end
section
variable {P : Program} {w : World} {K : PySem.W.Frag} {d : Addr} {o : Obj} {es : Array DictEntry} {ep : Nat}
end
end L2

set_option Elab.async false
set_option maxRecDepth 100000
set_option linter.all false
set_option maxHeartbeats 4000000
namespace L2
open PySem PySem.Spec PyProof.Rows
/-! ### sorted(list of tuples of whole numbers) -/
theorem refs_of : ∀ {ts : List Addr} {us : List Value}, Vals (ts.map V.ref) us → us = ts.map Value.ref
  | [], _, r => by cases r; rfl
  | t :: ts, _, r => by
    cases r with
    | cons h q =>
      cases h
      rw [refs_of q]; rfl
theorem vals_refs : ∀ (ts : List Addr), Vals (ts.map V.ref) (ts.map Value.ref)
  | [] => .nil
  | _ :: ts => .cons rfl (vals_refs ts)
def addrV : Value → Addr
  | .ref a => a
  | _ => 0
theorem perm_refs {l : List Value} {ts : List Addr} (p : l.Perm (ts.map Value.ref)) : l = (l.map addrV).map Value.ref ∧ (l.map addrV).Perm ts := by
  constructor
  · rw [List.map_map]
    refine ((List.map_congr_left (fun v hv => ?_)).trans (List.map_id l)).symm
    obtain ⟨t, _, rfl⟩ := List.mem_map.mp (p.mem_iff.mp hv)
    rfl
  · have q := p.map addrV
    rw [List.map_map] at q
    have e : (addrV ∘ Value.ref) = id := by funext x; rfl
    rw [e, List.map_id] at q
    exact q
theorem ints_items : ∀ {ns : List Int} {us : List Value} (i : Nat), Vals (ns.map V.int) us → tupItems (fun _ => false) i us = some (ns.map Sum.inl)
  | [], _, _, r => by cases r; rfl
  | n :: ns, _, i, r => by
    cases r with
    | cons h q =>
      obtain ⟨t, rfl⟩ := (show ∃ t, _ = Value.int n t from h)
      show (if (fun _ => false) i = true then none else (tupItems (fun _ => false) (i + 1) _).map (Sum.inl n :: ·)) = _
      rw [ints_items (i + 1) q]
      rfl
theorem lex_same : ∀ (a b : List Int), lexLt itemOrd (a.map Sum.inl) (b.map Sum.inl) = HT.lexLt a b
  | [], [] => rfl
  | [], _ :: _ => rfl
  | _ :: _, [] => rfl
  | x :: a, y :: b => by
    have ih := lex_same a b
    rw [HT.lexLt_cons, ← ih]
    show (decide (x < y) || (!decide (y < x) && lexLt itemOrd (a.map Sum.inl) (b.map Sum.inl))) = _
    by_cases e : x = y
    · subst e; simp
    · rw [if_neg e]
      by_cases l : x < y
      · simp [l]
      · have : y < x := by omega
        simp [l, this]
/-- what is asked of the tuples, by their keys -/
def rSortedT (K : PySem.W.Frag) : List V → Hp → VK → Prop := fun vs H Q => ∃ (a : Addr) (ts : List Addr) (key : Addr → List Int), vs = [V.ref a] ∧ SqL K H a (ts.map V.ref) ∧ (∀ t ∈ ts, key t ≠ [] ∧ H t = some (.tup ((key t).map V.int))) ∧
  ∀ (ts' : List Addr) (p : Addr), ts'.Perm ts → ts'.Pairwise (fun x y => HT.lexLt (key y) (key x) = false) → H p = none → Q (.ref p) (upd H p (.lst (ts'.map V.ref)))
theorem cr_sortedT {X : Cx} : CallR X (.builtin "sorted") (rSortedT X.K) := by
  intro pins s σ H vs us Q I r h
  obtain ⟨a, ts, key, rfl, hs, hk, q⟩ := h
  obtain ⟨its, rv, hl, hz⟩ := I.list hs
  rw [Vals.ref1 r]
  have ei := refs_of rv
  subst ei
  rw [List.length_map] at hz
  have one : ∀ t ∈ ts, G.tupKeyC s.heap (fun _ => false) (.ref t) = some ((key t).map Sum.inl) ∧ ∃ f, TupOf s.heap (fun _ => false) (.ref t) f := fun t ht => by
    obtain ⟨ne, e⟩ := hk t ht
    obtain ⟨_, us, ru, o, h1, h2, n, h3⟩ := (show ObjOk X.prog X.w H s.heap t (.tup ((key t).map V.int)) from I.hok t _ e)
    constructor
    · unfold G.tupKeyC G.isTupObj
      simp only [h1, h2, beq_self_eq_true, if_true]
      unfold tupKey
      simp only [h1, h3]
      exact ints_items 0 ru
    · cases ek : key t with
      | nil => exact absurd ek ne
      | cons n ns =>
        rw [ek] at ru
        cases ru with
        | @cons _ u _ us' hu _ =>
          obtain ⟨tk, rfl⟩ := (show ∃ tk, u = Value.int n tk from hu)
          exact ⟨_, t, o, _, _, rfl, h1, h2, h3, rfl, fun _ => ⟨_, _, rfl⟩, fun z => nomatch z⟩
  have tups : ∀ l : List Addr, (∀ t ∈ l, t ∈ ts) → ∃ fs, TupsOf s.heap (fun _ => false) (l.map Value.ref) fs := fun l => by
    induction l with
    | nil => exact fun _ => ⟨[], .nil⟩
    | cons t l ih =>
      intro hm
      obtain ⟨fs, hf⟩ := ih fun x hx => hm x (List.mem_cons_of_mem _ hx)
      obtain ⟨_, f, hf1⟩ := one t (hm t List.mem_cons_self)
      exact ⟨f :: fs, .cons hf1 hf⟩
  obtain ⟨fs, hf⟩ := tups ts fun _ h => h
  refine G.sorted_tups hl.isList hf (fun v hv => ?_) (by rw [List.length_map]; exact hz) fun st' p1 p2 _ => ?_
  · obtain ⟨t, ht, rfl⟩ := List.mem_map.mp hv
    exact ⟨_, (one t ht).1⟩
  generalize harr : arrOf st' = arr at p1 p2
  have pl : arr.toList.Perm ((ts.map Value.ref).zip (ts.map Value.ref)) := by
    have := Array.perm_iff_toList_perm.mp p1
    rw [pairsOf_toList] at this
    exact this
  have eqp : ∀ p ∈ arr.toList, p.1 = p.2 ∧ p.1 ∈ ts.map Value.ref := fun p hp => mem_zip_self (pl.mem_iff.mp hp)
  have pout : ((arr.map (·.2)).toList).Perm (ts.map Value.ref) := by
    rw [Array.toList_map]
    have := pl.map (·.2)
    rw [List.map_snd_zip (Nat.le_refl _)] at this
    exact this
  obtain ⟨eo, po⟩ := perm_refs pout
  generalize hts : ((arr.map (·.2)).toList.map addrV) = ts' at eo po
  obtain ⟨ep, he'⟩ := PyProof.Rows.sortedAll_at s.heap (ts.map Value.ref) (arr.map (·.2))
  have hlen : (ts'.map V.ref).length ≤ sizeLine := by rw [List.length_map, po.length_eq]; exact hz
  have new : ObjOk X.prog X.w (upd H (s.heap.objs.size + 1) (.lst (ts'.map V.ref))) (sortedAll s.heap (ts.map Value.ref) (arr.map (·.2))) (s.heap.objs.size + 1) (.lst (ts'.map V.ref)) :=
    ⟨hlen, (arr.map (·.2)).toList, ep, by rw [eo]; exact vals_refs ts', he'⟩
  refine ⟨.ref _, _, I.laid (t' := s.toks) (fun _ _ => PyProof.Rows.sortedAll_old) (Nat.le_succ _) new, rfl, q ts' _ po ?_ (I.hok.fresh (Nat.le_succ _))⟩
  rw [List.pairwise_iff_getElem]
  intro i j hi hj hij
  have sz : arr.size = ts'.length := by
    have := congrArg List.length eo
    simpa using this
  have at_ : ∀ (m : Nat) (hm : m < ts'.length), KK (G.tupKindC s.heap (fun _ => false)) arr m = (key ts'[m]).map Sum.inl := fun m hm => by
    have hma : m < arr.size := by omega
    have mem : arr[m] ∈ arr.toList := by simp
    have e1 := (eqp _ mem).1
    have e2 : (arr.map (·.2)).toList[m]? = some (arr[m].2) := by simp [hma]
    rw [eo, List.getElem?_map, List.getElem?_eq_getElem hm] at e2
    have e3 : Value.ref ts'[m] = arr[m].2 := Option.some.inj e2
    have mts : ts'[m] ∈ ts := po.mem_iff.mp (List.getElem_mem hm)
    unfold KK
    rw [Array.getElem?_eq_getElem hma]
    show ((G.tupKeyC s.heap (fun _ => false) arr[m].1).getD []) = _
    rw [e1, ← e3, (one _ mts).1]
    rfl
  have := p2 i j (by omega) (by rw [pairsOf_size, List.length_map, ← po.length_eq]; exact hj)
  rw [at_ i hi, at_ j hj] at this
  have t2 : lexLt itemOrd ((key ts'[j]).map Sum.inl) ((key ts'[i]).map Sum.inl) = false := this
  rw [lex_same] at t2
  exact t2
end L2

set_option Elab.async false
set_option maxRecDepth 100000
set_option linter.all false
set_option maxHeartbeats 4000000
namespace L2
open PySem PySem.Spec PyProof.Rows
/-! ### a loop and a comprehension over any walked thing of n turns -/
theorem lc_by {J : It} {n : Nat} {g : TG} {tt : TT} {te : TE} {vs : List Nat} {σ : St} {H1 : Hp} {D : Addr} {Qd : Hp → Prop} (Pv : Nat → Hp → Prop) (h0 : Pv 0 (upd H1 D (.lst []))) (hgo : ∀ i H, i < n → Pv i H → J.go i H) (hst : ∀ H, Pv n H → J.stop n H)
    (hs : ∀ i H x H', i < n → Pv i H → J.yld i H x H' → g x (wipe σ vs) H' fun σ2 H2 => wipe σ2 vs = wipe σ vs ∧ tt σ2 H2 fun b H3 =>
      if b = true then te σ2 H3 fun y H4 => ∃ acc, H4 D = some (.lst acc) ∧ acc.length < sizeLine ∧ Pv (i + 1) (upd H4 D (.lst (acc ++ [y]))) else Pv (i + 1) H3) (hd : ∀ H, Pv n H → Qd H) :
    ∃ W : Nat → Nat → Hp → Prop, (∃ m, W 0 m (upd H1 D (.lst []))) ∧ ∀ i m H, W i m H →
      (J.stop i H ∧ Qd H) ∨ (J.go i H ∧ ∃ Nx : Hp → Prop, (∀ H', Nx H' → ∃ m', m' < m ∧ W (i + 1) m' H') ∧ ∀ x H', J.yld i H x H' → g x (wipe σ vs) H' fun σ2 H2 => wipe σ2 vs = wipe σ vs ∧ tt σ2 H2 fun b H3 =>
        if b = true then te σ2 H3 fun y H4 => ∃ acc, H4 D = some (.lst acc) ∧ acc.length < sizeLine ∧ Nx (upd H4 D (.lst (acc ++ [y]))) else Nx H3) := by
  refine ⟨fun i m H => m = n - i ∧ i ≤ n ∧ Pv i H, ⟨n, by simp, Nat.zero_le _, h0⟩, ?_⟩
  rintro i m H ⟨rfl, hi, p⟩
  by_cases hlt : i < n
  · exact .inr ⟨hgo i H hlt p, Pv (i + 1), fun H' p' => ⟨n - (i + 1), by omega, rfl, hlt, p'⟩, fun x H' y => hs i H x H' hlt p y⟩
  · have e : i = n := by omega
    subst e
    exact .inl ⟨hst H p, hd H p⟩
/-- over zip(list, list) -/
theorem lc_zip {K : PySem.W.Frag} {a b : Addr} {xs ys : List V} {g : TG} {tt : TT} {te : TE} {vs : List Nat} {σ : St} {H1 : Hp} {D : Addr} {Qd : Hp → Prop} (Pv : Nat → Hp → Prop) (hlen : xs.length = ys.length) (h0 : Pv 0 (upd H1 D (.lst []))) (hl : ∀ i H, i ≤ xs.length → Pv i H → SqL K H a xs ∧ SqL K H b ys)
    (hs : ∀ i x y H T, xs[i]? = some x → ys[i]? = some y → Pv i H → H T = none → g (.ref T) (wipe σ vs) (upd H T (.tup [x, y])) fun σ2 H2 => wipe σ2 vs = wipe σ vs ∧ tt σ2 H2 fun b H3 =>
      if b = true then te σ2 H3 fun y H4 => ∃ acc, H4 D = some (.lst acc) ∧ acc.length < sizeLine ∧ Pv (i + 1) (upd H4 D (.lst (acc ++ [y]))) else Pv (i + 1) H3) (hd : ∀ H, Pv xs.length H → Qd H) :
    ∃ W : Nat → Nat → Hp → Prop, (∃ m, W 0 m (upd H1 D (.lst []))) ∧ ∀ i m H, W i m H →
      ((Itz K a b).stop i H ∧ Qd H) ∨ ((Itz K a b).go i H ∧ ∃ Nx : Hp → Prop, (∀ H', Nx H' → ∃ m', m' < m ∧ W (i + 1) m' H') ∧ ∀ x H', (Itz K a b).yld i H x H' → g x (wipe σ vs) H' fun σ2 H2 => wipe σ2 vs = wipe σ vs ∧ tt σ2 H2 fun b H3 =>
        if b = true then te σ2 H3 fun y H4 => ∃ acc, H4 D = some (.lst acc) ∧ acc.length < sizeLine ∧ Nx (upd H4 D (.lst (acc ++ [y]))) else Nx H3) :=
  lc_by (n := xs.length) Pv h0 (fun i H hi p => ⟨xs, ys, xs[i], ys[i], (hl i H (Nat.le_of_lt hi) p).1, (hl i H (Nat.le_of_lt hi) p).2, by simp [hi], by simp [hlen ▸ hi]⟩) (fun H p => ⟨xs, ys, (hl _ H (Nat.le_refl _) p).1, (hl _ H (Nat.le_refl _) p).2, .inl (Nat.le_refl _)⟩)
    (fun i H x H' hi p y => by
      obtain ⟨T, z, z', rfl, hT, rfl, hz, hz'⟩ := y
      have q := hl i H (Nat.le_of_lt hi) p
      exact hs i z z' H T (hz xs q.1) (hz' ys q.2) p hT) hd
end L2

set_option Elab.async false
set_option maxRecDepth 100000
set_option linter.all false
set_option maxHeartbeats 4000000
/-! The rules that read the text's own objects, with these by their name: inside a comprehension's block nothing of the block may stand in a reading. -/
namespace L2
open PySem PySem.Spec PyProof.Rows
section
variable {X : Cx} {K : PySem.W.Frag}
theorem kix_list (hK : X.K = K) : IxR X (rIxL K) := by subst hK; exact ix_list
theorem kix_tup (hK : X.K = K) : IxR X (rIxT K) := by subst hK; exact ix_tup
theorem kcall_len (hK : X.K = K) : CallR X (.builtin "len") (fun xs H Q => ∃ p ys, xs = [.ref p] ∧ (SqL K H p ys ∨ SqT K H p ys) ∧ Q (.int ys.length) H) := by subst hK; exact call_len_seq
theorem kcall_list (hK : X.K = K) : CallR X (.type "list") (fun xs H Q => ∃ p ys, xs = [.ref p] ∧ (SqL K H p ys ∨ SqT K H p ys) ∧ ∀ l, H l = none → Q (.ref l) (upd H l (.lst ys))) := by subst hK; exact call_list_of
theorem kcall_isinst {T : String} (hK : X.K = K) : CallR X (.builtin "isinstance") (fun xs H Q => ∃ x t b, xs = [x, .ty T] ∧ TyOf K H x t ∧ PySem.W.kitOne K t (.type T) = some b ∧ Q (.bl b) H) := by subst hK; exact call_isinst
theorem kcall_isinstT (hK : X.K = K) : CallR X (.builtin "isinstance") (fun xs H Q => ∃ x t b tp cs, xs = [x, .ref tp] ∧ TyOf K H x t ∧ H tp = some (.tup cs) ∧ (∀ its, Vals cs its → PySem.W.kitAny K t its = some b) ∧ Q (.bl b) H) := by subst hK; exact call_isinstT
theorem kcr_sum (hK : X.K = K) (hc : X.calm = true) : CallR X (.builtin "sum") (rSum K) := by subst hK; exact cr_sum hc
theorem kcr_sortedT (hK : X.K = K) : CallR X (.builtin "sorted") (rSortedT K) := by subst hK; exact cr_sortedT
theorem kpi_list {tg l : Expr} {tl : TE} (hK : X.K = K) (hl : PE X l tl) : PI X tg l (iList K tl) := by subst hK; exact pi_list hl
theorem kpi_zip {e e2 : Expr} {ta : TA} {p pos tpos : Pos} {elts : List Expr} {kk : Nat} (hK : X.K = K) (hg : Gl X "zip") (hm : X.mg "zip" = none) (ha : PA X [e, e2] ta)
    (hs : starEach [e, e2] X.env = (false, eval e X.env) :: starEach [e2] X.env := by rfl) (hpl : (backTo pos (starEach [e2] X.env)).any (·.1) = false := by rfl) :
    PI X (.Tuple elts kk tpos) (.Call (.Name "zip" p) [e, e2] [] pos) (iZip K ta) := by subst hK; exact pi_zip hg hm ha hs hpl
theorem kpg_tup {es : List Expr} {k : Nat} {t : TGs} {n : Nat} {pos : Pos} (hK : X.K = K) (hc : X.calm = true) (h : PGs X es t)
    (hn : (assignEach es X.env).length = n := by rfl) (hst : (assignEach es X.env).findIdx? (·.1) = none := by rfl) : PG X (.Tuple es k pos) (gTup K n t) := by subst hK; exact pg_tup hc h hn hst
theorem ksl_list (hK : X.K = K) : SlR X (rSlL K) := by subst hK; exact sl_list
theorem kop_eqD (hK : X.K = K) (hu : X.A.units + 64 < cLine) : OpR X (compareOp .Eq) (rEqD K) := by subst hK; exact op_eqD hu
theorem kop_neD (hK : X.K = K) (hu : X.A.units + 64 < cLine) : OpR X (compareOp .NotEq) (rNeD K) := by subst hK; exact op_neD hu
variable {T id : String} {name : Str} {r : V → List V → Hp → VK → Prop} {o e : Expr} {es : List Expr} {to : TE} {t : TA} {apos cpos : Pos}
theorem kpe_bm (hK : X.K = K) (pa : PlainAttrs T) (slot : Slot T name id) (hty : typeOf (.builtin id) = pure (.type "method_descriptor")) (hm : MtR X id r) (ho : PE X o to) (ha : PA X (e :: es) t)
    (hbase : attributeBase o name X.env (eval o X.env) = eval o X.env := by rfl)
    (hfew : ((backTo cpos (starEach (e :: es) X.env)).all (fun x => !x.1) && (backToKw cpos (keywordEach [] X.env)).all (fun x => x.1.isSome) && decide ((e :: es).length + ([] : List Keyword).length + (if ([] : List Keyword).isEmpty then 0 else 1) < 30)) = true := by rfl)
    (hline : (apos.endLine == cpos.line) = true := by rfl) (hs : starEach (e :: es) X.env = (false, eval e X.env) :: starEach es X.env := by rfl) (hplain : (backTo cpos (starEach es X.env)).any (·.1) = false := by rfl) :
    PE X (.Call (.Attribute o name apos) (e :: es) [] cpos) (tBM K T r to t) := by subst hK; exact pe_bm pa slot hty hm ho ha hbase hfew hline hs hplain
end
end L2

set_option Elab.async false
set_option maxRecDepth 100000
set_option linter.all false
set_option maxHeartbeats 4000000
namespace SS
open PySem L2
/-- a def of the text that keeps a promise -/
structure Def (P : Program) (w : World) (K : PySem.W.Frag) (mg : Str → Option Value) (base : Heap) (k : Nat) (x : Str) (ps : List Str) (sp : Sp) : Prop where
  ex : ∃ f fd, FnOk P w K mg base CX0 k f fd ps sp ∧ mg x = some (.ref f) ∧ PySem.W.keepIn K (.ref f) = true ∧ Binds K fd ps []
theorem Def.of {P : Program} {w : World} {K : PySem.W.Frag} {mg : Str → Option Value} {base : Heap} {k : Nat} {x q : Str} {st : Stmt} {ps : List Str} {sp : Sp} {f : Addr} {fd : FuncData} (F : Fun K x q st f fd) (b : Binds K fd ps []) (m : mg x = some (.ref f)) (G : FnOk P w K mg base CX0 k f fd ps sp) :
    Def P w K mg base k x ps sp := ⟨f, fd, G, m, F.kp, b⟩
theorem pe_def {X : Cx} {k : Nat} {x : Str} {ps : List Str} {sp : Sp} {e : Expr} {es : List Expr} {p pos : Pos} {t : TA} (D : Def X.prog X.w X.K X.mg X.base k x ps sp) (hr : Room k X.A) (hg : Gl X x) (ha : PA X (e :: es) t)
    (hdb : (x == ("__debug__" : Str)) = false := by decide) (he : starEach (e :: es) X.env = (false, eval e X.env) :: starEach es X.env := by rfl) (hpl : (backTo pos (starEach es X.env)).any (·.1) = false := by rfl) :
    PE X (.Call (.Name x p) (e :: es) [] pos) (tCall sp [] E0 t) := by
  obtain ⟨f, fd, G, m, kp, b⟩ := D.ex
  exact pe_call G hr hg m kp b .nil pass0 ha hdb he hpl
/-- the built-ins' names are not the text's own -/
structure Blt (mg : Str → Option Value) : Prop where
  max : mg "max" = none
  min : mg "min" = none
  int : mg "int" = none
  len : mg "len" = none
  list : mg "list" = none
  tuple : mg "tuple" = none
  bool : mg "bool" = none
  range : mg "range" = none
  sorted : mg "sorted" = none
  sum : mg "sum" = none
  zip : mg "zip" = none
  enumerate : mg "enumerate" = none
  isinstance : mg "isinstance" = none
  set : mg "set" = none
  all : mg "all" = none
  str : mg "str" = none
  any : mg "any" = none
  dict : mg "dict" = none
/-- a hand of draws -/
structure HandOk (x y : Int) : Prop where
  x0 : 0 ≤ x
  y0 : 0 ≤ y
  y1 : y ≤ 2147483647
def HandAt (H : Hp) (h : Addr) : Prop := ∃ x y, H h = some (.lst [.int x, .int y]) ∧ HandOk x y
/-- all that was there is as it was, but at h -/
def Keep (h : Addr) (H H' : Hp) : Prop := ∀ b o, H b = some o → b ≠ h → H' b = some o
theorem Keep.refl (h : Addr) (H : Hp) : Keep h H H := fun _ _ e _ => e
theorem Keep.trans {h : Addr} {H H1 H2 : Hp} (a : Keep h H H1) (b : Keep h H1 H2) : Keep h H H2 := fun c o e n => b c o (a c o e n) n
theorem Keep.same {h : Addr} {H H' : Hp} (a : Same H H') : Keep h H H' := fun c o e _ => a c o e
theorem Keep.hand {h : Addr} {H : Hp} (o : HO) : Keep h H (upd H h o) := fun c u e n => by rw [upd_ne n]; exact e
theorem Keep.new {h p : Addr} {H : Hp} (hp : H p = none) (o : HO) : Keep h H (upd H p o) := fun c u e n => by rw [upd_ne (ne_of_none e hp)]; exact e
/-- what was not there before may be changed -/
theorem Keep.own {h p : Addr} {H H1 : Hp} (a : Keep h H H1) (hp : H p = none) (o : HO) : Keep h H (upd H1 p o) := fun c u e n => by rw [upd_ne (ne_of_none e hp)]; exact a c u e n
theorem Keep.hnd {h : Addr} {H H1 : Hp} (a : Keep h H H1) (o : HO) : Keep h H (upd H1 h o) := fun c u e n => by rw [upd_ne n]; exact a c u e n
theorem same_new {H : Hp} {p : Addr} (h : H p = none) (o : HO) : Same H (upd H p o) := fun b u q => by rw [upd_ne (ne_of_none q h)]; exact q
/-- what was not there before may be changed -/
theorem Same.own {p : Addr} {H H1 : Hp} (a : Same H H1) (hp : H p = none) (o : HO) : Same H (upd H1 p o) := fun c u e => by rw [upd_ne (ne_of_none e hp)]; exact a c u e
/-- a new address is new to what stood before -/
theorem Keep.free {h : Addr} {H H1 : Hp} (a : Keep h H H1) (hh : HandAt H1 h) {p : Addr} (hp : H1 p = none) : H p = none := by
  cases e : H p with
  | none => rfl
  | some o =>
    by_cases q : p = h
    · subst q
      obtain ⟨x, y, z, _⟩ := hh
      rw [z] at hp; cases hp
    · rw [a p o e q] at hp; cases hp
theorem HandAt.upd {H : Hp} {h p : Addr} (hh : HandAt H h) (o : HO) (n : p ≠ h) : HandAt (upd H p o) h := by
  obtain ⟨x, y, e, k⟩ := hh
  exact ⟨x, y, by rw [upd_ne n.symm]; exact e, k⟩
theorem HandAt.new {H : Hp} {h p : Addr} (hh : HandAt H h) (hp : H p = none) (o : HO) : HandAt (L2.upd H p o) h := by
  obtain ⟨x, y, e, k⟩ := hh
  exact ⟨x, y, by rw [upd_ne (ne_of_none e hp)]; exact e, k⟩
theorem HandAt.set {H : Hp} {h : Addr} {x y : Int} (k : HandOk x y) : HandAt (L2.upd H h (.lst [.int x, .int y])) h := ⟨x, y, upd_same, k⟩
theorem HandAt.some {H : Hp} {h : Addr} (hh : HandAt H h) : ∃ o, H h = some o := by obtain ⟨x, y, e, _⟩ := hh; exact ⟨_, e⟩
theorem HandAt.ne {H : Hp} {h p : Addr} (hh : HandAt H h) (hp : H p = none) : p ≠ h := by
  obtain ⟨x, y, e, _⟩ := hh
  exact (ne_of_none e hp).symm
theorem HandAt.keep {H H' : Hp} {h b : Addr} (hh : HandAt H h) (k : Keep b H H') (n : h ≠ b) : HandAt H' h := by
  obtain ⟨x, y, e, o⟩ := hh
  exact ⟨x, y, k _ _ e n, o⟩

theorem HandAt.same {H H' : Hp} {h : Addr} (hh : HandAt H h) (s : Same H H') : HandAt H' h := by
  obtain ⟨x, y, e, o⟩ := hh
  exact ⟨x, y, s _ _ e, o⟩

/-- a list of ints at a -/
abbrev intsV (ns : List Int) : List V := ns.map V.int
theorem small1 {n : Nat} (h : n ≤ 1000) : n ≤ sizeLine := Nat.le_of_lt (small1000 h)
theorem atI_of {xs : List V} {i : Int} {v : V} (h0 : 0 ≤ i) (h : xs[i.toNat]? = some v) : atI xs i = some v := by
  have e : i = ((i.toNat : Nat) : Int) := by omega
  rw [e]; exact atI_nat h
theorem seqIx {r : Int} {n : Nat} (h0 : 0 ≤ r) (h1 : r < n) : seqIndex? r n = some r.toNat := by
  have e : ¬ r < 0 := by omega
  simp only [seqIndex?, if_neg e]
  rw [if_pos (by simp; omega)]
theorem eraseIdx_map {α β : Type} (f : α → β) : ∀ (xs : List α) (i : Nat), (xs.map f).eraseIdx i = (xs.eraseIdx i).map f
  | [], _ => rfl
  | _ :: _, 0 => rfl
  | x :: xs, i + 1 => by
    show f x :: (xs.map f).eraseIdx i = f x :: (xs.eraseIdx i).map f
    rw [eraseIdx_map f xs i]
theorem perm_erase {α : Type} : ∀ (xs : List α) (i : Nat) (h : i < xs.length), (xs[i] :: xs.eraseIdx i).Perm xs
  | x :: xs, 0, _ => List.Perm.refl _
  | x :: xs, i + 1, h => by
    have h' : i < xs.length := by simpa using h
    show (xs[i] :: x :: xs.eraseIdx i).Perm (x :: xs)
    exact (List.Perm.swap x xs[i] _).trans (List.Perm.cons x (perm_erase xs i h'))
end SS

set_option Elab.async false
set_option maxRecDepth 100000
set_option linter.all false
set_option maxHeartbeats 4000000
namespace L2
open PySem PySem.Spec PyProof.Rows
/-! ### exceptions that leave a def -/
/-- an exception flies over the callers' frames: B holds what stood at the raise, the frames aside -/
def FlyX (P : Program) (w : World) : CXT := fun outer H s E e s' =>
  ∃ (a : Addr) (C a0 : Value) (B : Heap) (H' : Hp), e = .ref a ∧ s'.os = s.os ∧ AllBare s'.gens ∧ Un (frs outer) [] H H' s.heap s'.heap ∧ HOk P w H' s'.heap ∧ Heap.FlyingW B outer a C a0 s'.heap ∧ H' a = none ∧
    (∀ b o, s.heap.get? b = some o → H b = none → b ∉ frs outer → B.get? b = some o) ∧ (∀ b o, s.heap.get? b = some o → b ∉ frs outer → ∃ o', B.get? b = some o') ∧ (∀ b o, H' b = some o → ∃ o', B.get? b = some o') ∧ E C none H'
section
variable {P : Program} {w : World} {H H' : Hp} {h0 h1 h2 B : Heap} {l : List Env}
theorem ObjOk.there {h : Heap} {a : Addr} {o : HO} (x : ObjOk P w H h a o) : ∃ u, h.get? a = some u := by
  cases o with
  | lst xs => obtain ⟨_, _, _, _, e⟩ := x; exact ⟨_, e⟩
  | tup xs => obtain ⟨_, _, _, ob, e, _⟩ := x; exact ⟨_, e⟩
  | dK kvs => obtain ⟨_, _, _, _, o, _, _, e, _⟩ := x; exact ⟨_, e⟩
  | dT kvs => obtain ⟨_, _, _, _, o, _, _, e, _⟩ := x; exact ⟨_, e⟩
  | set S n => obtain ⟨o, _, _, _, e, _⟩ := x; exact ⟨_, e⟩
  | ins C dx fs => obtain ⟨_, _, _, e, _⟩ := x; exact ⟨_, e⟩
  | own y => exact x
  | xd fs => obtain ⟨_, ⟨_, _, _, e, _⟩, _⟩ := x; exact ⟨_, e⟩
  | rng lo hi => obtain ⟨_, _, _, e⟩ := x; exact ⟨_, e⟩
  | frz ob u => obtain ⟨e, _⟩ := x; exact ⟨_, e⟩
  | tbl ps => exact ⟨_, (show h.get? a = some _ from x)⟩
  | met f y => exact ⟨_, (show h.get? a = some _ from x)⟩
  | ext φ => obtain ⟨_, e, _⟩ := x; exact e
end

section
variable {P : Program} {w : World} {K : PySem.W.Frag} {mg : Str → Option Value} {base : Heap} {N : List Str} {qual : Str} {scope : Scope} {f : Addr} {cd : Value} {A : Around} {outer : List Env} {s : Shared} {H : Hp} {E : XK}
end

/-! ### f'..': texts and whole numbers -/
abbrev TJ := Nat → St → Hp → (Hp → Prop) → Prop
section
variable {X : Cx} {parts : List Expr} {t : TJ} {te : TE} {e : Expr} {x : Str} {j : Nat} {pos : Pos}
end

/-! ### raise of a class of one's own -/
section
variable {P : Program} {w : World} {K : PySem.W.Frag} {mg : Str → Option Value} {base : Heap} {N : List Str} {qual : Str} {scope : Scope} {f : Addr} {cd : Value} {A : Around} {outer : List Env} {s : Shared} {H : Hp} {E : XK}
end
end L2

set_option Elab.async false
set_option maxRecDepth 100000
set_option linter.all false
set_option maxHeartbeats 4000000
namespace L2
open PySem PySem.Spec PyProof.Rows
/-! ### try: .. except T as n: .. -/
section
variable {X : Cx} {pins : List (Addr × Obj)} {σ : St} {H : Hp} {s : Shared}
end

abbrev TB := St → Hp → (Hp → Prop) → (Value → Hp → Prop) → Prop
section
variable {X : Cx} {body suite : List Stmt} {b0 : Stmt} {tb : TB} {ts : TS} {x n : Str} {T : Addr} {i : Nat} {np hpos pos : Pos}
end
end L2

set_option Elab.async false
set_option maxRecDepth 100000
set_option linter.all false
set_option maxHeartbeats 4000000
namespace L2
open PySem PySem.Spec PyProof.Rows
end L2
namespace SS
open PySem L2
structure DefX (P : Program) (w : World) (K : PySem.W.Frag) (mg : Str → Option Value) (base : Heap) (k : Nat) (x : Str) (ps : List Str) (sp : Sp) : Prop where
  ex : ∃ f fd, FnOk P w K mg base (FlyX P w) k f fd ps sp ∧ mg x = some (.ref f) ∧ PySem.W.keepIn K (.ref f) = true ∧ Binds K fd ps []
theorem DefX.of {P : Program} {w : World} {K : PySem.W.Frag} {mg : Str → Option Value} {base : Heap} {k : Nat} {x q : Str} {st : Stmt} {ps : List Str} {sp : Sp} {f : Addr} {fd : FuncData} (F : Fun K x q st f fd) (b : Binds K fd ps []) (m : mg x = some (.ref f)) (G : FnOk P w K mg base (FlyX P w) k f fd ps sp) :
    DefX P w K mg base k x ps sp := ⟨f, fd, G, m, F.kp, b⟩
section
variable {X : Cx} {k : Nat} {x : Str} {ps : List Str} {sp : Sp} {e : Expr} {es : List Expr} {p pos : Pos} {t : TA}
end
section
variable {P : Program} {w : World} {K : PySem.W.Frag} {mg : Str → Option Value} {base : Heap} {N : List Str} {qual : Str} {scope : Scope} {f : Addr} {cd : Value} {A : Around} {outer : List Env} {s : Shared} {H : Hp} {E : XK}
variable {k : Nat} {x : Str} {ps : List Str} {sp : Sp} {e : Expr} {es : List Expr} {p pos : Pos} {t : TA}
end
end SS

set_option Elab.async false
set_option maxRecDepth 100000
set_option linter.all false
set_option maxHeartbeats 4000000
namespace L2
open PySem PySem.Spec PyProof.Rows
/-! ### isinstance of an exception of one's own -/
namespace XF
end XF
section
variable {prog : Program} {w : World} {A : Around} {E : Value → Shared → Prop} {h : Heap} {g : Array GenState} {d : Drawn} {t : Nat} {os : OsState} {a : Addr} {o : Obj}
  {nm q : Str} {C N : Addr} {bs bm : List Value} {hdct : Bool} {sn : List Str} {sub : List Value} {ab : Bool} {col : Option Bool} {dd : Option Addr} {k0 k1 k2 k3 k5 : Option Value} {newId : String} {K : PySem.W.Frag}
end
section
variable {X : Cx}
end
end L2

set_option Elab.async false
set_option maxRecDepth 100000
set_option linter.all false
set_option maxHeartbeats 4000000
namespace L2
open PySem PySem.Spec PyProof.Rows
section
variable {X : Cx}
/-- // by a positive divisor below 2^100 -/
theorem op_fdivB : OpR X (binaryOp .FloorDiv) (rI (fun _ j => 0 < j ∧ j < 2 ^ 100) fun i j => .int (i / j)) := opI fun i j _ _ _ _ _ hc q => by
  have h1 : (0 : Int) < j := hc.1
  have h2 : j < 2 ^ 100 := hc.2
  refine floordiv_int (by omega) (by rw [Int.fdiv_eq_ediv_of_nonneg i (by omega)]; exact q) (.inl (PyProof.noPylong_of_log2 ?_))
  have h3 : j.natAbs < 2 ^ 100 := by omega
  have h4 : j.natAbs ≠ 0 := by omega
  exact Nat.lt_trans ((Nat.log2_lt h4).mpr h3) (by decide)
end
end L2

set_option Elab.async false
set_option maxRecDepth 100000
set_option linter.all false
set_option maxHeartbeats 4000000
namespace L2
open PySem PySem.Spec PyProof.Rows
section
variable {X : Cx}
end
end L2

set_option Elab.async false
set_option maxRecDepth 100000
set_option linter.all false
set_option maxHeartbeats 4000000
namespace SM
open PySem PySem.SetTable
/-! ### the probing of a set's table comes to an empty slot -/
def it {α : Type} (f : α → α) : Nat → α → α
  | 0, x => x
  | n + 1, x => it f n (f x)
theorem it_add {α : Type} (f : α → α) : ∀ (a b : Nat) (x : α), it f (a + b) x = it f b (it f a x)
  | 0, b, x => by rw [Nat.zero_add]; rfl
  | a + 1, b, x => by rw [Nat.succ_add]; exact it_add f a b (f x)
theorem it_succ {α : Type} (f : α → α) (n : Nat) (x : α) : it f (n + 1) x = f (it f n x) := by rw [it_add f n 1 x]; rfl
def lcg (mask i : Nat) : Nat := (i * 5 + 1) % (mask + 1)
/-- where e stands on the way from 0 -/
def okMask (mask : Nat) : Bool := (List.range (mask + 1)).all (fun e => (List.range (mask + 1)).any fun b => it (lcg mask) b 0 == e) && it (lcg mask) (mask + 1) 0 == 0
theorem ok7 : okMask 7 = true := by decide +kernel
theorem ok31 : okMask 31 = true := by decide +kernel
theorem ok127 : okMask 127 = true := by decide +kernel
theorem okMask_of {mask : Nat} (h : mask = 7 ∨ mask = 31 ∨ mask = 127) : okMask mask = true := by
  rcases h with rfl | rfl | rfl
  · exact ok7
  · exact ok31
  · exact ok127
theorem lcg_from0 {mask : Nat} (h : okMask mask = true) {e : Nat} (he : e ≤ mask) : ∃ b, b ≤ mask ∧ it (lcg mask) b 0 = e := by
  unfold okMask at h
  rw [Bool.and_eq_true, List.all_eq_true] at h
  have := h.1 e (List.mem_range.mpr (by omega))
  rw [List.any_eq_true] at this
  obtain ⟨b, hb, q⟩ := this
  exact ⟨b, by have := List.mem_range.mp hb; omega, beq_iff_eq.mp q⟩
theorem lcg_any {mask : Nat} (h : okMask mask = true) {i e : Nat} (hi : i ≤ mask) (he : e ≤ mask) : ∃ m, m ≤ mask ∧ it (lcg mask) m i = e := by
  obtain ⟨a, ha, ea⟩ := lcg_from0 h hi
  obtain ⟨b, hb, eb⟩ := lcg_from0 h he
  have per : it (lcg mask) (mask + 1) 0 = 0 := by
    unfold okMask at h
    rw [Bool.and_eq_true] at h
    exact beq_iff_eq.mp h.2
  by_cases c : a ≤ b
  · refine ⟨b - a, by omega, ?_⟩
    rw [← ea, ← it_add, show a + (b - a) = b by omega]
    exact eb
  · refine ⟨mask + 1 + b - a, by omega, ?_⟩
    rw [← ea, ← it_add, show a + (mask + 1 + b - a) = (mask + 1) + b by omega, it_add, per]
    exact eb
/-- the leaps: (i, perturb) -/
def lp (mask : Nat) (x : Nat × Nat) : Nat × Nat := leap mask x.1 x.2
theorem lp_perturb (mask : Nat) : ∀ (n : Nat) (x : Nat × Nat), (it (lp mask) n x).2 = x.2 / 32 ^ n
  | 0, x => by simp [it]
  | n + 1, x => by
    show (it (lp mask) n (lp mask x)).2 = _
    rw [lp_perturb mask n]
    show x.2 / 32 / 32 ^ n = x.2 / 32 ^ (n + 1)
    rw [Nat.div_div_eq_div_mul, Nat.pow_succ, Nat.mul_comm]
theorem lp_le (mask : Nat) (x : Nat × Nat) : (lp mask x).1 ≤ mask := by
  show (x.1 * 5 + 1 + x.2 / 32) % (mask + 1) ≤ mask
  exact Nat.le_of_lt_succ (Nat.mod_lt _ (Nat.succ_pos mask))
theorem lp_zero (mask : Nat) : ∀ (n i : Nat), it (lp mask) n (i, 0) = (it (lcg mask) n i, 0)
  | 0, _ => rfl
  | n + 1, i => by
    show it (lp mask) n (lp mask (i, 0)) = (it (lcg mask) n (lcg mask i), 0)
    have : lp mask (i, 0) = (lcg mask i, 0) := by
      show ((i * 5 + 1 + 0 / 32) % (mask + 1), 0 / 32) = _
      rw [Nat.zero_div, Nat.add_zero]
      rfl
    rw [this]
    exact lp_zero mask n _
theorem lp_any {mask : Nat} (h : okMask mask = true) {x : Nat × Nat} (hp : x.2 < 2 ^ 64) {e : Nat} (he : e ≤ mask) : ∃ m, 1 ≤ m ∧ m ≤ mask + 13 ∧ (it (lp mask) m x).1 = e := by
  have p13 : (it (lp mask) 13 x).2 = 0 := by
    rw [lp_perturb]
    exact Nat.div_eq_of_lt (Nat.lt_trans hp (by decide))
  have i13 : (it (lp mask) 13 x).1 ≤ mask := by
    rw [it_succ]
    exact lp_le _ _
  obtain ⟨m, hm, em⟩ := lcg_any h i13 he
  refine ⟨13 + m, by omega, by omega, ?_⟩
  rw [it_add]
  have e13 : it (lp mask) 13 x = ((it (lp mask) 13 x).1, 0) := by rw [← p13]
  rw [e13, lp_zero]
  exact em
/-! ### the steps -/
structure PrOk (mask : Nat) (p : Probe) : Prop where
  more : p.more ≤ 9
  pert : p.perturb < 2 ^ 64
  dum : p.dummy = none
theorem run_le {mask i : Nat} : runEnd mask i - i ≤ 9 := by
  unfold runEnd
  split <;> omega
theorem start_ok (t : SetTable) (h : Int) : PrOk t.mask (t.probeStart h) := by
  refine ⟨run_le, ?_, rfl⟩
  show (h % (2 ^ 64 : Int)).toNat < 2 ^ 64
  omega
theorem adv_ok {t : SetTable} {p : Probe} (h : PrOk t.mask p) : PrOk t.mask (t.advance p) := by
  unfold advance
  split
  · exact ⟨by have := h.more; show p.more - 1 ≤ 9; omega, h.pert, h.dum⟩
  · refine ⟨run_le, ?_, h.dum⟩
    show p.perturb / 32 < 2 ^ 64
    exact Nat.lt_of_le_of_lt (Nat.div_le_self _ _) h.pert
/-- so many steps to the next leap -/
theorem adv_leap (t : SetTable) : ∀ (n : Nat) (p : Probe), p.more = n → ∃ q, it t.advance (n + 1) p = q ∧ q.j = (leap t.mask p.i p.perturb).1 ∧ q.i = (leap t.mask p.i p.perturb).1 ∧ q.perturb = (leap t.mask p.i p.perturb).2 ∧ q.more = runEnd t.mask (leap t.mask p.i p.perturb).1 - (leap t.mask p.i p.perturb).1
  | 0, p, e => by
    refine ⟨_, rfl, ?_⟩
    show (t.advance p).j = _ ∧ (t.advance p).i = _ ∧ (t.advance p).perturb = _ ∧ (t.advance p).more = _
    unfold advance
    rw [if_neg (by omega)]
    exact ⟨rfl, rfl, rfl, rfl⟩
  | n + 1, p, e => by
    have ea : t.advance p = { p with j := p.j + 1, more := p.more - 1 } := by
      unfold advance
      rw [if_pos (by omega)]
    obtain ⟨q, e1, e2⟩ := adv_leap t n (t.advance p) (by rw [ea]; show p.more - 1 = n; omega)
    refine ⟨q, e1, ?_⟩
    rw [ea] at e2
    exact e2
theorem adv_leaps {t : SetTable} : ∀ (m : Nat) (p : Probe), PrOk t.mask p → 1 ≤ m → ∃ k, k ≤ 10 * m ∧ (it t.advance k p).j = (it (lp t.mask) m (p.i, p.perturb)).1 ∧ (it t.advance k p).i = (it (lp t.mask) m (p.i, p.perturb)).1 ∧ (it t.advance k p).perturb = (it (lp t.mask) m (p.i, p.perturb)).2 ∧ (it t.advance k p).more ≤ 9
  | 0, _, _, h => by omega
  | 1, p, ok, _ => by
    obtain ⟨q, e, e1, e2, e3, e4⟩ := adv_leap t p.more p rfl
    have := ok.more
    refine ⟨p.more + 1, by omega, ?_⟩
    rw [e]
    exact ⟨e1, e2, e3, by rw [e4]; exact run_le⟩
  | m + 2, p, ok, _ => by
    obtain ⟨k, hk, e1, e2, e3, e4⟩ := adv_leaps (m + 1) p ok (by omega)
    obtain ⟨q, e, f1, f2, f3, f4⟩ := adv_leap t (it t.advance k p).more (it t.advance k p) rfl
    refine ⟨k + ((it t.advance k p).more + 1), by omega, ?_⟩
    rw [it_add, e]
    have el : leap t.mask (it t.advance k p).i (it t.advance k p).perturb = it (lp t.mask) (m + 2) (p.i, p.perturb) := by
      rw [it_succ (lp t.mask) (m + 1), e2, e3]
      rfl
    rw [el] at f1 f2 f3 f4
    exact ⟨f1, f2, f3, by rw [f4]; exact run_le⟩
/-- from any state of a search an empty slot is met, in fewer steps than a probing has -/
theorem meets {t : SetTable} (hm : okMask t.mask = true) {p : Probe} (ok : PrOk t.mask p) {e : Nat} (he : e ≤ t.mask) : ∃ k, k < 10 * turns t.mask ∧ (it t.advance k p).j = e := by
  obtain ⟨m, m1, m2, em⟩ := lp_any hm ok.pert (x := (p.i, p.perturb)) he
  obtain ⟨k, hk, e1, _⟩ := adv_leaps m p ok m1
  refine ⟨k, ?_, e1.trans em⟩
  unfold turns
  omega

theorem pigeon : ∀ (n : Nat) (l : List Nat), (∀ e, e < n → e ∈ l) → n ≤ l.length
  | 0, _, _ => Nat.zero_le _
  | n + 1, l, h => by
    have hn := h n (Nat.lt_succ_self n)
    have := pigeon n (l.erase n) fun e he => (List.mem_erase_of_ne (Nat.ne_of_lt he)).mpr (h e (Nat.lt_succ_of_lt he))
    rw [List.length_erase_of_mem hn] at this
    have : 1 ≤ l.length := List.length_pos_of_mem hn
    omega
theorem slot_empty {t : SetTable} (hd : t.dummies = #[]) {e : Nat} (he : e ∉ t.place.toList) : t.slot e = .empty := by
  unfold slot
  have h1 : (t.place[below t.place e]? == some e) = false := by
    rw [Bool.eq_false_iff]
    intro z
    have := beq_iff_eq.mp z
    rw [← Array.getElem?_toList] at this
    exact he (List.mem_of_getElem? this)
  have h2 : has t.dummies e = false := by
    rw [hd]
    unfold has
    rfl
  simp only [h1, h2, Bool.false_eq_true, if_false]
theorem slot_nodummy {t : SetTable} (hd : t.dummies = #[]) (e : Nat) : t.slot e ≠ .dummy := by
  unfold slot
  have h2 : has t.dummies e = false := by
    rw [hd]
    unfold has
    rfl
  simp only [h2, Bool.false_eq_true, if_false]
  split <;> simp
theorem has_empty {t : SetTable} (hd : t.dummies = #[]) (hs : t.place.size ≤ t.mask) : ∃ e, e ≤ t.mask ∧ t.slot e = .empty := by
  apply Classical.byContradiction
  intro no
  have all : ∀ e, e < t.mask + 1 → e ∈ t.place.toList := fun e he => Classical.byContradiction fun z => no ⟨e, by omega, slot_empty hd z⟩
  have := pigeon _ _ all
  rw [Array.length_toList] at this
  omega
/-- an empty slot within N steps -/
def Reach (t : SetTable) (p : Probe) (N : Nat) : Prop := ∃ k, k ≤ N ∧ t.slot (it t.advance k p).j = .empty
theorem reach_any {t : SetTable} (hm : okMask t.mask = true) (hd : t.dummies = #[]) (hs : t.place.size ≤ t.mask) {p : Probe} (ok : PrOk t.mask p) : ∃ N, N < 10 * turns t.mask ∧ Reach t p N := by
  obtain ⟨e, he, es⟩ := has_empty hd hs
  obtain ⟨k, hk, ek⟩ := meets hm ok he
  exact ⟨k, hk, k, Nat.le_refl _, by rw [ek]; exact es⟩
theorem go_meets {t : SetTable} (hd : t.dummies = #[]) (hashAt : Nat → Int) (h : Int) : ∀ (fuel N : Nat) (p : Probe), PrOk t.mask p → Reach t p N → N < fuel →
    (∃ j, probe.go t hashAt h fuel p = some (.empty j none)) ∨ ∃ j i next N', probe.go t hashAt h fuel p = some (.candidate j i next) ∧ t.slot j = .live i ∧ PrOk t.mask next ∧ Reach t next N' ∧ N' < N
  | 0, _, _, _, _, h => by omega
  | fuel + 1, N, p, ok, r, hf => by
    obtain ⟨k, hk, ek⟩ := r
    unfold probe.go
    cases es : t.slot p.j with
    | empty => exact .inl ⟨p.j, by rw [ok.dum]⟩
    | dummy => exact absurd es (slot_nodummy hd _)
    | live i =>
      have k1 : 1 ≤ k := by
        cases k with
        | zero =>
          have ek' : t.slot p.j = .empty := ek
          rw [es] at ek'; cases ek'
        | succ k => omega
      have rn : Reach t (t.advance p) (N - 1) := ⟨k - 1, by omega, by
        have e : k = 1 + (k - 1) := by omega
        rw [e, it_add] at ek
        exact ek⟩
      show (∃ j, (if (hashAt i == h) = true then _ else _) = _) ∨ _
      by_cases c : (hashAt i == h) = true
      · refine .inr ⟨p.j, i, t.advance p, N - 1, ?_, es, adv_ok ok, rn, by omega⟩
        show (if (hashAt i == h) = true then _ else _) = _
        rw [if_pos c]
      · rcases go_meets hd hashAt h fuel (N - 1) (t.advance p) (adv_ok ok) rn (by omega) with ⟨j, e⟩ | ⟨j, i', next, N', e, e2, e3, e4, e5⟩
        · refine .inl ⟨j, ?_⟩
          rw [if_neg c]
          exact e
        · refine .inr ⟨j, i', next, N', ?_, e2, e3, e4, by omega⟩
          show (if (hashAt i == h) = true then _ else _) = _
          rw [if_neg c]
          exact e
end SM

set_option Elab.async false
set_option maxRecDepth 100000
set_option linter.all false
set_option maxHeartbeats 4000000
namespace SM
open PySem PySem.SetTable
section
variable {prog : Program} {w : World} {A : Around} {E : Value → Shared → Prop} {K : Type} [DecidableEq K] {knd : KeyKind prog w K}
end
end SM

set_option Elab.async false
set_option maxRecDepth 100000
set_option linter.all false
set_option maxHeartbeats 4000000
namespace SM
open PySem PySem.SetTable
/-! ### laying anew -/
def liveL (mask : Nat) (owner : Array (Option Nat)) : List (Nat × Nat) := (List.range (mask + 1)).filterMap fun j => (owner.getD j none).map (j, ·)
theorem filterMap_one {α β : Type} [DecidableEq α] {f g : α → Option β} {j : α} (hf : f j = none) (hg : (g j).isSome = true) (ho : ∀ i, i ≠ j → g i = f i) : ∀ (l : List α), l.Nodup → (l.filterMap g).length = (l.filterMap f).length + if j ∈ l then 1 else 0
  | [], _ => by simp
  | a :: l, nd => by
    have ih := filterMap_one hf hg ho l (List.nodup_cons.mp nd).2
    by_cases e : a = j
    · subst e
      obtain ⟨b, hb⟩ := Option.isSome_iff_exists.mp hg
      have nj : a ∉ l := (List.nodup_cons.mp nd).1
      rw [if_neg nj] at ih
      rw [List.filterMap_cons, List.filterMap_cons, hf, hb, if_pos List.mem_cons_self]
      show (l.filterMap g).length + 1 = (l.filterMap f).length + 1
      omega
    · rw [List.filterMap_cons, List.filterMap_cons, ho a e]
      have mem : (if j ∈ a :: l then 1 else 0) = if j ∈ l then 1 else 0 := by
        by_cases c : j ∈ l
        · rw [if_pos c, if_pos (List.mem_cons_of_mem _ c)]
        · rw [if_neg c, if_neg]
          intro z
          rcases List.mem_cons.mp z with z | z
          · exact e z.symm
          · exact c z
      rw [mem]
      cases f a with
      | none => exact ih
      | some b =>
        show (l.filterMap g).length + 1 = (l.filterMap f).length + 1 + _
        omega
theorem range_nodup (n : Nat) : (List.range n).Nodup := List.nodup_range
theorem live_set {mask : Nat} {owner : Array (Option Nat)} {j k : Nat} (hs : owner.size = mask + 1) (hj : j ≤ mask) (hn : owner.getD j none = none) : (liveL mask (owner.setIfInBounds j (some k))).length = (liveL mask owner).length + 1 := by
  unfold liveL
  have hjs : j < owner.size := by omega
  rw [filterMap_one (f := fun i => (owner.getD i none).map (i, ·)) (g := fun i => ((owner.setIfInBounds j (some k)).getD i none).map (i, ·)) (j := j) (by rw [hn]; rfl) ?_ ?_ _ (range_nodup _), if_pos (List.mem_range.mpr (by omega))]
  · simp [Array.getD, hjs]
  · intro i hi
    by_cases c : i < owner.size
    · simp [Array.getD, c, Array.getElem_setIfInBounds, Ne.symm hi]
    · simp [Array.getD, c]
theorem filterMap_full {α β : Type} {f : α → Option β} : ∀ (l : List α), (∀ a ∈ l, f a ≠ none) → (l.filterMap f).length = l.length
  | [], _ => rfl
  | a :: l, h => by
    obtain ⟨b, hb⟩ := Option.ne_none_iff_exists'.mp (h a List.mem_cons_self)
    rw [List.filterMap_cons, hb]
    show (l.filterMap f).length + 1 = l.length + 1
    rw [filterMap_full l fun x hx => h x (List.mem_cons_of_mem _ hx)]
theorem owner_empty {mask : Nat} {owner : Array (Option Nat)} (h : (liveL mask owner).length ≤ mask) : ∃ e, e ≤ mask ∧ owner.getD e none = none := by
  apply Classical.byContradiction
  intro no
  have : (liveL mask owner).length = (List.range (mask + 1)).length := filterMap_full _ fun a ha z => by
    have ha' := List.mem_range.mp ha
    exact no ⟨a, by omega, by
      cases q : owner.getD a none with
      | none => rfl
      | some v => rw [q] at z; cases z⟩
  rw [List.length_range] at this
  omega
theorem free_ends {mask : Nat} {owner : Array (Option Nat)} (hs : owner.size = mask + 1) {e : Nat} (he : e ≤ mask) (hn : owner.getD e none = none) : ∀ (fuel m i perturb : Nat), (it (lp mask) m (i, perturb)).1 = e → m < fuel → ∃ j, layClean.free mask owner fuel i perturb = some j ∧ j ≤ mask ∧ owner.getD j none = none
  | 0, _, _, _, _, h => by omega
  | fuel + 1, m, i, perturb, em, hm => by
    unfold layClean.free
    cases q : (List.range (runEnd mask i + 1 - i)).find? fun k => (owner.getD (i + k) (some 0)).isNone with
    | some k =>
      refine ⟨i + k, rfl, ?_⟩
      have := List.find?_some q
      have z : owner.getD (i + k) (some 0) = none := Option.isNone_iff_eq_none.mp this
      have lt : i + k < owner.size := by
        apply Classical.byContradiction
        intro c
        rw [Array.getD, dif_neg c] at z
        cases z
      refine ⟨by omega, ?_⟩
      rw [Array.getD, dif_pos lt] at z ⊢
      exact z
    | none =>
      cases m with
      | zero =>
        have ei : i = e := em
        have h0 := List.find?_eq_none.mp q 0 (List.mem_range.mpr (by unfold runEnd; split <;> omega))
        have lt : e < owner.size := by omega
        exfalso
        apply h0
        rw [Nat.add_zero, ei, Array.getD, dif_pos lt]
        rw [Array.getD, dif_pos lt] at hn
        rw [Option.isNone_iff_eq_none]
        exact hn
      | succ m => exact free_ends hs he hn fuel m _ _ em (by omega)

structure OwnOk (mask : Nat) (owner : Array (Option Nat)) (k : Nat) : Prop where
  size : owner.size = mask + 1
  cnt : (liveL mask owner).length = k
  lt : ∀ j v, owner.getD j none = some v → v < k
theorem own_start (mask : Nat) : OwnOk mask (Array.replicate (mask + 1) none) 0 := by
  refine ⟨by simp, ?_, fun j v h => ?_⟩
  · unfold liveL
    have : ((List.range (mask + 1)).filterMap fun j => ((Array.replicate (mask + 1) (none : Option Nat)).getD j none).map (j, ·)) = [] := by
      rw [List.filterMap_eq_nil_iff]
      intro a _
      by_cases c : a < mask + 1 <;> simp [Array.getD, c]
    rw [this]; rfl
  · by_cases c : j < mask + 1 <;> simp [Array.getD, c] at h
theorem own_step {mask : Nat} {owner : Array (Option Nat)} {k j : Nat} (h : OwnOk mask owner k) (hj : j ≤ mask) (hn : owner.getD j none = none) : OwnOk mask (owner.setIfInBounds j (some k)) (k + 1) := by
  refine ⟨by simp [h.size], by rw [live_set h.size hj hn, h.cnt], fun i v e => ?_⟩
  by_cases c : i < owner.size
  · by_cases d : i = j
    · subst d
      simp [Array.getD, c] at e
      omega
    · have : owner.getD i none = some v := by
        simp [Array.getD, c, Array.getElem_setIfInBounds, Ne.symm d] at e
        simp [Array.getD, c, e]
      have := h.lt i v this
      omega
  · simp [Array.getD, c] at e
def layStep (mask : Nat) (acc : Option (Array (Option Nat) × Nat)) (h : Int) : Option (Array (Option Nat) × Nat) := do
  let (owner, k) ← acc
  let j ← layClean.free mask owner (turns mask) (bits h % (mask + 1)) (bits h)
  pure (owner.setIfInBounds j (some k), k + 1)
end SM

set_option Elab.async false
set_option maxRecDepth 100000
set_option linter.all false
set_option maxHeartbeats 4000000
namespace SM
open PySem PySem.SetTable
theorem insert_size {α : Type} (xs : Array α) (p : Nat) (x : α) : (insertAt xs p x).size = xs.size + 1 := by
  unfold insertAt
  simp
  omega
section
variable {prog : Program} {w : World} {A : Around} {E : Value → Shared → Prop} {K : Type} [DecidableEq K] {knd : KeyKind prog w K}
theorem fill_of {t : SetTable} (h : t.dummies = #[]) : t.fill = t.place.size := by unfold fill; rw [h]; rfl
end
end SM

set_option Elab.async false
set_option maxRecDepth 100000
set_option linter.all false
set_option maxHeartbeats 4000000
namespace L2
open PySem PySem.Spec PyProof.Rows SM
/-! ### {elt for target in iter}: a set of tuples, none twice -/
section
variable {X : Cx}
end
section
variable {X : Cx}
end
end L2

set_option Elab.async false
set_option maxRecDepth 100000
set_option linter.all false
set_option maxHeartbeats 4000000
namespace SS
open PySem L2
/-! ### roads: triples (a, b, length) -/
abbrev Road := Int × Int × Int
/-- to be come to along roads -/
inductive Reach (rs : List Road) (i : Int) : Int → Prop
  | refl : Reach rs i i
  | fwd {a b l : Int} : Reach rs i a → (a, b, l) ∈ rs → Reach rs i b
  | bwd {a b l : Int} : Reach rs i b → (a, b, l) ∈ rs → Reach rs i a
theorem Reach.trans {rs : List Road} {i j k : Int} (h : Reach rs i j) (g : Reach rs j k) : Reach rs i k := by
  induction g with
  | refl => exact h
  | fwd _ m ih => exact .fwd ih m
  | bwd _ m ih => exact .bwd ih m
theorem Reach.symm {rs : List Road} {i j : Int} (h : Reach rs i j) : Reach rs j i := by
  induction h with
  | refl => exact .refl
  | fwd _ m ih => exact Reach.trans (.bwd .refl m) ih
  | bwd _ m ih => exact Reach.trans (.fwd .refl m) ih
theorem Reach.mono {rs rs' : List Road} {i j : Int} (k : ∀ a b l, (a, b, l) ∈ rs → ∃ l', (a, b, l') ∈ rs') (h : Reach rs i j) : Reach rs' i j := by
  induction h with
  | refl => exact .refl
  | fwd _ m ih => obtain ⟨l', m'⟩ := k _ _ _ m; exact .fwd ih m'
  | bwd _ m ih => obtain ⟨l', m'⟩ := k _ _ _ m; exact .bwd ih m'
structure RoadsOk (m : Nat) (rs : List Road) : Prop where
  rng : ∀ e ∈ rs, 0 ≤ e.1 ∧ e.1 < e.2.1 ∧ e.2.1 < m ∧ 1 ≤ e.2.2 ∧ e.2.2 ≤ 1000
  nd : (rs.map fun e => (e.1, e.2.1)).Nodup
def Hang (m : Nat) (rs : List Road) : Prop := ∀ i j : Int, 0 ≤ i → i < m → 0 ≤ j → j < m → Reach rs i j
/-! ### the dict of roads -/
/-- roads as they stand in the heap: a list of tuples -/
def tupR (e : Road) : HO := .tup [.int e.1, .int e.2.1, .int e.2.2]
def RoadsAt (H : Hp) (r : Addr) (rs : List Road) : Prop := ∃ ts : List Addr, H r = some (.lst (ts.map V.ref)) ∧ Paired (fun t e => H t = some (tupR e)) ts rs
def intV : V → Int
  | .int n => n
  | _ => 0
def keyAt (H : Hp) (t : Addr) : List Int := match H t with
  | some (.tup xs) => xs.map intV
  | _ => []
def roadAt (H : Hp) (t : Addr) : Road := match keyAt H t with
  | [a, b, l] => (a, b, l)
  | _ => (0, 0, 0)
theorem keyAt_of {H : Hp} {t : Addr} {e : Road} (h : H t = some (tupR e)) : keyAt H t = [e.1, e.2.1, e.2.2] := by unfold keyAt; rw [h]; rfl
theorem roadAt_of {H : Hp} {t : Addr} {e : Road} (h : H t = some (tupR e)) : roadAt H t = e := by unfold roadAt; rw [keyAt_of h]
theorem paired_mem {α β : Type} {G : α → β → Prop} : ∀ {l₁ : List α} {l₂ : List β}, Paired G l₁ l₂ → ∀ a ∈ l₁, ∃ b ∈ l₂, G a b
  | _, _, .nil, _, h => by simp at h
  | _, _, .cons r t, a, h => by
    rcases List.mem_cons.mp h with rfl | h
    · exact ⟨_, List.mem_cons_self, r⟩
    · obtain ⟨b, hb, g⟩ := paired_mem t a h
      exact ⟨b, List.mem_cons_of_mem _ hb, g⟩
theorem paired_road {H : Hp} : ∀ {ts : List Addr} {es : List Road}, Paired (fun t e => H t = some (tupR e)) ts es → es = ts.map (roadAt H)
  | _, _, .nil => rfl
  | _, _, .cons r t => by rw [List.map_cons, roadAt_of r, ← paired_road t]
theorem road_paired {H : Hp} : ∀ {ts : List Addr}, (∀ t ∈ ts, ∃ e, H t = some (tupR e)) → Paired (fun t e => H t = some (tupR e)) ts (ts.map (roadAt H))
  | [], _ => .nil
  | t :: ts, h => by
    obtain ⟨e, he⟩ := h t List.mem_cons_self
    refine .cons ?_ (road_paired fun x hx => h x (List.mem_cons_of_mem _ hx))
    rw [roadAt_of he]; exact he
/-- sorted(list of roads): the same roads, rising -/
theorem sorted_roads {H : Hp} {ts : List Addr} {es : List Road} (pr : Paired (fun t e => H t = some (tupR e)) ts es) {ts' : List Addr} (pm : ts'.Perm ts) (pw : ts'.Pairwise (fun x y => HT.lexLt (keyAt H y) (keyAt H x) = false)) :
    ∃ rs, Paired (fun t e => H t = some (tupR e)) ts' rs ∧ rs.Perm es ∧ rs.Pairwise fun x y => HT.lexLt [y.1, y.2.1, y.2.2] [x.1, x.2.1, x.2.2] = false := by
  have all : ∀ t ∈ ts', ∃ e, H t = some (tupR e) := fun t ht => by
    obtain ⟨e, _, he⟩ := paired_mem pr t (pm.mem_iff.mp ht)
    exact ⟨e, he⟩
  refine ⟨ts'.map (roadAt H), road_paired all, ?_, ?_⟩
  · rw [paired_road pr]; exact pm.map _
  · rw [List.pairwise_map]
    refine List.Pairwise.imp_of_mem (fun {a b} ha hb hab => ?_) pw
    obtain ⟨ea, ha⟩ := all a ha
    obtain ⟨eb, hb⟩ := all b hb
    rw [keyAt_of ha, keyAt_of hb] at hab
    rw [roadAt_of ha, roadAt_of hb]
    exact hab
theorem RoadsOk.perm {m : Nat} {rs es : List Road} (h : RoadsOk m es) (p : rs.Perm es) : RoadsOk m rs := ⟨fun e he => h.rng e (p.mem_iff.mp he), (p.map _).nodup_iff.mpr h.nd⟩
theorem Hang.perm {m : Nat} {rs es : List Road} (h : Hang m es) (p : rs.Perm es) : Hang m rs := fun i j a b c d => (h i j a b c d).mono fun x y l m => ⟨l, p.mem_iff.mpr m⟩
end SS

set_option Elab.async false
set_option maxRecDepth 100000
set_option linter.all false
set_option maxHeartbeats 4000000
namespace SS
open PySem L2
theorem flat_one {α : Type} (x : α) : ∀ n : Nat, (List.replicate n [x]).flatten = List.replicate n x
  | 0 => rfl
  | n + 1 => by rw [List.replicate_succ, List.flatten_cons, flat_one x n, List.replicate_succ]; rfl
/-! ### square tables in the heap -/
def rowV (m : Nat) (r : Nat → V) : List V := (List.range m).map r
theorem rowV_len (m : Nat) (r : Nat → V) : (rowV m r).length = m := by simp [rowV]
theorem rowV_get {m : Nat} {r : Nat → V} {j : Nat} (h : j < m) : (rowV m r)[j]? = some (r j) := by simp [rowV, h]
theorem rowV_at {m : Nat} {r : Nat → V} {j : Int} (h0 : 0 ≤ j) (h : j < m) : atI (rowV m r) j = some (r j.toNat) := atI_of h0 (rowV_get (by omega))
theorem rowV_congr {m : Nat} {r r' : Nat → V} (h : ∀ j, j < m → r j = r' j) : rowV m r = rowV m r' := List.map_congr_left fun j hj => h j (List.mem_range.mp hj)
theorem rowV_set {m : Nat} {r : Nat → V} {b : Nat} {v : V} : (rowV m r).set b v = rowV m (fun j => if j = b then v else r j) := by
  refine List.ext_getElem? fun i => ?_
  rw [List.getElem?_set]
  by_cases hi : i < m
  · rw [rowV_get hi, rowV_get hi, rowV_len]
    by_cases e : b = i
    · subst e; simp [hi]
    · rw [if_neg e, if_neg (fun z : i = b => e z.symm)]
  · have n1 : (rowV m r)[i]? = none := List.getElem?_eq_none (by rw [rowV_len]; omega)
    have n2 : (rowV m (fun j => if j = b then v else r j))[i]? = none := List.getElem?_eq_none (by rw [rowV_len]; omega)
    rw [n1, n2, rowV_len]
    by_cases e : b = i
    · subst e; simp [hi]
    · simp [e]
def upd2 {α : Type} (g : Nat → Nat → α) (a b : Nat) (v : α) : Nat → Nat → α := fun i j => if i = a ∧ j = b then v else g i j
/-- rows at these addresses -/
structure Rows (H0 H : Hp) (rows : List Addr) (m : Nat) (g : Nat → Nat → V) : Prop where
  len : rows.length = m
  nd : rows.Nodup
  new : ∀ a ∈ rows, H0 a = none
  at_ : ∀ (i : Nat) (hi : i < rows.length), H rows[i] = some (.lst (rowV m (g i)))
structure MatAt (H0 H : Hp) (r : Addr) (m : Nat) (g : Nat → Nat → V) (rows : List Addr) : Prop where
  lst : H r = some (.lst (rows.map V.ref))
  new : H0 r = none
  out : r ∉ rows
  rws : Rows H0 H rows m g
theorem Rows.congr {H0 H : Hp} {rows : List Addr} {m : Nat} {g g' : Nat → Nat → V} (h : Rows H0 H rows m g) (e : ∀ i j, i < m → j < m → g i j = g' i j) : Rows H0 H rows m g' :=
  ⟨h.len, h.nd, h.new, fun i hi => by rw [h.at_ i hi, rowV_congr fun j hj => e i j (by have := h.len; omega) hj]⟩
theorem MatAt.congr {H0 H : Hp} {r : Addr} {rows : List Addr} {m : Nat} {g g' : Nat → Nat → V} (h : MatAt H0 H r m g rows) (e : ∀ i j, i < m → j < m → g i j = g' i j) : MatAt H0 H r m g' rows := ⟨h.lst, h.new, h.out, h.rws.congr e⟩
theorem MatAt.keep {H0 H H' : Hp} {r h : Addr} {rows : List Addr} {m : Nat} {g : Nat → Nat → V} (a : MatAt H0 H r m g rows) (k : Keep h H H') (n : r ≠ h) (n' : h ∉ rows) : MatAt H0 H' r m g rows :=
  ⟨k _ _ a.lst n, a.new, a.out, a.rws.len, a.rws.nd, a.rws.new, fun i hi => k _ _ (a.rws.at_ i hi) fun z => n' (z ▸ List.getElem_mem hi)⟩
theorem MatAt.same {H0 H H' : Hp} {r : Addr} {rows : List Addr} {m : Nat} {g : Nat → Nat → V} (a : MatAt H0 H r m g rows) (s : Same H H') : MatAt H0 H' r m g rows :=
  ⟨s _ _ a.lst, a.new, a.out, a.rws.len, a.rws.nd, a.rws.new, fun i hi => s _ _ (a.rws.at_ i hi)⟩
/-- one entry of one row stored -/
theorem MatAt.store {H0 H : Hp} {r : Addr} {rows : List Addr} {m : Nat} {g : Nat → Nat → V} (a : MatAt H0 H r m g rows) {i b : Nat} (hi : i < rows.length) (v : V) : MatAt H0 (upd H rows[i] (.lst ((rowV m (g i)).set b v))) r m (upd2 g i b v) rows := by
  have nr : r ≠ rows[i] := fun z => a.out (z ▸ List.getElem_mem hi)
  refine ⟨by rw [upd_ne nr]; exact a.lst, a.new, a.out, a.rws.len, a.rws.nd, a.rws.new, fun j hj => ?_⟩
  by_cases e : j = i
  · subst e
    rw [upd_same, rowV_set]
    refine congrArg (fun l => some (HO.lst l)) (rowV_congr fun k hk => ?_)
    show _ = (if j = j ∧ k = b then v else g j k)
    by_cases q : k = b <;> simp [q]
  · have ne : rows[j] ≠ rows[i] := fun z => by
      rcases Nat.lt_or_gt_of_ne e with l | l
      · exact (List.pairwise_iff_getElem.mp a.rws.nd) j i hj hi l z
      · exact (List.pairwise_iff_getElem.mp a.rws.nd) i j hi hj l z.symm
    rw [upd_ne ne, a.rws.at_ j hj]
    refine congrArg (fun l => some (HO.lst l)) (rowV_congr fun k _ => ?_)
    show _ = (if j = i ∧ k = b then v else g j k)
    rw [if_neg (fun z => e z.1)]
theorem MatAt.row {H0 H : Hp} {r : Addr} {rows : List Addr} {m : Nat} {g : Nat → Nat → V} (a : MatAt H0 H r m g rows) {i : Int} (h0 : 0 ≤ i) (h1 : i < m) : ∃ x, atI (rows.map V.ref) i = some (.ref x) ∧ H x = some (.lst (rowV m (g i.toNat))) ∧ x ∈ rows ∧ ∃ hi : i.toNat < rows.length, x = rows[i.toNat] := by
  have hl : i.toNat < rows.length := by have := a.rws.len; omega
  exact ⟨rows[i.toNat], atI_of h0 (by simp [hl]), a.rws.at_ _ hl, List.getElem_mem hl, hl, rfl⟩
theorem MatAt.own {H0 H : Hp} {r : Addr} {rows : List Addr} {m : Nat} {g : Nat → Nat → V} (a : MatAt H0 H r m g rows) (s : Same H0 H) {i : Nat} (hi : i < rows.length) (o : HO) : Same H0 (upd H rows[i] o) := Same.own s (a.rws.new _ (List.getElem_mem hi)) o
/-- rows made one by one -/
theorem Rows.nil (H0 H : Hp) (g : Nat → Nat → V) : ∀ (i : Nat) (hi : i < ([] : List Addr).length), H ([] : List Addr)[i] = some (.lst (rowV 0 (g i))) := fun i hi => by simp at hi
/-! ### what the program reckons -/
def mn (i j : Int) : Int := if j < i then j else i
def g0 (far : Int) : Nat → Nat → Int := fun i j => if i = j then 0 else far
def road2 (g : Nat → Nat → Int) (e : Road) : Nat → Nat → Int := upd2 (upd2 g e.1.toNat e.2.1.toNat e.2.2) e.2.1.toNat e.1.toNat e.2.2
def strG (far : Int) (es : List Road) : Nat → Nat → Int := es.foldl road2 (g0 far)
def farOf (es : List Road) : Int := 1 + (es.map (·.2.2)).sum
def fw (g : Nat → Nat → Int) : Nat → Nat → Nat → Int
  | 0 => g
  | k + 1 => fun i j => mn (fw g k i j) (fw g k i k + fw g k k j)
def waysG (m : Nat) (es : List Road) : Nat → Nat → Int := fw (strG (farOf es) es) m
def gV (g : Nat → Nat → Int) : Nat → Nat → V := fun i j => .int (g i j)
/-- a web as it stands in the heap -/
def WebIs (H : Hp) (a : Addr) (folk : List Int) (rs : List Road) : Prop := ∃ fa ra, H a = some (.tup [.ref fa, .ref ra]) ∧ H fa = some (.lst (intsV folk)) ∧ RoadsAt H ra rs
def spStraight : Sp := fun vs H Q _ => ∃ (a : Addr) (folk : List Int) (rs : List Road), vs = [.ref a] ∧ WebIs H a folk rs ∧ folk.length ≤ 40 ∧ rs.length ≤ 100 ∧ (∀ e ∈ rs, 0 ≤ e.1 ∧ e.1 < folk.length ∧ 0 ≤ e.2.1 ∧ e.2.1 < folk.length) ∧
  ∀ (r : Addr) (rows : List Addr) (H' : Hp), Same H H' → MatAt H H' r folk.length (gV (strG (farOf rs) rs)) rows → Q (.ref r) H'
def spRowOver : Sp := fun vs H Q _ => ∃ (a b : Addr) (lead : Int) (m : Nat) (x y : Nat → Int), vs = [.ref a, .int lead, .ref b] ∧ m ≤ 40 ∧ H a = some (.lst (rowV m fun j => .int (x j))) ∧ H b = some (.lst (rowV m fun j => .int (y j))) ∧
  ∀ (r : Addr) (H' : Hp), Same H H' → H r = none → H' r = some (.lst (rowV m fun j => .int (mn (x j) (lead + y j)))) → Q (.ref r) H'
def spAllWays : Sp := fun vs H Q _ => ∃ (a : Addr) (folk : List Int) (rs : List Road), vs = [.ref a] ∧ WebIs H a folk rs ∧ folk.length ≤ 40 ∧ rs.length ≤ 100 ∧ (∀ e ∈ rs, 0 ≤ e.1 ∧ e.1 < folk.length ∧ 0 ≤ e.2.1 ∧ e.2.1 < folk.length) ∧
  ∀ (r : Addr) (rows : List Addr) (H' : Hp), Same H H' → MatAt H H' r folk.length (gV (waysG folk.length rs)) rows → Q (.ref r) H'
theorem WebIs.same {H H' : Hp} {a : Addr} {folk : List Int} {rs : List Road} (h : WebIs H a folk rs) (s : Same H H') : WebIs H' a folk rs := by
  obtain ⟨fa, ra, e1, e2, ts, e3, e4⟩ := h
  exact ⟨fa, ra, s _ _ e1, s _ _ e2, ts, s _ _ e3, Paired.mapP e4 fun t e z => s _ _ z⟩
def diagG (far : Int) (i : Nat) : Nat → Nat → Int := fun x y => if x = y ∧ x < i then 0 else far
theorem diag_zero (far : Int) (a b : Nat) : gV (fun _ _ => far) a b = gV (diagG far 0) a b := by
  unfold gV diagG; simp
theorem diag_succ (far : Int) (i a b : Nat) : upd2 (gV (diagG far i)) i i (.int 0) a b = gV (diagG far (i + 1)) a b := by
  show (if a = i ∧ b = i then V.int 0 else V.int (if a = b ∧ a < i then 0 else far)) = V.int (if a = b ∧ a < i + 1 then 0 else far)
  by_cases q : a = i ∧ b = i
  · rw [if_pos q, if_pos ⟨by omega, by omega⟩]
  · rw [if_neg q]
    by_cases q2 : a = b ∧ a < i
    · rw [if_pos q2, if_pos ⟨q2.1, by omega⟩]
    · rw [if_neg q2, if_neg (fun z => by omega)]
theorem diag_full {far : Int} {m a b : Nat} (ha : a < m) : gV (diagG far m) a b = gV (g0 far) a b := by
  show V.int (if a = b ∧ a < m then 0 else far) = V.int (if a = b then 0 else far)
  by_cases e : a = b
  · rw [if_pos ⟨e, ha⟩, if_pos e]
  · rw [if_neg (fun z => e z.1), if_neg e]
theorem road_gV (g : Nat → Nat → Int) (e : Road) (x y : Nat) : upd2 (upd2 (gV g) e.1.toNat e.2.1.toNat (.int e.2.2)) e.2.1.toNat e.1.toNat (.int e.2.2) x y = gV (road2 g e) x y := by
  show (if x = e.2.1.toNat ∧ y = e.1.toNat then V.int e.2.2 else if x = e.1.toNat ∧ y = e.2.1.toNat then V.int e.2.2 else V.int (g x y)) = V.int (if x = e.2.1.toNat ∧ y = e.1.toNat then e.2.2 else if x = e.1.toNat ∧ y = e.2.1.toNat then e.2.2 else g x y)
  split
  · rfl
  · split <;> rfl
theorem strG_snoc (far : Int) (es : List Road) (e : Road) : strG far (es ++ [e]) = road2 (strG far es) e := by unfold strG; rw [List.foldl_append]; rfl
end SS

set_option Elab.async false
set_option maxRecDepth 100000
set_option linter.all false
set_option maxHeartbeats 4000000
namespace SS
open PySem L2
/-! ### ways over one place more at a time, with none where there is no way -/
abbrev OG := Nat → Nat → Option Int
def omin : Option Int → Option Int → Option Int
  | none, b => b
  | a, none => a
  | some x, some y => some (mn x y)
def oadd : Option Int → Option Int → Option Int
  | some x, some y => some (x + y)
  | _, _ => none
def fwO (g : OG) : Nat → OG
  | 0 => g
  | k + 1 => fun i j => omin (fwO g k i j) (oadd (fwO g k i k) (fwO g k k j))
def OLe (a b : Option Int) : Prop := ∀ y, b = some y → ∃ x, a = some x ∧ x ≤ y
theorem OLe.refl (a : Option Int) : OLe a a := fun y e => ⟨y, e, Int.le_refl _⟩
theorem OLe.trans {a b c : Option Int} (h : OLe a b) (g : OLe b c) : OLe a c := fun z e => by
  obtain ⟨y, ey, l⟩ := g z e
  obtain ⟨x, ex, l'⟩ := h y ey
  exact ⟨x, ex, by omega⟩
theorem mn_le (x y : Int) : mn x y ≤ x ∧ mn x y ≤ y := by unfold mn; split <;> omega
theorem mn_or (x y : Int) : mn x y = x ∨ mn x y = y := by unfold mn; split <;> simp
theorem omin_l (a b : Option Int) : OLe (omin a b) a := by
  intro y e
  cases a with
  | none => cases e
  | some x =>
    cases e
    cases b with
    | none => exact ⟨_, rfl, Int.le_refl _⟩
    | some z => exact ⟨_, rfl, (mn_le _ _).1⟩
theorem omin_r (a b : Option Int) : OLe (omin a b) b := by
  intro y e
  cases b with
  | none => cases e
  | some z =>
    cases e
    cases a with
    | none => exact ⟨_, rfl, Int.le_refl _⟩
    | some x => exact ⟨_, rfl, (mn_le _ _).2⟩
theorem omin_or (a b : Option Int) : omin a b = a ∨ omin a b = b := by
  cases a with
  | none => exact .inr rfl
  | some x =>
    cases b with
    | none => exact .inl rfl
    | some y =>
      rcases mn_or x y with h | h
      · exact .inl (congrArg some h)
      · exact .inr (congrArg some h)
theorem oadd_mono {a b c d : Option Int} (h : OLe a c) (g : OLe b d) : OLe (oadd a b) (oadd c d) := fun y e => by
  cases c with
  | none => cases e
  | some c =>
    cases d with
    | none => cases e
    | some d =>
      cases e
      obtain ⟨x, rfl, l⟩ := h c rfl
      obtain ⟨z, rfl, l'⟩ := g d rfl
      exact ⟨_, rfl, by omega⟩
theorem oadd_assoc (a b c : Option Int) : oadd (oadd a b) c = oadd a (oadd b c) := by
  cases a <;> cases b <;> cases c <;> simp [oadd, Int.add_assoc]
structure Good (g : OG) : Prop where
  dg : ∀ i, g i i = some 0
  nn : ∀ i j v, g i j = some v → 0 ≤ v
theorem oadd_nn {a b : Option Int} (ha : ∀ v, a = some v → 0 ≤ v) (hb : ∀ v, b = some v → 0 ≤ v) : ∀ v, oadd a b = some v → 0 ≤ v := fun v e => by
  cases a with
  | none => cases e
  | some x =>
    cases b with
    | none => cases e
    | some y =>
      cases e
      have := ha x rfl
      have := hb y rfl
      omega
theorem fwO_good {g : OG} (h : Good g) : ∀ k, Good (fwO g k)
  | 0 => h
  | k + 1 => by
    have ih := fwO_good h k
    have nn : ∀ i j v, fwO g (k + 1) i j = some v → 0 ≤ v := fun i j v e => by
      rcases omin_or (fwO g k i j) (oadd (fwO g k i k) (fwO g k k j)) with q | q
      · exact ih.nn i j v (q.symm.trans e)
      · exact oadd_nn (ih.nn i k) (ih.nn k j) v (q.symm.trans e)
    refine ⟨fun i => ?_, nn⟩
    obtain ⟨x, e, l⟩ := omin_l (fwO g k i i) (oadd (fwO g k i k) (fwO g k k i)) 0 (ih.dg i)
    have := nn i i x e
    have z : x = 0 := by omega
    rw [z] at e
    exact e
/-- adding what goes back to itself is no gain -/
theorem omin_self {a b : Option Int} (hb : ∀ v, b = some v → 0 ≤ v) : omin a (oadd a b) = a := by
  cases a with
  | none => rfl
  | some x =>
    cases b with
    | none => rfl
    | some y =>
      have := hb y rfl
      show some (mn x (x + y)) = some x
      unfold mn
      rw [if_neg (by omega)]
theorem omin_self' {a b : Option Int} (hb : ∀ v, b = some v → 0 ≤ v) : omin a (oadd b a) = a := by
  have e : oadd b a = oadd a b := by cases a <;> cases b <;> simp [oadd, Int.add_comm]
  rw [e]; exact omin_self hb
theorem fwO_col {g : OG} (h : Good g) (k i : Nat) : fwO g (k + 1) i k = fwO g k i k := omin_self ((fwO_good h k).nn k k)
theorem fwO_row {g : OG} (h : Good g) (k j : Nat) : fwO g (k + 1) k j = fwO g k k j := omin_self' ((fwO_good h k).nn k k)
theorem fwO_le (g : OG) : ∀ k i j, OLe (fwO g k i j) (g i j)
  | 0, _, _ => OLe.refl _
  | k + 1, i, j => (omin_l _ _).trans (fwO_le g k i j)
theorem fwO_tri {g : OG} (h : Good g) : ∀ k l, l < k → ∀ i j, OLe (fwO g k i j) (oadd (fwO g k i l) (fwO g k l j))
  | 0, l, hl => absurd hl (Nat.not_lt_zero _)
  | k + 1, l, hl => fun i j => by
    have gd := fwO_good h k
    by_cases e : l = k
    · subst e
      rw [fwO_col h, fwO_row h]
      exact omin_r _ _
    · have ih := fwO_tri h k l (by omega)
      have step : ∀ x y, OLe (fwO g (k + 1) x y) (oadd (fwO g k x k) (fwO g k k y)) := fun x y => omin_r _ _
      have old : ∀ x y, OLe (fwO g (k + 1) x y) (fwO g k x y) := fun x y => omin_l _ _
      rcases omin_or (fwO g k i l) (oadd (fwO g k i k) (fwO g k k l)) with q | q
      · have q' : fwO g (k + 1) i l = fwO g k i l := q
        rw [q']
        rcases omin_or (fwO g k l j) (oadd (fwO g k l k) (fwO g k k j)) with p | p
        · have p' : fwO g (k + 1) l j = fwO g k l j := p
          rw [p']
          exact (old i j).trans (ih i j)
        · have p' : fwO g (k + 1) l j = oadd (fwO g k l k) (fwO g k k j) := p
          rw [p', ← oadd_assoc]
          exact (step i j).trans (oadd_mono (ih i k) (OLe.refl _))
      · have q' : fwO g (k + 1) i l = oadd (fwO g k i k) (fwO g k k l) := q
        rw [q']
        rcases omin_or (fwO g k l j) (oadd (fwO g k l k) (fwO g k k j)) with p | p
        · have p' : fwO g (k + 1) l j = fwO g k l j := p
          rw [p', oadd_assoc]
          exact (step i j).trans (oadd_mono (OLe.refl _) (ih k j))
        · have p' : fwO g (k + 1) l j = oadd (fwO g k l k) (fwO g k k j) := p
          rw [p']
          refine (step i j).trans fun y e => ?_
          cases e1 : fwO g k i k with
          | none => rw [e1] at e; cases e
          | some a =>
            cases e2 : fwO g k k l with
            | none => rw [e1, e2] at e; cases e
            | some b =>
              cases e3 : fwO g k l k with
              | none => rw [e1, e2, e3] at e; cases e
              | some c =>
                cases e4 : fwO g k k j with
                | none => rw [e1, e2, e3, e4] at e; cases e
                | some d =>
                  rw [e1, e2, e3, e4] at e
                  have b0 := gd.nn k l b e2
                  have c0 := gd.nn l k c e3
                  have ey : a + b + (c + d) = y := Option.some.inj e
                  exact ⟨a + d, rfl, by omega⟩
/-- going along what there is -/
inductive WalkO (m : Nat) (g : OG) : Nat → Nat → Int → Prop
  | edge {i j : Nat} {v : Int} : g i j = some v → WalkO m g i j v
  | cat {i k j : Nat} {a b : Int} : k < m → WalkO m g i k a → WalkO m g k j b → WalkO m g i j (a + b)
theorem fwO_sound {m : Nat} {g : OG} : ∀ k, k ≤ m → ∀ i j v, fwO g k i j = some v → WalkO m g i j v
  | 0, _, i, j, v, e => .edge e
  | k + 1, hk, i, j, v, e => by
    rcases omin_or (fwO g k i j) (oadd (fwO g k i k) (fwO g k k j)) with q | q
    · exact fwO_sound k (by omega) i j v (q.symm.trans e)
    · have e' := q.symm.trans e
      cases e1 : fwO g k i k with
      | none => rw [e1] at e'; cases e'
      | some a =>
        cases e2 : fwO g k k j with
        | none => rw [e1, e2] at e'; cases e'
        | some b =>
          rw [e1, e2] at e'
          cases e'
          exact .cat (by omega) (fwO_sound k (by omega) i k a e1) (fwO_sound k (by omega) k j b e2)
theorem fwO_complete {m : Nat} {g : OG} (h : Good g) {i j : Nat} {c : Int} (w : WalkO m g i j c) : ∃ v, fwO g m i j = some v ∧ v ≤ c := by
  induction w with
  | edge e => exact fwO_le g m _ _ _ e
  | @cat i k j a b hk _ _ ih1 ih2 =>
    obtain ⟨x, ex, lx⟩ := ih1
    obtain ⟨y, ey, ly⟩ := ih2
    obtain ⟨z, ez, lz⟩ := fwO_tri h m k hk i j (x + y) (by rw [ex, ey]; rfl)
    exact ⟨z, ez, by omega⟩
theorem WalkO.nn {m : Nat} {g : OG} (h : Good g) {i j : Nat} {c : Int} (w : WalkO m g i j c) : 0 ≤ c := by
  induction w with
  | edge e => exact h.nn _ _ _ e
  | cat _ _ _ ih1 ih2 => omega
/-! ### the program's own, with a number above all ways for none -/
theorem fw_some (g : Nat → Nat → Int) : ∀ k i j, fwO (fun x y => some (g x y)) k i j = some (fw g k i j)
  | 0, _, _ => rfl
  | k + 1, i, j => by
    show omin (fwO _ k i j) (oadd (fwO _ k i k) (fwO _ k k j)) = _
    rw [fw_some g k i j, fw_some g k i k, fw_some g k k j]
    rfl
def og0 : OG := fun i j => if i = j then some 0 else none
def oroad (g : OG) (e : Road) : OG := upd2 (upd2 g e.1.toNat e.2.1.toNat (some e.2.2)) e.2.1.toNat e.1.toNat (some e.2.2)
def ostr (es : List Road) : OG := es.foldl oroad og0
theorem ostr_snoc (es : List Road) (e : Road) : ostr (es ++ [e]) = oroad (ostr es) e := by unfold ostr; rw [List.foldl_append]; rfl
theorem str_of (far : Int) (es : List Road) : ∀ i j, strG far es i j = (ostr es i j).getD far := by
  have all : ∀ (l : List Road) (g : Nat → Nat → Int) (o : OG), (∀ i j, g i j = (o i j).getD far) → ∀ i j, l.foldl road2 g i j = (l.foldl oroad o i j).getD far := by
    intro l
    induction l with
    | nil => exact fun g o h => h
    | cons e l ih =>
      intro g o h
      refine ih _ _ fun i j => ?_
      show (if i = e.2.1.toNat ∧ j = e.1.toNat then e.2.2 else if i = e.1.toNat ∧ j = e.2.1.toNat then e.2.2 else g i j) = (if i = e.2.1.toNat ∧ j = e.1.toNat then some e.2.2 else if i = e.1.toNat ∧ j = e.2.1.toNat then some e.2.2 else o i j).getD far
      split
      · rfl
      · split
        · rfl
        · exact h i j
  refine all es _ _ fun i j => ?_
  show (if i = j then 0 else far) = (if i = j then some (0 : Int) else none).getD far
  split <;> rfl
/-- each road stands there, either way about, where two places have one road at most -/
theorem ostr_other {a b : Nat} : ∀ {es : List Road} {g : OG}, (∀ e ∈ es, ¬ (e.1.toNat = a ∧ e.2.1.toNat = b) ∧ ¬ (e.1.toNat = b ∧ e.2.1.toNat = a)) → es.foldl oroad g a b = g a b
  | [], _, _ => rfl
  | e :: es, g, h => by
    have h1 := h e List.mem_cons_self
    show es.foldl oroad (oroad g e) a b = _
    rw [ostr_other fun x hx => h x (List.mem_cons_of_mem _ hx)]
    show (if a = e.2.1.toNat ∧ b = e.1.toNat then some e.2.2 else if a = e.1.toNat ∧ b = e.2.1.toNat then some e.2.2 else g a b) = g a b
    rw [if_neg (fun z => h1.2 ⟨z.2.symm, z.1.symm⟩), if_neg (fun z => h1.1 ⟨z.1.symm, z.2.symm⟩)]
theorem ostr_road {m : Nat} {es : List Road} (ok : RoadsOk m es) {e : Road} (he : e ∈ es) : ostr es e.1.toNat e.2.1.toNat = some e.2.2 ∧ ostr es e.2.1.toNat e.1.toNat = some e.2.2 := by
  obtain ⟨l1, l2, rfl⟩ := List.append_of_mem he
  have be := ok.rng e he
  have rest : ∀ x ∈ l2, ¬ (x.1.toNat = e.1.toNat ∧ x.2.1.toNat = e.2.1.toNat) ∧ ¬ (x.1.toNat = e.2.1.toNat ∧ x.2.1.toNat = e.1.toNat) := fun x hx => by
    have bx := ok.rng x (List.mem_append_right _ (List.mem_cons_of_mem _ hx))
    have nd := ok.nd
    rw [List.map_append, List.map_cons] at nd
    have nd2 := (List.nodup_cons.mp (List.nodup_append.mp nd).2.1).1
    refine ⟨fun z => nd2 (List.mem_map.mpr ⟨x, hx, ?_⟩), fun z => by omega⟩
    have z1 : x.1 = e.1 := by omega
    have z2 : x.2.1 = e.2.1 := by omega
    rw [z1, z2]
  unfold ostr
  rw [List.foldl_append]
  constructor
  · show l2.foldl oroad (oroad (l1.foldl oroad og0) e) _ _ = _
    rw [ostr_other rest]
    show (if e.1.toNat = e.2.1.toNat ∧ e.2.1.toNat = e.1.toNat then some e.2.2 else if e.1.toNat = e.1.toNat ∧ e.2.1.toNat = e.2.1.toNat then some e.2.2 else _) = _
    rw [if_neg (by omega), if_pos ⟨rfl, rfl⟩]
  · show l2.foldl oroad (oroad (l1.foldl oroad og0) e) _ _ = _
    rw [ostr_other fun x hx => ⟨(rest x hx).2, (rest x hx).1⟩]
    show (if e.2.1.toNat = e.2.1.toNat ∧ e.1.toNat = e.1.toNat then some e.2.2 else _) = _
    rw [if_pos ⟨rfl, rfl⟩]
theorem ostr_good {m : Nat} {es : List Road} (ok : RoadsOk m es) : Good (ostr es) := by
  have all : ∀ (l : List Road) (g : OG), Good g → (∀ e ∈ l, e ∈ es) → Good (l.foldl oroad g) := by
    intro l
    induction l with
    | nil => exact fun g h _ => h
    | cons e l ih =>
      intro g h hm
      refine ih _ ?_ fun x hx => hm x (List.mem_cons_of_mem _ hx)
      have be := ok.rng e (hm e List.mem_cons_self)
      constructor
      · intro i
        show (if i = e.2.1.toNat ∧ i = e.1.toNat then some e.2.2 else if i = e.1.toNat ∧ i = e.2.1.toNat then some e.2.2 else g i i) = some 0
        rw [if_neg (by omega), if_neg (by omega)]
        exact h.dg i
      · intro i j v ev
        have ev' : (if i = e.2.1.toNat ∧ j = e.1.toNat then some e.2.2 else if i = e.1.toNat ∧ j = e.2.1.toNat then some e.2.2 else g i j) = some v := ev
        split at ev'
        · cases ev'; omega
        · split at ev'
          · cases ev'; omega
          · exact h.nn i j v ev'
  refine all es og0 ⟨fun i => if_pos rfl, fun i j v e => ?_⟩ fun _ h => h
  have e' : (if i = j then some (0 : Int) else none) = some v := e
  split at e'
  · cases e'; exact Int.le_refl _
  · cases e'
/-! ### where places hang together the way is no longer than all roads together -/
inductive Walk (rs : List Road) : Int → Int → Int → Prop
  | refl (i : Int) : Walk rs i i 0
  | fwd {i a b l c : Int} : Walk rs i a c → (a, b, l) ∈ rs → Walk rs i b (c + l)
  | bwd {i a b l c : Int} : Walk rs i b c → (a, b, l) ∈ rs → Walk rs i a (c + l)
theorem Walk.mono {rs rs' : List Road} (h : ∀ e ∈ rs, e ∈ rs') {i j c : Int} (w : Walk rs i j c) : Walk rs' i j c := by
  induction w with
  | refl => exact .refl _
  | fwd _ m ih => exact .fwd ih (h _ m)
  | bwd _ m ih => exact .bwd ih (h _ m)
theorem Walk.trans {rs : List Road} {i j k a b : Int} (w : Walk rs i j a) (v : Walk rs j k b) : Walk rs i k (a + b) := by
  induction v with
  | refl => rw [Int.add_zero]; exact w
  | fwd _ m ih => rw [← Int.add_assoc]; exact .fwd ih m
  | bwd _ m ih => rw [← Int.add_assoc]; exact .bwd ih m
theorem reach_split {e : Road} {rs : List Road} {i j : Int} (h : Reach (e :: rs) i j) : Reach rs i j ∨ (Reach rs i e.1 ∧ Reach rs e.2.1 j) ∨ (Reach rs i e.2.1 ∧ Reach rs e.1 j) := by
  induction h with
  | refl => exact .inl .refl
  | fwd _ m ih =>
    rcases List.mem_cons.mp m with z | m
    · subst z
      rcases ih with h | h | h
      · exact .inr (.inl ⟨h, .refl⟩)
      · exact .inr (.inl ⟨h.1, .refl⟩)
      · exact .inl h.1
    · rcases ih with h | h | h
      · exact .inl (.fwd h m)
      · exact .inr (.inl ⟨h.1, .fwd h.2 m⟩)
      · exact .inr (.inr ⟨h.1, .fwd h.2 m⟩)
  | bwd _ m ih =>
    rcases List.mem_cons.mp m with z | m
    · subst z
      rcases ih with h | h | h
      · exact .inr (.inr ⟨h, .refl⟩)
      · exact .inl h.1
      · exact .inr (.inr ⟨h.1, .refl⟩)
    · rcases ih with h | h | h
      · exact .inl (.bwd h m)
      · exact .inr (.inl ⟨h.1, .bwd h.2 m⟩)
      · exact .inr (.inr ⟨h.1, .bwd h.2 m⟩)
def lenS (rs : List Road) : Int := (rs.map (·.2.2)).sum
theorem lenS_cons (e : Road) (rs : List Road) : lenS (e :: rs) = e.2.2 + lenS rs := by unfold lenS; rw [List.map_cons, List.sum_cons]
theorem lenS_nn : ∀ {rs : List Road}, (∀ e ∈ rs, 0 ≤ e.2.2) → 0 ≤ lenS rs
  | [], _ => Int.le_refl _
  | e :: rs, h => by
    rw [lenS_cons]
    have := h e List.mem_cons_self
    have := lenS_nn fun x hx => h x (List.mem_cons_of_mem _ hx)
    omega
theorem lenS_filter (p : Road → Bool) : ∀ rs : List Road, lenS (rs.filter p) + lenS (rs.filter fun e => !p e) = lenS rs
  | [] => rfl
  | e :: rs => by
    have ih := lenS_filter p rs
    rw [List.filter_cons, List.filter_cons, lenS_cons]
    cases h : p e
    · simp only [Bool.not_false, if_true, Bool.false_eq_true, if_false]
      rw [lenS_cons]; omega
    · simp only [Bool.not_true, if_true, Bool.false_eq_true, if_false]
      rw [lenS_cons]; omega
open Classical in
theorem reach_walk : ∀ (n : Nat) (rs : List Road), rs.length ≤ n → (∀ e ∈ rs, 0 ≤ e.2.2) → ∀ i j, Reach rs i j → ∃ c, Walk rs i j c ∧ c ≤ lenS rs := by
  intro n
  induction n with
  | zero =>
    intro rs hl nn i j h
    have : rs = [] := List.eq_nil_of_length_eq_zero (by omega)
    subst this
    cases h with
    | refl => exact ⟨0, .refl _, Int.le_refl _⟩
    | fwd _ m => simp at m
    | bwd _ m => simp at m
  | succ n ih =>
    intro rs hl nn i j h
    cases rs with
    | nil =>
      cases h with
      | refl => exact ⟨0, .refl _, Int.le_refl _⟩
      | fwd _ m => simp at m
      | bwd _ m => simp at m
    | cons e rs =>
      have nn' : ∀ x ∈ rs, 0 ≤ x.2.2 := fun x hx => nn x (List.mem_cons_of_mem _ hx)
      have e0 := nn e List.mem_cons_self
      have up : ∀ x ∈ rs, x ∈ e :: rs := fun x hx => List.mem_cons_of_mem _ hx
      have hl' : rs.length ≤ n := by simpa using hl
      rw [lenS_cons]
      by_cases hij : Reach rs i j
      · obtain ⟨c, w, l⟩ := ih rs hl' nn' i j hij
        exact ⟨c, w.mono up, by omega⟩
      -- the road parts the two: each part has its own roads
      have part : ∀ u v : Int, Reach rs i u → Reach rs v j → ∃ c d, Walk rs i u c ∧ Walk rs v j d ∧ c + d ≤ lenS rs := fun u v hu hv => by
        let p : Road → Bool := fun x => decide (Reach rs i x.1)
        have inA : ∀ x, Reach rs i x → Reach (rs.filter p) i x := fun x hx => by
          induction hx with
          | refl => exact .refl
          | @fwd a b l hr m ihr => exact .fwd ihr (List.mem_filter.mpr ⟨m, decide_eq_true hr⟩)
          | @bwd a b l hr m ihr => exact .bwd ihr (List.mem_filter.mpr ⟨m, decide_eq_true (Reach.bwd hr m)⟩)
        have inB : ∀ x, Reach rs v x → Reach (rs.filter fun e => !p e) v x := fun x hx => by
          have no : ∀ y, Reach rs v y → ¬ Reach rs i y := fun y hy z => hij ((z.trans hy.symm).trans hv)
          induction hx with
          | refl => exact .refl
          | @fwd a b l hr m ihr => exact .fwd ihr (List.mem_filter.mpr ⟨m, by simp [p, no a hr]⟩)
          | @bwd a b l hr m ihr => exact .bwd ihr (List.mem_filter.mpr ⟨m, by simp [p, no a (Reach.bwd hr m)]⟩)
        have subA : ∀ x ∈ rs.filter p, x ∈ rs := fun x hx => (List.mem_filter.mp hx).1
        have subB : ∀ x ∈ rs.filter (fun e => !p e), x ∈ rs := fun x hx => (List.mem_filter.mp hx).1
        obtain ⟨c, wc, lc⟩ := ih (rs.filter p) (Nat.le_trans (List.length_filter_le _ _) hl') (fun x hx => nn' x (subA x hx)) i u (inA u hu)
        obtain ⟨d, wd, ld⟩ := ih (rs.filter fun e => !p e) (Nat.le_trans (List.length_filter_le _ _) hl') (fun x hx => nn' x (subB x hx)) v j (inB j hv)
        refine ⟨c, d, wc.mono subA, wd.mono subB, ?_⟩
        have := lenS_filter p rs
        omega
      rcases reach_split h with h | h | h
      · exact absurd h hij
      · obtain ⟨c, d, wc, wd, l⟩ := part e.1 e.2.1 h.1 h.2
        refine ⟨c + e.2.2 + d, Walk.trans (.fwd (a := e.1) (l := e.2.2) (wc.mono up) List.mem_cons_self) (wd.mono up), by omega⟩
      · obtain ⟨c, d, wc, wd, l⟩ := part e.2.1 e.1 h.1 h.2
        refine ⟨c + e.2.2 + d, Walk.trans (.bwd (b := e.2.1) (l := e.2.2) (wc.mono up) List.mem_cons_self) (wd.mono up), by omega⟩
/-! ### both are the same -/
theorem walk_O {m : Nat} {es : List Road} (ok : RoadsOk m es) {i j c : Int} (i0 : 0 ≤ i) (w : Walk es i j c) : WalkO m (ostr es) i.toNat j.toNat c := by
  induction w with
  | refl => exact .edge ((ostr_good ok).dg _)
  | @fwd a b l c _ m' ih =>
    have be := ok.rng _ m'
    have be : 0 ≤ a ∧ a < b ∧ b < m ∧ 1 ≤ l ∧ l ≤ 1000 := be
    have q := (ostr_road ok m').1
    exact .cat (by omega) ih (.edge q)
  | @bwd a b l c _ m' ih =>
    have be := ok.rng _ m'
    have be : 0 ≤ a ∧ a < b ∧ b < m ∧ 1 ≤ l ∧ l ≤ 1000 := be
    have q := (ostr_road ok m').2
    exact .cat (by omega) ih (.edge q)
theorem far_pos {m : Nat} {es : List Road} (ok : RoadsOk m es) : 0 < farOf es := by
  have : 0 ≤ lenS es := lenS_nn fun e he => by have := ok.rng e he; omega
  unfold lenS at this
  unfold farOf
  omega
theorem prog_good {m : Nat} {es : List Road} (ok : RoadsOk m es) : Good (fun x y => some (strG (farOf es) es x y)) := by
  have g := ostr_good ok
  refine ⟨fun i => ?_, fun i j v e => ?_⟩
  · show some (strG (farOf es) es i i) = some 0
    rw [str_of, g.dg i]; rfl
  · have e' : strG (farOf es) es i j = v := Option.some.inj e
    rw [str_of] at e'
    cases q : ostr es i j with
    | none => rw [q] at e'; have := far_pos ok; have z : farOf es = v := e'; omega
    | some u => rw [q] at e'; have := g.nn i j u q; have z : u = v := e'; omega
theorem walk_up {m : Nat} {es : List Road} {i j : Nat} {c : Int} (w : WalkO m (ostr es) i j c) : WalkO m (fun x y => some (strG (farOf es) es x y)) i j c := by
  induction w with
  | @edge i j v e => exact .edge (by show some (strG _ _ i j) = _; rw [str_of, e]; rfl)
  | cat hk _ _ ih1 ih2 => exact .cat hk ih1 ih2
theorem walk_down {m : Nat} {es : List Road} (ok : RoadsOk m es) {i j : Nat} {c : Int} (w : WalkO m (fun x y => some (strG (farOf es) es x y)) i j c) (h : c < farOf es) : WalkO m (ostr es) i j c := by
  induction w with
  | @edge i j v e =>
    have e' : strG (farOf es) es i j = v := Option.some.inj e
    rw [str_of] at e'
    cases q : ostr es i j with
    | none => rw [q] at e'; have z : farOf es = v := e'; omega
    | some u => rw [q] at e'; have z : u = v := e'; rw [z] at q; exact .edge q
  | @cat i k j a b hk w1 w2 ih1 ih2 =>
    have := w1.nn (prog_good ok)
    have := w2.nn (prog_good ok)
    exact .cat hk (ih1 (by omega)) (ih2 (by omega))
/-- what the program tells is what is told over one place more at a time -/
theorem ways_eq {m : Nat} {es : List Road} (ok : RoadsOk m es) (hg : Hang m es) {i j : Nat} (hi : i < m) (hj : j < m) : fwO (ostr es) m i j = some (waysG m es i j) := by
  have nn : ∀ e ∈ es, 0 ≤ e.2.2 := fun e he => by have := ok.rng e he; omega
  obtain ⟨c, w, lc⟩ := reach_walk es.length es (Nat.le_refl _) nn i j (hg i j (by omega) (by omega) (by omega) (by omega))
  have wO := walk_O ok (by omega) w
  simp only [Int.toNat_natCast] at wO
  obtain ⟨u, eu, lu⟩ := fwO_complete (ostr_good ok) wO
  have s1 := fwO_sound m (Nat.le_refl _) i j u eu
  obtain ⟨v, ev, lv⟩ := fwO_complete (prog_good ok) (walk_up s1)
  have hv : waysG m es i j = v := by
    have := fw_some (strG (farOf es) es) m i j
    rw [ev] at this
    exact (Option.some.inj this).symm
  have lt : v < farOf es := by unfold farOf; unfold lenS at lc; omega
  have s2 := walk_down ok (fwO_sound m (Nat.le_refl _) i j v ev) lt
  obtain ⟨u', eu', lu'⟩ := fwO_complete (ostr_good ok) s2
  rw [eu] at eu'
  cases eu'
  have : u = v := by omega
  rw [eu, hv, this]
end SS

set_option Elab.async false
set_option maxRecDepth 100000
set_option linter.all false
set_option maxHeartbeats 4000000
namespace SS
open PySem L2
/-! ### data of whole numbers, lists and tuples -/
theorem kix_seq {X : Cx} {K : PySem.W.Frag} (hK : X.K = K) : IxR X (rIx K) := by subst hK; exact ix_seq
def PD : Nat → PyData → Prop
  | 0, _ => False
  | _ + 1, .int _ => True
  | n + 1, .list ds => ds.length ≤ 1000 ∧ ∀ d ∈ ds, PD n d
  | n + 1, .tuple ds => ds.length ≤ 1000 ∧ ∀ d ∈ ds, PD n d
  | _ + 1, _ => False
theorem PD.lay : ∀ (n : Nat) (d : PyData), PD n d → d.canLay0 = true ∧ d.depth ≤ n
  | 0, _, h => h.elim
  | n + 1, .int _, _ => ⟨rfl, Nat.zero_le _⟩
  | n + 1, .none, h => h.elim
  | n + 1, .bool _, h => h.elim
  | n + 1, .str _, h => h.elim
  | n + 1, .dict _, h => h.elim
  | n + 1, .list ds, h => by
    have all : ∀ l : List PyData, (∀ d ∈ l, PD n d) → PyData.canLayAll0 l = true ∧ PyData.depthAll l ≤ n := fun l => by
      induction l with
      | nil => exact fun _ => ⟨rfl, Nat.zero_le _⟩
      | cons d l ih =>
        intro hl
        have h1 := PD.lay n d (hl d List.mem_cons_self)
        have h2 := ih fun x hx => hl x (List.mem_cons_of_mem _ hx)
        exact ⟨by show (PyData.canLay0 d && PyData.canLayAll0 l) = true; rw [h1.1, h2.1]; rfl, by show max _ _ ≤ n; omega⟩
    have := all ds h.2
    exact ⟨this.1, Nat.succ_le_succ this.2⟩
  | n + 1, .tuple ds, h => by
    have all : ∀ l : List PyData, (∀ d ∈ l, PD n d) → PyData.canLayAll0 l = true ∧ PyData.depthAll l ≤ n := fun l => by
      induction l with
      | nil => exact fun _ => ⟨rfl, Nat.zero_le _⟩
      | cons d l ih =>
        intro hl
        have h1 := PD.lay n d (hl d List.mem_cons_self)
        have h2 := ih fun x hx => hl x (List.mem_cons_of_mem _ hx)
        exact ⟨by show (PyData.canLay0 d && PyData.canLayAll0 l) = true; rw [h1.1, h2.1]; rfl, by show max _ _ ≤ n; omega⟩
    have := all ds h.2
    exact ⟨this.1, Nat.succ_le_succ this.2⟩
theorem PD.shaped {n : Nat} {d : PyData} (h : PD n d) (hn : n ≤ 64) : SeqAt.shaped d = true := by
  have := h.lay
  unfold SeqAt.shaped
  rw [this.1, Bool.true_and]
  exact decide_eq_true (by omega)
theorem PD.same {n : Nat} {d : PyData} (h : PD n d) : PyData.eqv d d = true := SeqAt.eqv_refl d h.lay.1
mutual
/-- data that stand in the heap themselves -/
inductive HD (H : Hp) : V → PyData → Prop
  | non : HD H .non .none
  | bl (b : Bool) : HD H (.bl b) (.bool b)
  | int (i : Int) : HD H (.int i) (.int i)
  | str (x : Str) : HD H (.str x) (.str x)
  | lst {a : Addr} {xs : List V} {ds : List PyData} : H a = some (.lst xs) → HDs H xs ds → HD H (.ref a) (.list ds)
  | tup {a : Addr} {xs : List V} {ds : List PyData} : H a = some (.tup xs) → HDs H xs ds → HD H (.ref a) (.tuple ds)
inductive HDs (H : Hp) : List V → List PyData → Prop
  | nil : HDs H [] []
  | cons {v : V} {vs : List V} {d : PyData} {ds : List PyData} : HD H v d → HDs H vs ds → HDs H (v :: vs) (d :: ds)
end
mutual
theorem HD.same {H H' : Hp} (e : Same H H') : ∀ (d : PyData) (v : V), HD H v d → HD H' v d
  | .none, _, h => by cases h; exact .non
  | .bool _, _, h => by cases h; exact .bl _
  | .int _, _, h => by cases h; exact .int _
  | .str _, _, h => by cases h; exact .str _
  | .list ds, _, h => by
    cases h with
    | lst hs ha => exact .lst (e _ _ hs) (HDs.same e ds _ ha)
  | .tuple ds, _, h => by
    cases h with
    | tup hs ha => exact .tup (e _ _ hs) (HDs.same e ds _ ha)
  | .dict _, _, h => by cases h
theorem HDs.same {H H' : Hp} (e : Same H H') : ∀ (ds : List PyData) (vs : List V), HDs H vs ds → HDs H' vs ds
  | [], _, h => by cases h; exact .nil
  | d :: ds, _, h => by
    cases h with
    | cons h1 h2 => exact .cons (HD.same e d _ h1) (HDs.same e ds _ h2)
end
mutual
theorem HD.dp {K : PySem.W.Frag} {H : Hp} : ∀ (d : PyData) (v : V), HD H v d → Dp K H v d
  | .none, _, h => by cases h; exact .non
  | .bool _, _, h => by cases h; exact .bl _
  | .int _, _, h => by cases h; exact .int _
  | .str _, _, h => by cases h; exact .str _
  | .list ds, _, h => by
    cases h with
    | lst hs ha => exact .lst (SqL.of hs) (HDs.dp ds _ ha)
  | .tuple ds, _, h => by
    cases h with
    | tup hs ha => exact .tup (SqT.of hs) (HDs.dp ds _ ha)
  | .dict _, _, h => by cases h
theorem HDs.dp {K : PySem.W.Frag} {H : Hp} : ∀ (ds : List PyData) (vs : List V), HDs H vs ds → DpAll K H vs ds
  | [], _, h => by cases h; exact .nil
  | d :: ds, _, h => by
    cases h with
    | cons h1 h2 => exact .cons (HD.dp d _ h1) (HDs.dp ds _ h2)
end
theorem HDs.length {H : Hp} : ∀ {vs : List V} {ds : List PyData}, HDs H vs ds → vs.length = ds.length
  | _, _, .nil => rfl
  | _, _, .cons _ t => by rw [List.length_cons, List.length_cons, HDs.length t]
theorem HDs.get {H : Hp} : ∀ {vs : List V} {ds : List PyData}, HDs H vs ds → ∀ (i : Nat) (hi : i < ds.length), ∃ v, vs[i]? = some v ∧ HD H v ds[i]
  | _, _, .nil, i, hi => by simp at hi
  | _, _, .cons h _, 0, _ => ⟨_, rfl, h⟩
  | _, _, .cons _ t, i + 1, hi => by
    obtain ⟨v, e, h⟩ := HDs.get t i (by simpa using hi)
    exact ⟨v, by simpa using e, by simpa using h⟩
theorem HDs.of_ints {H : Hp} : ∀ ns : List Int, HDs H (intsV ns) (ns.map PyData.int)
  | [] => .nil
  | n :: ns => .cons (.int n) (HDs.of_ints ns)
theorem HDs.paired {H : Hp} {α : Type} {G : Addr → α → Prop} (D : α → PyData) (h : ∀ t e, G t e → HD H (.ref t) (D e)) : ∀ {ts : List Addr} {es : List α}, Paired G ts es → HDs H (ts.map V.ref) (es.map D)
  | _, _, .nil => .nil
  | _, _, .cons r t => .cons (h _ _ r) (HDs.paired D h t)
/-- the two are the same data -/
def spSame (n : Nat) : Sp := fun vs H Q _ => ∃ (x y : V) (d : PyData), vs = [x, y] ∧ HD H x d ∧ HD H y d ∧ PD n d ∧ ∀ H', Same H H' → Q (.bl true) H'
theorem tys_of {ns : List String} : ∀ {its : List Value}, Vals (ns.map V.ty) its → its = ns.map Value.type := by
  induction ns with
  | nil => intro its h; cases h; rfl
  | cons n ns ih =>
    intro its h
    cases h with
    | cons h1 h2 => cases h1; rw [ih h2]; rfl
def roadD (e : Road) : PyData := .tuple [.int e.1, .int e.2.1, .int e.2.2]
theorem HD.ints {H : Hp} {a : Addr} {ns : List Int} (h : H a = some (.lst (intsV ns))) : HD H (.ref a) (.list (ns.map PyData.int)) := .lst h (HDs.of_ints ns)
theorem HD.road {H : Hp} {t : Addr} {e : Road} (z : H t = some (tupR e)) : HD H (.ref t) (roadD e) := .tup z (.cons (.int _) (.cons (.int _) (.cons (.int _) .nil)))
theorem HD.roads {H : Hp} {a : Addr} {rs : List Road} (h : RoadsAt H a rs) : HD H (.ref a) (.list (rs.map roadD)) := by
  obtain ⟨ts, e, p⟩ := h
  exact .lst e (HDs.paired roadD (fun t e z => HD.road z) p)
def webD (folk : List Int) (rs : List Road) : PyData := .tuple [.list (folk.map PyData.int), .list (rs.map roadD)]
theorem HD.web {H : Hp} {a : Addr} {folk : List Int} {rs : List Road} (h : WebIs H a folk rs) : HD H (.ref a) (webD folk rs) := by
  obtain ⟨fa, ra, e1, e2, e3⟩ := h
  exact .tup e1 (.cons (HD.ints e2) (.cons (HD.roads e3) .nil))
theorem PD.ints {ns : List Int} (h : ns.length ≤ 1000) (n : Nat) : PD (n + 2) (.list (ns.map PyData.int)) := by
  refine ⟨by rw [List.length_map]; exact h, fun d hd => ?_⟩
  obtain ⟨x, _, rfl⟩ := List.mem_map.mp hd
  exact trivial
theorem PD.road (e : Road) (n : Nat) : PD (n + 2) (roadD e) := by
  refine ⟨by show 3 ≤ 1000; decide, fun d hd => ?_⟩
  simp only [List.mem_cons, List.not_mem_nil, or_false] at hd
  rcases hd with rfl | rfl | rfl <;> exact trivial
theorem PD.web {folk : List Int} {rs : List Road} (h : folk.length ≤ 1000) (g : rs.length ≤ 1000) (n : Nat) : PD (n + 4) (webD folk rs) := by
  refine ⟨by show 2 ≤ 1000; decide, fun d hd => ?_⟩
  simp only [List.mem_cons, List.not_mem_nil, or_false] at hd
  rcases hd with rfl | rfl
  · exact PD.ints h (n + 1)
  · refine ⟨by rw [List.length_map]; exact g, fun d hd => ?_⟩
    obtain ⟨x, _, rfl⟩ := List.mem_map.mp hd
    exact PD.road x n
theorem HDs.row {H : Hp} (r : Nat → Int) : ∀ l : List Nat, HDs H (l.map fun j => V.int (r j)) (l.map fun j => PyData.int (r j))
  | [] => .nil
  | _ :: l => .cons (.int _) (HDs.row r l)
end SS

set_option Elab.async false
set_option maxRecDepth 100000
set_option linter.all false
set_option maxHeartbeats 4000000
namespace SS
open PySem L2
def spLaw (K : PySem.W.Frag) : Sp := fun vs H Q _ => ∃ (a : Addr) (ns : List Int), vs = [.ref a] ∧ SqL K H a (ns.map V.int) ∧ ns.length ≤ 63 ∧ ∀ H', Q (.bl true) H'
theorem cut_ints (ns : List Int) (lo hi : Option Int) : ∃ ns' : List Int, cutV (ns.map V.int) lo hi = intsV ns' ∧ ns'.length ≤ ns.length := by
  unfold cutV
  refine ⟨(ns.drop (HT.sIx (ns.map V.int).length 0 lo)).take (HT.sIx (ns.map V.int).length (ns.map V.int).length hi - HT.sIx (ns.map V.int).length 0 lo), ?_, ?_⟩
  · rw [← List.map_drop, ← List.map_take]
  · rw [List.length_take, List.length_drop]; omega
theorem Keep.fresh {h : Addr} {H0 H1 H2 : Hp} (k : Keep h H1 H2) (s : Same H0 H1) (f : H0 h = none) : Same H0 H2 := fun b o e => k b o (s b o e) (ne_of_none e f)
theorem eqT {A B : Prop} {d : PyData} {n : Nat} (h : PD n d) (b : B) : if (!PyData.eqv d d) = true then A else B := by
  rw [h.same]
  exact iteF b
/-- up to so many places, sorted roads that hang together -/
structure WebOk (m : Nat) (rs : List Road) : Prop where
  ok : RoadsOk m rs
  len : rs.length ≤ 30
  hang : Hang m rs
  srt : rs.Pairwise fun x y => HT.lexLt [y.1, y.2.1, y.2.2] [x.1, x.2.1, x.2.2] = false
def FolkOk (m : Nat) (folk : List Int) : Prop := folk.length = m ∧ ∀ n ∈ folk, 0 ≤ n ∧ n ≤ 1000
theorem RoadsAt.same {H H' : Hp} {r : Addr} {rs : List Road} (a : RoadsAt H r rs) (s : Same H H') : RoadsAt H' r rs := by
  obtain ⟨ts, e, p⟩ := a
  exact ⟨ts, s _ _ e, Paired.mapP p fun t e z => s _ _ z⟩
end SS

set_option Elab.async false
set_option maxRecDepth 100000
set_option linter.all false
set_option maxHeartbeats 4000000
namespace SS
open PySem L2
end SS

set_option Elab.async false
set_option maxRecDepth 100000
set_option linter.all false
set_option maxHeartbeats 4000000
namespace SS
open PySem L2
/-! ### lists of lists of whole numbers -/
structure LL (H0 H : Hp) (r : Addr) (n : Nat) (l : Nat → List Int) (rows : List Addr) : Prop where
  lst : H r = some (.lst (rows.map V.ref))
  new : H0 r = none
  out : r ∉ rows
  len : rows.length = n
  nd : rows.Nodup
  nwr : ∀ a ∈ rows, H0 a = none
  at_ : ∀ (i : Nat) (hi : i < rows.length), H rows[i] = some (.lst (intsV (l i)))
theorem rowV_ints (m : Nat) (r : Nat → Int) : (rowV m fun j => .int (r j)) = intsV ((List.range m).map r) := by unfold rowV intsV; rw [List.map_map]; rfl
theorem MatAt.ll {H0 H : Hp} {r : Addr} {m : Nat} {g : Nat → Nat → Int} {rows : List Addr} (M : MatAt H0 H r m (gV g) rows) : LL H0 H r m (fun i => (List.range m).map (g i)) rows :=
  ⟨M.lst, M.new, M.out, M.rws.len, M.rws.nd, M.rws.new, fun i hi => by rw [M.rws.at_ i hi]; exact congrArg (fun l => some (HO.lst l)) (rowV_ints m (g i))⟩
theorem LL.same {H0 H H' : Hp} {r : Addr} {n : Nat} {l : Nat → List Int} {rows : List Addr} (a : LL H0 H r n l rows) (s : Same H H') : LL H0 H' r n l rows := ⟨s _ _ a.lst, a.new, a.out, a.len, a.nd, a.nwr, fun i hi => s _ _ (a.at_ i hi)⟩
theorem LL.congr {H0 H : Hp} {r : Addr} {n : Nat} {l l' : Nat → List Int} {rows : List Addr} (a : LL H0 H r n l rows) (e : ∀ i, i < n → l i = l' i) : LL H0 H r n l' rows := ⟨a.lst, a.new, a.out, a.len, a.nd, a.nwr, fun i hi => by rw [a.at_ i hi, e i (by have := a.len; omega)]⟩
def llD (n : Nat) (l : Nat → List Int) : PyData := .list ((List.range n).map fun i => .list ((l i).map PyData.int))
theorem HD.ll {H0 H : Hp} {r : Addr} {n : Nat} {l : Nat → List Int} {rows : List Addr} (a : LL H0 H r n l rows) : HD H (.ref r) (llD n l) := by
  refine .lst a.lst ?_
  have gen : ∀ (rs : List Addr) (k : Nat), (∀ (i : Nat) (hi : i < rs.length), H rs[i] = some (.lst (intsV (l (k + i))))) → HDs H (rs.map V.ref) ((List.range' k rs.length).map fun i => .list ((l i).map PyData.int)) := by
    intro rs
    induction rs with
    | nil => exact fun _ _ => .nil
    | cons x rs ih =>
      intro k h
      rw [List.length_cons, List.range'_succ, List.map_cons, List.map_cons]
      refine .cons (HD.ints (h 0 (by simp))) (ih (k + 1) fun i hi => ?_)
      have := h (i + 1) (by simpa using hi)
      rw [show k + 1 + i = k + (i + 1) by omega]
      simpa using this
  have := gen rows 0 fun i hi => by rw [Nat.zero_add]; exact a.at_ i hi
  rw [a.len, ← List.range_eq_range'] at this
  exact this
theorem PD.ll {n : Nat} {l : Nat → List Int} (hn : n ≤ 1000) (h : ∀ i, i < n → (l i).length ≤ 1000) (k : Nat) : PD (k + 3) (llD n l) := by
  refine ⟨by simp; exact hn, fun d hd => ?_⟩
  obtain ⟨i, hi, rfl⟩ := List.mem_map.mp hd
  exact PD.ints (h i (List.mem_range.mp hi)) k
theorem LL.item {H0 H : Hp} {r : Addr} {n : Nat} {l : Nat → List Int} {rows : List Addr} (a : LL H0 H r n l rows) {i : Nat} (h : i < n) : ∃ x, atI (rows.map V.ref) (0 + (i : Int)) = some (.ref x) ∧ H x = some (.lst (intsV (l i))) ∧ ∃ hi : i < rows.length, x = rows[i] := by
  have hl : i < rows.length := by have := a.len; omega
  exact ⟨rows[i], by rw [Int.zero_add]; exact atI_nat (by simp [hl]), a.at_ _ hl, hl, rfl⟩
/-! ### the nearest sellers -/
def isNear (d : Int → Int) (st : List Int) (k : Nat) : Bool := st.all fun s => decide (d (st.getD k 0) ≤ d s)
def nearTo (d : Int → Int) (st : List Int) (n : Nat) : List Int := ((List.range n).filter (isNear d st)).map fun k : Nat => (k : Int)
def near (d : Int → Int) (st : List Int) : List Int := nearTo d st st.length
def StOk (m : Nat) (st : List Int) : Prop := 1 ≤ st.length ∧ st.length ≤ 5 ∧ ∀ s ∈ st, 0 ≤ s ∧ s < m
theorem ints_get {ns : List Int} {i : Nat} {x : V} (h : (intsV ns)[i]? = some x) : ∃ hi : i < ns.length, x = .int ns[i] := by
  rw [List.getElem?_map] at h
  obtain ⟨n, hn, rfl⟩ := Option.map_eq_some_iff.mp h
  obtain ⟨hi, e⟩ := List.getElem?_eq_some_iff.mp hn
  exact ⟨hi, by rw [e]⟩
end SS

set_option Elab.async false
set_option maxRecDepth 100000
set_option linter.all false
set_option maxHeartbeats 4000000
namespace SS
open PySem L2
/-! ### reaches -/
end SS

set_option Elab.async false
set_option maxRecDepth 100000
set_option linter.all false
set_option maxHeartbeats 4000000
namespace SS
open PySem L2
/-! ### shares -/
end SS

set_option Elab.async false
set_option maxRecDepth 100000
set_option linter.all false
set_option maxHeartbeats 4000000
namespace SS
open PySem L2
/-! ### greater draws -/
theorem Def.imp {P : Program} {w : World} {K : PySem.W.Frag} {mg : Str → Option Value} {base : Heap} {k : Nat} {x : Str} {ps : List Str} {sp sp' : Sp} (D : Def P w K mg base k x ps sp) (h : ∀ vs H Q E, sp' vs H Q E → sp vs H Q E) : Def P w K mg base k x ps sp' := by
  obtain ⟨f, fd, G, m, kp, b⟩ := D.ex
  exact ⟨f, fd, G.imp h, m, kp, b⟩
/-! ### the refusals' classes -/
/-! ### two promises of one def -/
theorem FnOk.or {P : Program} {w : World} {K : PySem.W.Frag} {mg : Str → Option Value} {base : Heap} {CX : CXT} {k : Nat} {f : Addr} {fd : FuncData} {ps : List Str} {sp sp' : Sp} (F : FnOk P w K mg base CX k f fd ps sp) (G : FnOk P w K mg base CX k f fd ps sp') :
    FnOk P w K mg base CX k f fd ps (fun vs H Q E => sp vs H Q E ∨ sp' vs H Q E) :=
  ⟨fun vs H Q E h => h.elim (F.len vs H Q E) (G.len vs H Q E), fun A outer s H args us vs Q E hr e0 hb hv hs => hs.elim (F.run A outer s H args us vs Q E hr e0 hb hv) (G.run A outer s H args us vs Q E hr e0 hb hv)⟩
end SS

set_option Elab.async false
set_option maxRecDepth 100000
set_option linter.all false
set_option maxHeartbeats 4000000
namespace SS
open PySem L2 PyProof.Rows
/-! ### webs that are made -/
/-- the places hang together -/
def HangP (m : Nat) (rs : List Road) : Prop := ∀ p : Nat → Int, (∀ e ∈ rs, p e.1.toNat = p e.2.1.toNat) → ∀ x y, x < m → y < m → p x = p y
def rise (e : Road) : Road := (if e.2.1 < e.1 then e.2.1 else e.1, if e.2.1 > e.1 then e.2.1 else e.1, e.2.2)
def Srt (rs : List Road) : Prop := rs.Pairwise fun x y => HT.lexLt [y.1, y.2.1, y.2.2] [x.1, x.2.1, x.2.2] = false
theorem HangP.perm {m : Nat} {rs es : List Road} (h : HangP m es) (p : rs.Perm es) : HangP m rs := fun f hf => h f fun e he => hf e (p.mem_iff.mpr he)
end SS

set_option Elab.async false
set_option maxRecDepth 100000
set_option linter.all false
set_option maxHeartbeats 4000000
/-! x in a list of data (tuples of whole numbers and the like) -/
namespace L2
open PySem PySem.Spec PyProof.Rows
section
variable {X : Cx} {K : PySem.W.Frag}
end
end L2

set_option Elab.async false
set_option maxRecDepth 100000
set_option linter.all false
set_option maxHeartbeats 4000000
namespace SS
open PySem L2
/-! ### a hand of draws, of any form -/
def HdAt (G : List V → Prop) (H : Hp) (h : Addr) : Prop := ∃ xs, H h = some (.lst xs) ∧ G xs
section
variable {G : List V → Prop} {H H' H1 : Hp} {h p b : Addr}
theorem HdAt.upd (hh : HdAt G H h) (o : HO) (n : p ≠ h) : HdAt G (L2.upd H p o) h := by
  obtain ⟨x, e, k⟩ := hh
  exact ⟨x, by rw [upd_ne n.symm]; exact e, k⟩
theorem HdAt.new (hh : HdAt G H h) (hp : H p = none) (o : HO) : HdAt G (L2.upd H p o) h := by
  obtain ⟨x, e, k⟩ := hh
  exact ⟨x, by rw [upd_ne (ne_of_none e hp)]; exact e, k⟩
theorem HdAt.set {xs : List V} (k : G xs) : HdAt G (L2.upd H h (.lst xs)) h := ⟨xs, upd_same, k⟩
theorem HdAt.ne (hh : HdAt G H h) (hp : H p = none) : p ≠ h := by
  obtain ⟨x, e, _⟩ := hh
  exact (ne_of_none e hp).symm
theorem HdAt.keep (hh : HdAt G H h) (k : Keep b H H') (n : h ≠ b) : HdAt G H' h := by
  obtain ⟨x, e, o⟩ := hh
  exact ⟨x, k _ _ e n, o⟩
theorem HdAt.same (hh : HdAt G H h) (s : Same H H') : HdAt G H' h := by
  obtain ⟨x, e, o⟩ := hh
  exact ⟨x, s _ _ e, o⟩
theorem HdAt.lst (hh : HdAt G H h) : ∃ xs, H h = some (.lst xs) := by
  obtain ⟨x, e, o⟩ := hh
  exact ⟨x, e⟩
theorem Keep.freeG (a : Keep h H H1) (hh : HdAt G H1 h) (hp : H1 p = none) : H p = none := by
  cases e : H p with
  | none => rfl
  | some o =>
    by_cases q : p = h
    · subst q
      obtain ⟨x, z, _⟩ := hh
      rw [z] at hp; cases hp
    · rw [a p o e q] at hp; cases hp
/-- a tuple is no hand -/
theorem HdAt.neT {xs : List V} (hh : HdAt G H h) (e : H p = some (.tup xs)) : p ≠ h := by
  obtain ⟨x, z, _⟩ := hh
  exact ne_of e z (fun z => nomatch z)
end
def spTakeG (G : List V → Prop) : Sp := fun vs H Q _ => ∃ (h : Addr) (m : Int), vs = [.ref h, .int m] ∧ HdAt G H h ∧ 0 < m ∧ m < 2 ^ 100 ∧
  ∀ (r : Int) (xs : List V), 0 ≤ r → r < m → G xs → Q (.int r) (upd H h (.lst xs))
def rgI (m : Nat) : List Int := (List.range m).map fun i : Nat => (i : Int)
theorem rgI_len (m : Nat) : (rgI m).length = m := by simp [rgI]
theorem rngV_rgI (m : Nat) : rngV 0 m = intsV (rgI m) := by
  unfold rngV intsV rgI
  rw [List.map_map]
  refine List.map_congr_left fun i _ => ?_
  show V.int (0 + (i : Int)) = V.int (i : Int)
  rw [Int.zero_add]
theorem perm_rng {m : Nat} {order : List Int} (pm : order.Perm (rgI m)) : order.length = m ∧ (∀ x ∈ order, 0 ≤ x ∧ x < m) ∧ order.Nodup ∧ ∀ x : Int, 0 ≤ x → x < m → x ∈ order := by
  refine ⟨by rw [pm.length_eq, rgI_len], fun x hx => ?_, pm.nodup_iff.mpr ?_, fun x x0 x1 => pm.mem_iff.mpr (List.mem_map.mpr ⟨x.toNat, List.mem_range.mpr (by omega), by omega⟩)⟩
  · obtain ⟨j, hj, e⟩ := List.mem_map.mp (pm.mem_iff.mp hx)
    have := List.mem_range.mp hj
    omega
  · refine List.Pairwise.map _ (fun a b (hab : a ≠ b) => ?_) List.nodup_range
    omega
theorem nodup_ne {xs : List Int} (nd : xs.Nodup) {i j : Nat} (hi : i < xs.length) (hj : j < xs.length) (h : i ≠ j) : xs[i] ≠ xs[j] := fun z => by
  rcases Nat.lt_or_gt_of_ne h with l | l
  · exact (List.pairwise_iff_getElem.mp nd) i j hi hj l z
  · exact (List.pairwise_iff_getElem.mp nd) j i hj hi l z.symm
/-! ### a list of tuples -/
def TsAt {α : Type} (T : α → List V) (H : Hp) (r : Addr) (ts : List Addr) (es : List α) : Prop := H r = some (.lst (ts.map V.ref)) ∧ Paired (fun t e => H t = some (.tup (T e))) ts es
section
variable {α : Type} {T : α → List V} {H H' : Hp} {r h : Addr} {ts : List Addr} {es : List α}
theorem TsAt.same (a : TsAt T H r ts es) (s : Same H H') : TsAt T H' r ts es := ⟨s _ _ a.1, Paired.mapP a.2 fun t e z => s _ _ z⟩
theorem TsAt.keep {G : List V → Prop} (a : TsAt T H r ts es) (k : Keep h H H') (hh : HdAt G H h) (n : r ≠ h) : TsAt T H' r ts es := ⟨k _ _ a.1 n, Paired.mapP a.2 fun t e z => k _ _ z (hh.neT z)⟩
theorem TsAt.hand (a : TsAt T H r ts es) {xs ys : List V} (hh : H h = some (.lst xs)) (n : r ≠ h) : TsAt T (upd H h (.lst ys)) r ts es := ⟨by rw [upd_ne n]; exact a.1, Paired.mapP a.2 fun t e z => by rw [upd_ne (ne_of z hh (fun z => nomatch z))]; exact z⟩
theorem TsAt.push (a : TsAt T H r ts es) {t : Addr} {e : α} (et : H t = some (.tup (T e))) : TsAt T (upd H r (.lst (ts.map V.ref ++ [.ref t]))) r (ts ++ [t]) (es ++ [e]) :=
  ⟨by rw [upd_same, List.map_append]; rfl, Paired.snoc (Paired.mapP a.2 fun t e z => by rw [upd_ne (ne_of z a.1 (fun z => nomatch z))]; exact z) (by rw [upd_ne (ne_of et a.1 (fun z => nomatch z))]; exact et)⟩
theorem TsAt.nil : TsAt T (upd H r (.lst [])) r [] ([] : List α) := ⟨upd_same, .nil⟩
theorem TsAt.len (a : TsAt T H r ts es) : ts.length = es.length := Paired.length a.2
end
/-! ### pairs of places -/
abbrev Pr := Int × Int
abbrev prT (e : Pr) : List V := [.int e.1, .int e.2]
def tupP (e : Pr) : HO := .tup [.int e.1, .int e.2]
def PairsAt (H : Hp) (r : Addr) (ps : List Pr) : Prop := ∃ ts : List Addr, H r = some (.lst (ts.map V.ref)) ∧ Paired (fun t e => H t = some (tupP e)) ts ps
structure PairsOk (m : Nat) (ps : List Pr) : Prop where
  rng : ∀ e ∈ ps, 0 ≤ e.1 ∧ e.1 < e.2 ∧ e.2 < m
  nd : ps.Nodup
def pairD (e : Pr) : PyData := .tuple [.int e.1, .int e.2]
theorem HD.pair {H : Hp} {t : Addr} {e : Pr} (z : H t = some (tupP e)) : HD H (.ref t) (pairD e) := .tup z (.cons (.int _) (.cons (.int _) .nil))
theorem HD.pairs {H : Hp} {a : Addr} {ps : List Pr} (h : PairsAt H a ps) : HD H (.ref a) (.list (ps.map pairD)) := by
  obtain ⟨ts, e, p⟩ := h
  exact .lst e (HDs.paired pairD (fun t e z => HD.pair z) p)
theorem PD.pairs {ps : List Pr} (h : ps.length ≤ 1000) : PD 3 (.list (ps.map pairD)) := by
  refine ⟨by rw [List.length_map]; exact h, fun d hd => ?_⟩
  obtain ⟨x, _, rfl⟩ := List.mem_map.mp hd
  refine ⟨by show 2 ≤ 1000; decide, fun d hd => ?_⟩
  simp only [List.mem_cons, List.not_mem_nil, or_false] at hd
  rcases hd with rfl | rfl <;> exact trivial
theorem PD.pair (e : Pr) : PD 2 (pairD e) := by
  refine ⟨by show 2 ≤ 1000; decide, fun d hd => ?_⟩
  simp only [List.mem_cons, List.not_mem_nil, or_false] at hd
  rcases hd with rfl | rfl <;> exact trivial
theorem PairsOk.snoc {m : Nat} {ps : List Pr} (ok : PairsOk m ps) {e : Pr} (h : 0 ≤ e.1 ∧ e.1 < e.2 ∧ e.2 < m) (n : e ∉ ps) : PairsOk m (ps ++ [e]) := by
  refine ⟨fun x hx => ?_, List.nodup_append.mpr ⟨ok.nd, by simp, fun x hx y hy z => ?_⟩⟩
  · rcases List.mem_append.mp hx with hx | hx
    · exact ok.rng x hx
    · have : x = e := List.mem_singleton.mp hx
      subst this; exact h
  · have : y = e := List.mem_singleton.mp hy
    subst this; subst z; exact n hx
/-- one place after the other is hung on -/
def HungTo (ps : List Pr) (i : Nat) : Prop := ∀ j : Nat, j ≤ i → Reach (ps.map fun e => (e.1, e.2, 1)) 0 (j : Int)
theorem HungTo.mono {ps ps' : List Pr} {i : Nat} (h : HungTo ps i) (s : ∀ e ∈ ps, e ∈ ps') : HungTo ps' i := fun j hj => (h j hj).mono fun a b l m => by
  obtain ⟨e, he, z⟩ := List.mem_map.mp m
  cases z
  exact ⟨1, List.mem_map.mpr ⟨e, s e he, rfl⟩⟩
theorem HungTo.snoc {ps : List Pr} {i : Nat} (h : HungTo ps i) {a : Int} (a0 : 0 ≤ a) (a1 : a ≤ i) : HungTo (ps ++ [(a, ((i + 1 : Nat) : Int))]) (i + 1) := fun j hj => by
  by_cases c : j ≤ i
  · exact h.mono (fun e he => List.mem_append_left _ he) j c
  · have : j = i + 1 := by omega
    subst this
    have r := h.mono (ps' := ps ++ [(a, ((i + 1 : Nat) : Int))]) (fun e he => List.mem_append_left _ he) a.toNat (by omega)
    have e : ((a.toNat : Nat) : Int) = a := by omega
    rw [e] at r
    exact .fwd r (List.mem_map.mpr ⟨(a, ((i + 1 : Nat) : Int)), by simp, rfl⟩)
end SS

set_option Elab.async false
set_option maxRecDepth 100000
set_option linter.all false
set_option maxHeartbeats 4000000
namespace SS
open PySem L2
/-! ### shares by any table of ways, and what a move gains -/
/-- a good web at a -/
structure GWeb (H : Hp) (a : Addr) (folk : List Int) (rs : List Road) : Prop where
  web : WebIs H a folk rs
  l40 : folk.length ≤ 40
  r100 : rs.length ≤ 100
  rng : ∀ e ∈ rs, 0 ≤ e.1 ∧ e.1 < folk.length ∧ 0 ≤ e.2.1 ∧ e.2.1 < folk.length
  fok : ∀ n ∈ folk, 0 ≤ n ∧ n ≤ 1000
theorem GWeb.same {H H' : Hp} {a : Addr} {folk : List Int} {rs : List Road} (g : GWeb H a folk rs) (s : Same H H') : GWeb H' a folk rs := ⟨g.web.same s, g.l40, g.r100, g.rng, g.fok⟩
def IsMax (l : List Int) (M : Int) : Prop := M ∈ l ∧ ∀ y ∈ l, y ≤ M
theorem IsMax.uniq {l : List Int} {M N : Int} (a : IsMax l M) (b : IsMax l N) : M = N := by
  have := a.2 N b.1
  have := b.2 M a.1
  omega
theorem StOk.set {m : Nat} {st : List Int} (h : StOk m st) {k : Nat} {p : Int} (p0 : 0 ≤ p) (p1 : p < m) : StOk m (st.set k p) := by
  refine ⟨by rw [List.length_set]; exact h.1, by rw [List.length_set]; exact h.2.1, fun s hs => ?_⟩
  rcases List.mem_or_eq_of_mem_set hs with z | z
  · exact h.2.2 s z
  · rw [z]; exact ⟨p0, p1⟩
end SS

set_option Elab.async false
set_option maxRecDepth 100000
set_option linter.all false
set_option maxHeartbeats 4000000
namespace SS
open PySem L2
/-! ### the way is the least walk -/
theorem ostr_inv {m : Nat} {es : List Road} (ok : RoadsOk m es) {i j : Nat} {v : Int} (h : ostr es i j = some v) : (i = j ∧ v = 0) ∨ ((i : Int), (j : Int), v) ∈ es ∨ ((j : Int), (i : Int), v) ∈ es := by
  have all : ∀ (l : List Road) (g : OG), (∀ i j v, g i j = some v → (i = j ∧ v = 0) ∨ ((i : Int), (j : Int), v) ∈ es ∨ ((j : Int), (i : Int), v) ∈ es) → (∀ e ∈ l, e ∈ es) → ∀ i j v, l.foldl oroad g i j = some v → (i = j ∧ v = 0) ∨ ((i : Int), (j : Int), v) ∈ es ∨ ((j : Int), (i : Int), v) ∈ es := by
    intro l
    induction l with
    | nil => exact fun g h _ => h
    | cons e l ih =>
      intro g h hm
      refine ih _ (fun i j v ev => ?_) fun x hx => hm x (List.mem_cons_of_mem _ hx)
      have he := hm e List.mem_cons_self
      have be := ok.rng e he
      obtain ⟨a, b, le⟩ := e
      have be : 0 ≤ a ∧ a < b ∧ b < m ∧ 1 ≤ le ∧ le ≤ 1000 := be
      have ev' : (if i = b.toNat ∧ j = a.toNat then some le else if i = a.toNat ∧ j = b.toNat then some le else g i j) = some v := ev
      split at ev'
      · rename_i c
        cases ev'
        have e1 : (i : Int) = b := by omega
        have e2 : (j : Int) = a := by omega
        rw [e1, e2]; exact .inr (.inr he)
      · split at ev'
        · rename_i c
          cases ev'
          have e1 : (i : Int) = a := by omega
          have e2 : (j : Int) = b := by omega
          rw [e1, e2]; exact .inr (.inl he)
        · exact h i j v ev'
  refine all es og0 (fun i j v e => ?_) (fun _ h => h) i j v h
  have e' : (if i = j then some (0 : Int) else none) = some v := e
  split at e'
  · cases e'; exact .inl ⟨by assumption, rfl⟩
  · cases e'
theorem walkO_W {m : Nat} {es : List Road} (ok : RoadsOk m es) {i j : Nat} {c : Int} (w : WalkO m (ostr es) i j c) : Walk es i j c := by
  induction w with
  | @edge i j v e =>
    rcases ostr_inv ok e with ⟨rfl, rfl⟩ | h | h
    · exact .refl _
    · have := Walk.fwd (.refl _) h; rw [Int.zero_add] at this; exact this
    · have := Walk.bwd (.refl _) h; rw [Int.zero_add] at this; exact this
  | cat _ _ _ ih1 ih2 => exact ih1.trans ih2
section
variable {m : Nat} {es : List Road}
theorem ways_walk (ok : RoadsOk m es) (hg : Hang m es) {i j : Nat} (hi : i < m) (hj : j < m) : Walk es i j (waysG m es i j) := walkO_W ok (fwO_sound m (Nat.le_refl _) i j _ (ways_eq ok hg hi hj))
theorem ways_le (ok : RoadsOk m es) (hg : Hang m es) {i j : Nat} {c : Int} (hi : i < m) (hj : j < m) (w : Walk es i j c) : waysG m es i j ≤ c := by
  have wO := walk_O ok (by omega) w
  simp only [Int.toNat_natCast] at wO
  obtain ⟨v, ev, lv⟩ := fwO_complete (ostr_good ok) wO
  rw [ways_eq ok hg hi hj] at ev
  cases ev
  exact lv
theorem Walk.nn (ok : RoadsOk m es) {i j c : Int} (w : Walk es i j c) : 0 ≤ c := by
  induction w with
  | refl => exact Int.le_refl _
  | fwd _ h ih => have := (ok.rng _ h).2.2.2.1; simp only at this; omega
  | bwd _ h ih => have := (ok.rng _ h).2.2.2.1; simp only at this; omega
theorem ways_nn (ok : RoadsOk m es) (hg : Hang m es) {i j : Nat} (hi : i < m) (hj : j < m) : 0 ≤ waysG m es i j := (ways_walk ok hg hi hj).nn ok
theorem Walk.rev {i j c : Int} (w : Walk es i j c) : Walk es j i c := by
  induction w with
  | refl => exact .refl _
  | fwd _ h ih => rw [Int.add_comm]; exact Walk.trans (by have := Walk.bwd (.refl _) h; rw [Int.zero_add] at this; exact this) ih
  | bwd _ h ih => rw [Int.add_comm]; exact Walk.trans (by have := Walk.fwd (.refl _) h; rw [Int.zero_add] at this; exact this) ih
theorem ways_symm (ok : RoadsOk m es) (hg : Hang m es) {i j : Nat} (hi : i < m) (hj : j < m) : waysG m es i j = waysG m es j i := by
  have := ways_le ok hg hi hj (ways_walk ok hg hj hi).rev
  have := ways_le ok hg hj hi (ways_walk ok hg hi hj).rev
  omega
theorem ways_tri (ok : RoadsOk m es) (hg : Hang m es) {i j k : Nat} (hi : i < m) (hj : j < m) (hk : k < m) : waysG m es i j ≤ waysG m es i k + waysG m es k j := ways_le ok hg hi hj ((ways_walk ok hg hi hk).trans (ways_walk ok hg hk hj))
theorem ways_road (ok : RoadsOk m es) (hg : Hang m es) {i : Nat} (hi : i < m) {e : Road} (he : e ∈ es) : waysG m es i e.2.1.toNat ≤ waysG m es i e.1.toNat + e.2.2 ∧ waysG m es i e.1.toNat ≤ waysG m es i e.2.1.toNat + e.2.2 := by
  have be := ok.rng e he
  obtain ⟨a, b, l⟩ := e
  have be : 0 ≤ a ∧ a < b ∧ b < m ∧ 1 ≤ l ∧ l ≤ 1000 := be
  have ea : ((a.toNat : Nat) : Int) = a := by omega
  have eb : ((b.toNat : Nat) : Int) = b := by omega
  refine ⟨ways_le ok hg hi (by show b.toNat < m; omega) ?_, ways_le ok hg hi (by show a.toNat < m; omega) ?_⟩
  · show Walk es i ((b.toNat : Nat) : Int) _
    rw [eb]
    refine .fwd ?_ he
    have := ways_walk ok hg hi (show a.toNat < m by omega)
    rw [ea] at this; exact this
  · show Walk es i ((a.toNat : Nat) : Int) _
    rw [ea]
    refine .bwd ?_ he
    have := ways_walk ok hg hi (show b.toNat < m by omega)
    rw [eb] at this; exact this
end
/-! ### the law's own: each road again and again -/
def start (i : Nat) : Nat → Int := fun j => if i = j then 0 else 1000000000
/-- a step that goes over a road both ways -/
structure Relax (R : (Nat → Int) → Road → Nat → Int) : Prop where
  le : ∀ r e x, R r e x ≤ r x
  fwd : ∀ r e, R r e e.2.1.toNat ≤ r e.1.toNat + e.2.2
  bwd : ∀ r e, R r e e.1.toNat ≤ r e.2.1.toNat + e.2.2
  snd : ∀ (m : Nat) (D r : Nat → Int) (e : Road), e.1.toNat < m → e.2.1.toNat < m → D e.2.1.toNat ≤ D e.1.toNat + e.2.2 → D e.1.toNat ≤ D e.2.1.toNat + e.2.2 → (∀ x, x < m → D x ≤ r x) → ∀ x, x < m → D x ≤ R r e x
section
variable {R : (Nat → Int) → Road → Nat → Int} (hR : Relax R)
include hR
end
/-! ### the law's own shares -/
end SS

set_option Elab.async false
set_option maxRecDepth 100000
set_option linter.all false
set_option maxHeartbeats 4000000
namespace SS
open PySem L2
/-! ### data with texts, truths and None among them -/
def PX : Nat → PyData → Prop
  | 0, _ => False
  | _ + 1, .int _ => True
  | _ + 1, .str _ => True
  | _ + 1, .none => True
  | _ + 1, .bool _ => True
  | n + 1, .list ds => ds.length ≤ 1000 ∧ ∀ d ∈ ds, PX n d
  | n + 1, .tuple ds => ds.length ≤ 1000 ∧ ∀ d ∈ ds, PX n d
  | _ + 1, .dict _ => False
theorem PD.px : ∀ (n : Nat) (d : PyData), PD n d → PX n d
  | 0, _, h => h.elim
  | n + 1, .int _, _ => trivial
  | n + 1, .none, h => h.elim
  | n + 1, .bool _, h => h.elim
  | n + 1, .str _, h => h.elim
  | n + 1, .dict _, h => h.elim
  | n + 1, .list ds, h => ⟨h.1, fun d hd => PD.px n d (h.2 d hd)⟩
  | n + 1, .tuple ds, h => ⟨h.1, fun d hd => PD.px n d (h.2 d hd)⟩
end SS
namespace SS
open PySem L2
theorem RoadsAt.updL {H : Hp} {r p : Addr} {rs : List Road} {xs : List V} (a : RoadsAt H r rs) (hp : H p = some (.lst xs)) (n : r ≠ p) (o : HO) : RoadsAt (upd H p o) r rs := by
  obtain ⟨ts, e, pr⟩ := a
  exact ⟨ts, by rw [upd_ne n]; exact e, Paired.mapP pr fun t e z => by rw [upd_ne (ne_of z hp (fun z => nomatch z))]; exact z⟩
/-- a web and a standing handed on in lists of their own -/
structure Handed (H0 H : Hp) (hd h1 l1 l2 l3 : Addr) (folk : List Int) (rs : List Road) (st : List Int) : Prop where
  eh : H hd = some (.lst [.ref h1, .ref l3])
  e1 : H h1 = some (.tup [.ref l1, .ref l2])
  ef : H l1 = some (.lst (intsV folk))
  er : RoadsAt H l2 rs
  es : H l3 = some (.lst (intsV st))
  nh : H0 hd = none
  n1 : H0 l1 = none
  n2 : H0 l2 = none
  n3 : H0 l3 = none
  d1 : l1 ≠ hd
  d2 : l1 ≠ l2
  d3 : l1 ≠ l3
  d4 : l3 ≠ hd
  d5 : l3 ≠ l2
theorem Handed.same {H0 H H' : Hp} {hd h1 l1 l2 l3 : Addr} {folk : List Int} {rs : List Road} {st : List Int} (h : Handed H0 H hd h1 l1 l2 l3 folk rs st) (s : Same H H') : Handed H0 H' hd h1 l1 l2 l3 folk rs st :=
  ⟨s _ _ h.eh, s _ _ h.e1, s _ _ h.ef, h.er.same s, s _ _ h.es, h.nh, h.n1, h.n2, h.n3, h.d1, h.d2, h.d3, h.d4, h.d5⟩
theorem Handed.web {H0 H : Hp} {hd h1 l1 l2 l3 : Addr} {folk : List Int} {rs : List Road} {st : List Int} (h : Handed H0 H hd h1 l1 l2 l3 folk rs st) : WebIs H h1 folk rs := ⟨l1, l2, h.e1, h.ef, h.er⟩
theorem Handed.st' {H0 H : Hp} {hd h1 l1 l2 l3 : Addr} {folk : List Int} {rs : List Road} {st : List Int} (h : Handed H0 H hd h1 l1 l2 l3 folk rs st) (so : List Int) : Handed H0 (upd H l3 (.lst (intsV so))) hd h1 l1 l2 l3 folk rs so :=
  ⟨by rw [upd_ne h.d4.symm]; exact h.eh, by rw [upd_ne (ne_of h.e1 h.es (fun z => nomatch z))]; exact h.e1, by rw [upd_ne h.d3]; exact h.ef, h.er.updL h.es h.d5.symm _, upd_same, h.nh, h.n1, h.n2, h.n3, h.d1, h.d2, h.d3, h.d4, h.d5⟩
def handD (folk : List Int) (rs : List Road) (st : List Int) : PyData := .list [webD folk rs, .list (st.map PyData.int)]
theorem HD.handed {H : Hp} {p a b : Addr} {folk : List Int} {rs : List Road} {st : List Int} (e : H p = some (.lst [.ref a, .ref b])) (w : WebIs H a folk rs) (s : H b = some (.lst (intsV st))) : HD H (.ref p) (handD folk rs st) := .lst e (.cons (HD.web w) (.cons (HD.ints s) .nil))
theorem PD.handed {folk : List Int} {rs : List Road} {st : List Int} (h : folk.length ≤ 1000) (g : rs.length ≤ 1000) (k : st.length ≤ 1000) : PD 5 (handD folk rs st) := ⟨by show 2 ≤ 1000; decide, fun d hd => by
  simp only [List.mem_cons, List.not_mem_nil, or_false] at hd
  rcases hd with rfl | rfl
  · exact PD.web h g 0
  · exact PD.ints k 2⟩
/-- what the law's checks are asked with: a drawn web and standing -/
structure Drawn (H : Hp) (wa sa : Addr) (folk : List Int) (rs : List Road) (st : List Int) : Prop where
  web : WebIs H wa folk rs
  es : H sa = some (.lst (intsV st))
  m1 : 1 ≤ folk.length
  m2 : folk.length ≤ 12
  fok : ∀ n ∈ folk, 0 ≤ n ∧ n ≤ 1000
  wok : WebOk folk.length rs
  so : StOk folk.length st
theorem Drawn.same {H H' : Hp} {wa sa : Addr} {folk : List Int} {rs : List Road} {st : List Int} (d : Drawn H wa sa folk rs st) (s : Same H H') : Drawn H' wa sa folk rs st := ⟨d.web.same s, s _ _ d.es, d.m1, d.m2, d.fok, d.wok, d.so⟩
theorem WebOk.rng {m : Nat} {rs : List Road} (w : WebOk m rs) : ∀ e ∈ rs, 0 ≤ e.1 ∧ e.1 < m ∧ 0 ≤ e.2.1 ∧ e.2.1 < m := fun e he => by have := w.ok.rng e he; omega
theorem GWeb.of {H : Hp} {a : Addr} {folk : List Int} {rs : List Road} (w : WebIs H a folk rs) (m2 : folk.length ≤ 12) (fok : ∀ n ∈ folk, 0 ≤ n ∧ n ≤ 1000) (wok : WebOk folk.length rs) : GWeb H a folk rs := ⟨w, by omega, by have := wok.len; omega, wok.rng, fok⟩
end SS

set_option Elab.async false
set_option maxRecDepth 100000
set_option linter.all false
set_option maxHeartbeats 4000000
/-! try: a name = f(..) -/
namespace L2
open PySem PySem.Spec PyProof.Rows
abbrev TB2 := St → Hp → (St → Hp → Prop) → (Value → Hp → Prop) → Prop
section
variable {X : Cx} {body suite : List Stmt} {b0 : Stmt} {tb : TB2} {ts : TS} {x n : Str} {T : Addr} {i : Nat} {np hpos pos : Pos}
end
end L2
namespace SS
open PySem L2
section
variable {X : Cx} {k : Nat} {x : Str} {ps : List Str} {sp : Sp} {e : Expr} {es : List Expr} {p pos : Pos} {t : TA}
end
end SS

set_option Elab.async false
set_option maxRecDepth 100000
set_option linter.all false
set_option maxHeartbeats 4000000
namespace L2
open PySem PySem.Spec PyProof.Rows
section
variable {X : Cx}
end
theorem set_seq {t rest : TS} {D : Ends} {r : VK} {bk ct : St → Hp → Prop} {i : Nat} {x : V} {σ : St} {H : Hp} (h : tSeq t rest D (σ.set i (some x)) H) : gName i x σ H (Ends.mk (tSeq t rest D) r bk ct).nx := h
theorem set_then {i : Nat} {x : V} {σ : St} {H : Hp} {k : St → Hp → Prop} (h : k (σ.set i (some x)) H) : gName i x σ H k := h
end L2

set_option Elab.async false
set_option maxRecDepth 100000
set_option linter.all false
set_option maxHeartbeats 4000000
namespace L2
open PySem PySem.Spec PyProof.Rows
/-! ### zip(tuple, tuple) -/
section
variable {P : Program} {w : World} {A : Around} {E : Value → Shared → Prop} {s : Shared}
end
/-! the zip of two tuples, made -/
end L2

set_option Elab.async false
set_option maxRecDepth 100000
set_option linter.all false
set_option maxHeartbeats 4000000
namespace L2
open PySem PySem.Spec PyProof.Rows
end L2

set_option Elab.async false
set_option maxRecDepth 100000
set_option linter.all false
set_option maxHeartbeats 4000000
namespace SS
open PySem L2
/-! ### webs by other names -/
end SS

set_option Elab.async false
set_option maxRecDepth 100000
set_option linter.all false
set_option maxHeartbeats 4000000
namespace L2
open PySem PySem.Spec PyProof.Rows
/-! ### [*xs, ..], (*xs, ..): a starred list or tuple amid items -/
section
variable {X : Cx} {K : PySem.W.Frag} {e : Expr} {es : List Expr} {te : TE} {t : TA} {p : Pos}
end
end L2

set_option Elab.async false
set_option maxRecDepth 100000
set_option linter.all false
set_option maxHeartbeats 4000000
namespace SS
open PySem L2
/-! ### two webs joined by a road -/
def spCheckPlace : Sp := fun vs H Q _ => ∃ (a fa ra : Addr) (folk : List V) (p : Int), vs = [.ref a, .int p] ∧ H a = some (.tup [.ref fa, .ref ra]) ∧ H fa = some (.lst folk) ∧ 0 ≤ p ∧ p < folk.length ∧ Q .non H
end SS

set_option Elab.async false
set_option maxRecDepth 100000
set_option linter.all false
set_option maxHeartbeats 4000000
namespace SS
open PySem L2
/-! ### the greatest of a list, and its first place -/
def maxI : List Int → Int
  | [] => 0
  | [x] => x
  | x :: y :: l => if maxI (y :: l) < x then x else maxI (y :: l)
theorem maxI_is : ∀ l : List Int, 0 < l.length → IsMax l (maxI l)
  | [], h => by simp at h
  | [x], _ => ⟨by simp [maxI], fun y hy => by simp at hy; subst hy; exact Int.le_refl _⟩
  | x :: y :: l, _ => by
    have ih := maxI_is (y :: l) (by simp)
    unfold maxI
    split
    · rename_i c
      refine ⟨List.mem_cons_self, fun z hz => ?_⟩
      rcases List.mem_cons.mp hz with e | hz
      · omega
      · have := ih.2 z hz; omega
    · rename_i c
      refine ⟨List.mem_cons_of_mem _ ih.1, fun z hz => ?_⟩
      rcases List.mem_cons.mp hz with e | hz
      · omega
      · exact ih.2 z hz
theorem IsMax.eq {l : List Int} {M : Int} (h : IsMax l M) : M = maxI l := h.uniq (maxI_is l (List.length_pos_of_mem h.1))
/-! ### steps -/
/-! ### lists of lists as they are handed in -/
def LsAt (H : Hp) (p : Addr) (L : List (List Int)) : Prop := ∃ rows : List Addr, H p = some (.lst (rows.map V.ref)) ∧ Paired (fun r l => H r = some (.lst (intsV l))) rows L
theorem LsAt.same {H H' : Hp} {p : Addr} {L : List (List Int)} (h : LsAt H p L) (s : Same H H') : LsAt H' p L := by
  obtain ⟨rows, e, pr⟩ := h
  exact ⟨rows, s _ _ e, Paired.mapP pr fun t e z => s _ _ z⟩
def lsD (L : List (List Int)) : PyData := .list (L.map fun l => .list (l.map PyData.int))
theorem HD.ls {H : Hp} {p : Addr} {L : List (List Int)} (h : LsAt H p L) : HD H (.ref p) (lsD L) := by
  obtain ⟨rows, e, pr⟩ := h
  exact .lst e (HDs.paired (fun l : List Int => .list (l.map PyData.int)) (fun t e z => HD.ints z) pr)
theorem PD.ls {L : List (List Int)} (h : L.length ≤ 1000) (g : ∀ l ∈ L, l.length ≤ 1000) (n : Nat) : PD (n + 3) (lsD L) := by
  refine ⟨by rw [List.length_map]; exact h, fun d hd => ?_⟩
  obtain ⟨l, hl, rfl⟩ := List.mem_map.mp hd
  exact PD.ints (g l hl) n
theorem eqvAll_ints : ∀ a b : List Int, PyData.eqvAll (a.map PyData.int) (b.map PyData.int) = decide (a = b)
  | [], [] => rfl
  | [], _ :: _ => rfl
  | _ :: _, [] => rfl
  | x :: a, y :: b => by
    show (PyData.eqv (.int x) (.int y) && PyData.eqvAll (a.map PyData.int) (b.map PyData.int)) = _
    rw [eqvAll_ints a b]
    by_cases c : x = y
    · subst c
      have : PyData.eqv (.int x) (.int x) = true := by simp [PyData.eqv]
      rw [this, Bool.true_and]
      by_cases d : a = b <;> simp [d]
    · have : PyData.eqv (.int x) (.int y) = false := by simp [PyData.eqv, c]
      rw [this, Bool.false_and, decide_eq_false (fun z => c (List.cons.inj z).1)]
theorem eqv_ints (a b : List Int) : PyData.eqv (.list (a.map PyData.int)) (.list (b.map PyData.int)) = decide (a = b) := eqvAll_ints a b
theorem LL.ls {H0 H : Hp} {r : Addr} {n : Nat} {l : Nat → List Int} {rows : List Addr} (a : LL H0 H r n l rows) : LsAt H r ((List.range n).map l) := by
  refine ⟨rows, a.lst, ?_⟩
  have gen : ∀ (rs : List Addr) (k : Nat), (∀ (i : Nat) (hi : i < rs.length), H rs[i] = some (.lst (intsV (l (k + i))))) → Paired (fun r l => H r = some (.lst (intsV l))) rs ((List.range' k rs.length).map l) := by
    intro rs
    induction rs with
    | nil => exact fun _ _ => .nil
    | cons x rs ih =>
      intro k h
      rw [List.length_cons, List.range'_succ, List.map_cons]
      refine .cons (h 0 (by simp)) (ih (k + 1) fun i hi => ?_)
      have := h (i + 1) (by simpa using hi)
      rw [show k + 1 + i = k + (i + 1) by omega]
      simpa using this
  have := gen rows 0 fun i hi => by rw [Nat.zero_add]; exact a.at_ i hi
  rw [a.len, ← List.range_eq_range'] at this
  exact this
theorem paired_at {α β : Type} {G : α → β → Prop} : ∀ {l₁ : List α} {l₂ : List β}, Paired G l₁ l₂ → ∀ (i : Nat) (h : i < l₁.length) (h' : i < l₂.length), G l₁[i] l₂[i]
  | _, _, .nil, i, h, _ => by simp at h
  | _, _, .cons r _, 0, _, _ => r
  | _, _, .cons _ t, i + 1, h, h' => by simpa using paired_at t i (by simpa using h) (by simpa using h')
end SS

set_option Elab.async false
set_option maxRecDepth 100000
set_option linter.all false
set_option maxHeartbeats 4000000
namespace SS
open PySem L2
/-! ### six kinds of refusals told apart -/
end SS
namespace SS
open PySem L2
end SS

set_option Elab.async false
set_option maxRecDepth 100000
set_option linter.all false
set_option maxHeartbeats 4000000
namespace SS
open PySem L2
end SS

set_option Elab.async false
set_option maxRecDepth 100000
set_option linter.all false
set_option maxHeartbeats 4000000
namespace L2
open PySem PySem.Spec PyProof.Rows
/-! ### a def that is called within an except suite -/
structure FnOkH (P : Program) (w : World) (K : PySem.W.Frag) (mg : Str → Option Value) (base : Heap) (k : Nat) (f : Addr) (fd : FuncData) (ps : List Str) (sp : Sp) : Prop where
  len : ∀ vs H Q E, sp vs H Q E → vs.length = ps.length
  run : ∀ (A : Around) (ex : Addr) (outer : List Env) (s : Shared) (H : Hp) (args : Args) (us : List Value) (vs : List V) (Q : VK) (E : XK), Room k A → Env0 P w K mg base A outer s H → BindsTo s fd args (ps.zip us) → Vals vs us → sp vs H Q E →
    codeAny (model P w) (A.mark (some (.ref ex))) (.call (.ref f) args) (CR CX0 outer P w H s Q E) s
theorem Env0.mark {P : Program} {w : World} {K : PySem.W.Frag} {mg : Str → Option Value} {base : Heap} {A : Around} {outer : List Env} {s : Shared} {H : Hp} {ex : Addr} (h : Env0 P w K mg base (A.mark (some (.ref ex))) outer s H) : Env0 P w K mg base A outer s H :=
  ⟨h.frames, h.mod, h.bs, h.bsz, h.funs, h.frf, h.hok, h.bare⟩
/-- a def of the text that keeps a promise within an except suite -/
structure DefH (P : Program) (w : World) (K : PySem.W.Frag) (mg : Str → Option Value) (base : Heap) (k : Nat) (x : Str) (ps : List Str) (sp : Sp) : Prop where
  ex : ∃ f fd, FnOkH P w K mg base k f fd ps sp ∧ mg x = some (.ref f) ∧ PySem.W.keepIn K (.ref f) = true ∧ Binds K fd ps []
theorem DefH.of {P : Program} {w : World} {K : PySem.W.Frag} {mg : Str → Option Value} {base : Heap} {k : Nat} {x q : Str} {st : Stmt} {ps : List Str} {sp : Sp} {f : Addr} {fd : FuncData} (F : Fun K x q st f fd) (b : Binds K fd ps []) (m : mg x = some (.ref f)) (G : FnOkH P w K mg base k f fd ps sp) :
    DefH P w K mg base k x ps sp := ⟨f, fd, G, m, F.kp, b⟩
end L2

set_option Elab.async false
set_option maxRecDepth 100000
set_option linter.all false
set_option maxHeartbeats 4000000
namespace L2
open PySem PySem.Spec PyProof.Rows
/-! ### xs[::-1], t[::1], t[::-1] -/
section
variable {prog : Program} {w : World} {A : Around} {E : Value → Shared → Prop} {s : Shared}
end
end L2

set_option Elab.async false
set_option maxRecDepth 100000
set_option linter.all false
set_option maxHeartbeats 4000000
namespace L2
end L2
namespace SS
open PySem L2
/-! ### a road put -/
end SS

set_option Elab.async false
set_option maxRecDepth 100000
set_option linter.all false
set_option maxHeartbeats 4000000
namespace L2
open PySem PySem.Spec PyProof.Rows
theorem DGet.tf {H : Hp} {a b : Addr} {o : Obj} {kvs : List (List Key × V)} {k : List Key} (e : H a = some (.frz o (.dT kvs))) (eb : H b = some (.tup (k.map kV))) : DGet H a (.ref b) (valV kvs k) := .inr ⟨kvs, k, b, .inr ⟨o, e⟩, rfl, eb, rfl⟩
end L2

set_option Elab.async false
set_option maxRecDepth 100000
set_option linter.all false
set_option maxHeartbeats 4000000
namespace SS
open PySem L2
def spCopyS : Sp := fun vs H Q _ => ∃ (a : Addr) (folk : List Int) (rs : List Road), vs = [.ref a] ∧ WebIs H a folk rs ∧
  ∀ (r l1 l2 : Addr) (H' : Hp), Same H H' → H r = none → H l1 = none → H l2 = none → l1 ≠ l2 → H' r = some (.tup [.ref l1, .ref l2]) → H' l1 = some (.lst (intsV folk)) → RoadsAt H' l2 rs → Q (.ref r) H'
end SS

set_option Elab.async false
set_option maxRecDepth 100000
set_option linter.all false
set_option maxHeartbeats 4000000
namespace SS
open PySem L2
/-! ### ways by any far number, row by row in their places -/
/-! ### the table of two sellers -/
end SS

set_option Elab.async false
set_option maxRecDepth 100000
set_option linter.all false
set_option maxHeartbeats 4000000
namespace SS
open PySem L2
/-! ### the least, the greatest -/
/-! ### the first one below -/
end SS

set_option Elab.async false
set_option maxRecDepth 100000
set_option linter.all false
set_option maxHeartbeats 4000000
namespace SS
open PySem L2
/-! ### mixtures -/
end SS

set_option Elab.async false
set_option maxRecDepth 100000
set_option linter.all false
set_option maxHeartbeats 4000000
namespace SS
open PySem L2
/-! ### two sellers: the table, and who rests -/
end SS

set_option Elab.async false
set_option maxRecDepth 100000
set_option linter.all false
set_option maxHeartbeats 4000000
namespace L2
open PySem
theorem seq_mid {t rest : TS} {D : Ends} {σ : St} {H : Hp} (Pv : St → Hp → Prop) (k : ∀ σ' H', Pv σ' H' → rest D σ' H') (h : (∀ σ' H', Pv σ' H' → rest D σ' H') → tSeq t rest D σ H) : tSeq t rest D σ H := h k
end L2
namespace SS
open PySem L2
/-! ### moves by what would be had -/
theorem LsAt.row {H : Hp} {p : Addr} {L : List (List Int)} {rows : List Addr} (pr : Paired (fun r l => H r = some (.lst (intsV l))) rows L) {i : Nat} {t : Addr} {l : List Int} (h : rows[i]? = some t) (g : L[i]? = some l) : H t = some (.lst (intsV l)) := by
  obtain ⟨hi, rfl⟩ := List.getElem?_eq_some_iff.mp h
  obtain ⟨hj, rfl⟩ := List.getElem?_eq_some_iff.mp g
  exact paired_at pr i hi hj
/-- what a move is told as, or None -/
def MvAt (H : Hp) (mv : V) (o : Option (Nat × Nat × Int)) : Prop := (o = none ∧ mv = .non) ∨ ∃ k p g t, o = some (k, p, g) ∧ mv = .ref t ∧ H t = some (.tup [.str "moves", .int (k : Nat), .int (p : Nat), .int g])
theorem MvAt.same {H H' : Hp} {mv : V} {o : Option (Nat × Nat × Int)} (h : MvAt H mv o) (s : Same H H') : MvAt H' mv o := by
  rcases h with h | ⟨k, p, g, t, a, b, c⟩
  · exact .inl h
  · exact .inr ⟨k, p, g, t, a, b, s _ _ c⟩
def mvD (k p : Nat) (g : Int) : PyData := .tuple [.str "moves", .int k, .int p, .int g]
theorem HD.mv {H : Hp} {t : Addr} {k p : Nat} {g : Int} (h : H t = some (.tup [.str "moves", .int (k : Nat), .int (p : Nat), .int g])) : HD H (.ref t) (mvD k p g) := .tup h (.cons (.str _) (.cons (.int _) (.cons (.int _) (.cons (.int _) .nil))))
theorem PX.mv (k p : Nat) (g : Int) : PX 5 (mvD k p g) := ⟨by show 4 ≤ 1000; decide, fun d hd => by
  simp only [List.mem_cons, List.not_mem_nil, or_false] at hd
  rcases hd with rfl | rfl | rfl | rfl <;> exact trivial⟩
def restD (L : List (List Int)) : PyData := .tuple [.str "rests", lsD L]
theorem PX.rest {L : List (List Int)} (h : L.length ≤ 1000) (g : ∀ l ∈ L, l.length ≤ 1000) : PX 5 (restD L) := ⟨by show 2 ≤ 1000; decide, fun d hd => by
  simp only [List.mem_cons, List.not_mem_nil, or_false] at hd
  rcases hd with rfl | rfl
  · exact trivial
  · exact (PD.ls h g 1).px⟩
end SS

set_option Elab.async false
set_option maxRecDepth 100000
set_option linter.all false
set_option maxHeartbeats 4000000
namespace SS
open PySem L2
/-! ### papers, bent -/
theorem Paired.take {α β : Type} {G : α → β → Prop} : ∀ {a : List α} {b : List β}, Paired G a b → ∀ n, Paired G (a.take n) (b.take n)
  | _, _, .nil, n => by rw [List.take_nil, List.take_nil]; exact .nil
  | _, _, .cons r t, 0 => .nil
  | _, _, .cons r t, n + 1 => .cons r (Paired.take t n)
theorem Paired.drop {α β : Type} {G : α → β → Prop} : ∀ {a : List α} {b : List β}, Paired G a b → ∀ n, Paired G (a.drop n) (b.drop n)
  | _, _, .nil, n => by rw [List.drop_nil, List.drop_nil]; exact .nil
  | _, _, .cons r t, 0 => .cons r t
  | _, _, .cons r t, n + 1 => Paired.drop t n
theorem Paired.append {α β : Type} {G : α → β → Prop} : ∀ {a : List α} {b : List β}, Paired G a b → ∀ {c : List α} {d : List β}, Paired G c d → Paired G (a ++ c) (b ++ d)
  | _, _, .nil, _, _, h => h
  | _, _, .cons r t, _, _, h => .cons r (Paired.append t h)
theorem Paired.set {α β : Type} {G : α → β → Prop} : ∀ {a : List α} {b : List β}, Paired G a b → ∀ (n : Nat) {x : α} {y : β}, G x y → Paired G (a.set n x) (b.set n y)
  | _, _, .nil, n, _, _, _ => .nil
  | _, _, .cons r t, 0, _, _, h => .cons h t
  | _, _, .cons r t, n + 1, _, _, h => .cons r (Paired.set t n h)
/-- a list of lists that none of which is the hand -/
def LsK (h : Addr) (H : Hp) (p : Addr) (L : List (List Int)) : Prop := ∃ rows : List Addr, H p = some (.lst (rows.map V.ref)) ∧ p ≠ h ∧ Paired (fun r l => H r = some (.lst (intsV l)) ∧ r ≠ h) rows L
theorem LsK.keep {h : Addr} {H H' : Hp} {p : Addr} {L : List (List Int)} (a : LsK h H p L) (k : Keep h H H') : LsK h H' p L := by
  obtain ⟨rows, e, n, pr⟩ := a
  exact ⟨rows, k _ _ e n, n, Paired.mapP pr fun t e z => ⟨k _ _ z.1 z.2, z.2⟩⟩
theorem LsK.same {h : Addr} {H H' : Hp} {p : Addr} {L : List (List Int)} (a : LsK h H p L) (k : Same H H') : LsK h H' p L := by
  obtain ⟨rows, e, n, pr⟩ := a
  exact ⟨rows, k _ _ e, n, Paired.mapP pr fun t e z => ⟨k _ _ z.1, z.2⟩⟩
theorem LsK.ls {h : Addr} {H : Hp} {p : Addr} {L : List (List Int)} (a : LsK h H p L) : LsAt H p L := by
  obtain ⟨rows, e, n, pr⟩ := a
  exact ⟨rows, e, Paired.mapP pr fun t e z => z.1⟩
def LsB (L : List (List Int)) (a b : Nat) : Prop := L.length ≤ a ∧ ∀ l ∈ L, l.length ≤ b
theorem LsB.bent {L : List (List Int)} {a b n m : Nat} {M : List (List Int)} (h : LsB L a b) (hm : ∀ l ∈ M, l.length ≤ b + 1) (hl : n + M.length ≤ a + 1 - (L.length - m) ∨ n + M.length + (L.length - m) ≤ a + 1) : LsB (L.take n ++ M ++ L.drop m) (a + 1) (b + 1) := by
  obtain ⟨h1, h2⟩ := h
  refine ⟨?_, fun l hl => ?_⟩
  · rw [List.length_append, List.length_append, List.length_take, List.length_drop]; omega
  · rcases List.mem_append.mp hl with hl | hl
    · rcases List.mem_append.mp hl with hl | hl
      · have := h2 l (List.mem_of_mem_take hl); omega
      · exact hm l hl
    · have := h2 l (List.mem_of_mem_drop hl); omega
end SS

set_option Elab.async false
set_option maxRecDepth 100000
set_option linter.all false
set_option maxHeartbeats 4000000
namespace SS
open PySem L2
/-! ### moves done one by one -/
def SmallP (mv : List Pr) : Prop := ∀ e ∈ mv, e.1.natAbs < 2 ^ 100 ∧ e.2.natAbs < 2 ^ 100
end SS
namespace SS
open PySem L2
end SS
namespace SS
open PySem L2
end SS
namespace SS
open PySem L2
theorem SmallP.take {mv : List Pr} (h : SmallP mv) (k : Nat) : SmallP (mv.take k) := fun e he => h e (List.mem_of_mem_take he)
theorem SmallP.drop {mv : List Pr} (h : SmallP mv) (k : Nat) : SmallP (mv.drop k) := fun e he => h e (List.mem_of_mem_drop he)
theorem SmallP.one {e : Pr} (h : e.1.natAbs < 2 ^ 100) (g : e.2.natAbs < 2 ^ 100) : SmallP [e] := fun x hx => by rw [List.mem_singleton.mp hx]; exact ⟨h, g⟩
/-- a list of moves, each a pair of small numbers -/
def MvOk (H : Hp) (a : Addr) : Prop := ∃ ts mv, TsAt prT H a ts mv ∧ SmallP mv ∧ mv.length ≤ 400
theorem MvOk.same {H H' : Hp} {a : Addr} (h : MvOk H a) (s : Same H H') : MvOk H' a := by
  obtain ⟨ts, mv, t, sm, l⟩ := h
  exact ⟨ts, mv, t.same s, sm, l⟩
end SS

set_option Elab.async false
set_option maxRecDepth 100000
set_option linter.all false
set_option maxHeartbeats 4000000
/-! try: a name = f(..) except T: .. -/
namespace L2
open PySem PySem.Spec PyProof.Rows
section
variable {X : Cx} {body suite : List Stmt} {b0 : Stmt} {tb : TB2} {ts : TS} {x n : Str} {T : Addr} {i : Nat} {np hpos pos : Pos}
end
end L2

set_option Elab.async false
set_option maxRecDepth 100000
set_option linter.all false
set_option maxHeartbeats 4000000
namespace SS
open PySem L2
/-! ### shares place by place -/
/-! ### all shares together -/
end SS
namespace SS
open PySem L2
end SS
namespace SS
open PySem L2
end SS

set_option Elab.async false
set_option maxRecDepth 100000
set_option linter.all false
set_option maxHeartbeats 4000000
namespace SS
open PySem L2
/-! ### changes that are refused -/
end SS

set_option Elab.async false
set_option maxRecDepth 100000
set_option linter.all false
set_option maxHeartbeats 4000000
namespace SS
open PySem L2
/-! ### ways are least walks, and what becomes of them on other webs -/
theorem ostr_some : ∀ (n : Nat) (es : List Road), es.length = n → ∀ {i k : Nat} {c : Int}, ostr es i k = some c → (i = k ∧ c = 0) ∨ ∃ e ∈ es, ((e.1.toNat = i ∧ e.2.1.toNat = k) ∨ (e.2.1.toNat = i ∧ e.1.toNat = k)) ∧ e.2.2 = c
  | 0, es, hn, i, k, c, h => by
    have : es = [] := List.eq_nil_of_length_eq_zero hn
    subst this
    have h : (if i = k then some (0 : Int) else none) = some c := h
    by_cases e : i = k
    · rw [if_pos e] at h; exact .inl ⟨e, (Option.some.inj h).symm⟩
    · rw [if_neg e] at h; cases h
  | n + 1, es, hn, i, k, c, h => by
    have ne : es ≠ [] := fun z => by rw [z] at hn; cases hn
    have sp := List.dropLast_concat_getLast ne
    generalize es.getLast ne = e at sp
    generalize hd : es.dropLast = ds at sp
    have ln : ds.length = n := by rw [← hd, List.length_dropLast, hn]; rfl
    subst sp
    rw [ostr_snoc] at h
    unfold oroad upd2 at h
    by_cases c1 : i = e.2.1.toNat ∧ k = e.1.toNat
    · rw [if_pos c1] at h
      exact .inr ⟨e, by simp, .inr ⟨c1.1.symm, c1.2.symm⟩, Option.some.inj h⟩
    · rw [if_neg c1] at h
      by_cases c2 : i = e.1.toNat ∧ k = e.2.1.toNat
      · rw [if_pos c2] at h
        exact .inr ⟨e, by simp, .inl ⟨c2.1.symm, c2.2.symm⟩, Option.some.inj h⟩
      · rw [if_neg c2] at h
        rcases ostr_some n ds ln h with z | ⟨e', he, z⟩
        · exact .inl z
        · exact .inr ⟨e', List.mem_append_left _ he, z⟩
theorem walk_of_O {m : Nat} {es : List Road} (ok : RoadsOk m es) {i j : Nat} {c : Int} (w : WalkO m (ostr es) i j c) : Walk es i j c := by
  induction w with
  | @edge i j v e =>
    rcases ostr_some _ es rfl e with ⟨rfl, rfl⟩ | ⟨e', he, z, rfl⟩
    · exact .refl _
    · have b := ok.rng e' he
      have r0 := Walk.refl (rs := es) (i : Int)
      rcases z with ⟨z1, z2⟩ | ⟨z1, z2⟩
      · have e1 : e'.1 = (i : Int) := by omega
        have e2 : e'.2.1 = (j : Int) := by omega
        have := Walk.fwd (b := e'.2.1) (l := e'.2.2) (e1 ▸ r0 : Walk es (i : Int) e'.1 0) he
        rw [e2, Int.zero_add] at this
        exact this
      · have e1 : e'.2.1 = (i : Int) := by omega
        have e2 : e'.1 = (j : Int) := by omega
        have := Walk.bwd (a := e'.1) (l := e'.2.2) (e1 ▸ r0 : Walk es (i : Int) e'.2.1 0) he
        rw [e2, Int.zero_add] at this
        exact this
  | cat _ _ _ ih1 ih2 => exact Walk.trans ih1 ih2
def IsWay (rs : List Road) (i j v : Int) : Prop := Walk rs i j v ∧ ∀ c, Walk rs i j c → v ≤ c
theorem ways_is {m : Nat} {es : List Road} (ok : RoadsOk m es) (hg : Hang m es) {i j : Nat} (hi : i < m) (hj : j < m) : IsWay es i j (waysG m es i j) := by
  have e := ways_eq ok hg hi hj
  refine ⟨walk_of_O ok (fwO_sound m (Nat.le_refl _) i j _ e), fun c w => ?_⟩
  have wO := walk_O ok (by omega) w
  simp only [Int.toNat_natCast] at wO
  obtain ⟨v, ev, lv⟩ := fwO_complete (ostr_good ok) wO
  rw [e] at ev
  cases ev
  exact lv
/-- a walk taken over, road by road -/
theorem Walk.to {rs rs' : List Road} (f : Int → Int) (s t : Int) (h : ∀ a b l, (a, b, l) ∈ rs → (∃ c, Walk rs' (f a) (f b) c ∧ s * c ≤ t * l) ∧ ∃ c, Walk rs' (f b) (f a) c ∧ s * c ≤ t * l) {i j c : Int} (w : Walk rs i j c) : ∃ c', Walk rs' (f i) (f j) c' ∧ s * c' ≤ t * c := by
  induction w with
  | refl => exact ⟨0, .refl _, by simp⟩
  | fwd _ m ih =>
    obtain ⟨c1, w1, l1⟩ := ih
    obtain ⟨c2, w2, l2⟩ := (h _ _ _ m).1
    exact ⟨c1 + c2, w1.trans w2, by rw [Int.mul_add, Int.mul_add]; omega⟩
  | bwd _ m ih =>
    obtain ⟨c1, w1, l1⟩ := ih
    obtain ⟨c2, w2, l2⟩ := (h _ _ _ m).2
    exact ⟨c1 + c2, w1.trans w2, by rw [Int.mul_add, Int.mul_add]; omega⟩
theorem Walk.road {rs : List Road} {e : Road} (h : e ∈ rs) : Walk rs e.1 e.2.1 e.2.2 ∧ Walk rs e.2.1 e.1 e.2.2 := by
  have a := Walk.fwd (b := e.2.1) (l := e.2.2) (Walk.refl (rs := rs) e.1) h
  have b := Walk.bwd (a := e.1) (l := e.2.2) (Walk.refl (rs := rs) e.2.1) h
  rw [Int.zero_add] at a b
  exact ⟨a, b⟩
/-- a road told either way about -/
theorem Walk.rise {rs : List Road} {e : Road} (h : rise e ∈ rs) : Walk rs e.1 e.2.1 e.2.2 ∧ Walk rs e.2.1 e.1 e.2.2 := by
  have r := Walk.road h
  obtain ⟨a, b, l⟩ := e
  unfold SS.rise at r
  simp only at r
  by_cases c : b < a
  · rw [if_pos c, if_neg (by omega)] at r
    exact ⟨r.2, r.1⟩
  · rw [if_neg c] at r
    by_cases d : b > a
    · rw [if_pos d] at r; exact r
    · rw [if_neg d] at r
      have : a = b := by omega
      subst this
      exact r
theorem IsWay.le {rs rs' : List Road} (f : Int → Int) (s t : Int) (h : ∀ a b l, (a, b, l) ∈ rs → (∃ c, Walk rs' (f a) (f b) c ∧ s * c ≤ t * l) ∧ ∃ c, Walk rs' (f b) (f a) c ∧ s * c ≤ t * l) {i j v v' : Int} (s0 : 0 ≤ s) (w : IsWay rs i j v) (w' : IsWay rs' (f i) (f j) v') : s * v' ≤ t * v := by
  obtain ⟨c, wc, lc⟩ := Walk.to f s t h w.1
  have := w'.2 c wc
  exact Int.le_trans (Int.mul_le_mul_of_nonneg_left this s0) lc
end SS

set_option Elab.async false
set_option maxRecDepth 100000
set_option linter.all false
set_option maxHeartbeats 4000000
namespace SS
open PySem L2
/-! ### shares on other webs -/
/-! ### one seller more -/
end SS

set_option Elab.async false
set_option maxRecDepth 100000
set_option linter.all false
set_option maxHeartbeats 4000000
namespace SS
open PySem L2
/-! ### ways by a number for each place that no road changes by more than its length -/
theorem Walk.reach {rs : List Road} {i j c : Int} (w : Walk rs i j c) : Reach rs i j := by
  induction w with
  | refl => exact .refl
  | fwd _ m ih => exact .fwd ih m
  | bwd _ m ih => exact .bwd ih m
theorem Walk.symm {rs : List Road} {i j c : Int} (w : Walk rs i j c) : Walk rs j i c := by
  induction w with
  | refl => exact .refl _
  | @fwd a b l c _ m ih =>
    have := (Walk.road m).2
    have t := Walk.trans this ih
    rw [Int.add_comm] at t
    exact t
  | @bwd a b l c _ m ih =>
    have := (Walk.road m).1
    have t := Walk.trans this ih
    rw [Int.add_comm] at t
    exact t
/-! ### places called otherwise, roads in any order and either way about -/
end SS

set_option Elab.async false
set_option maxRecDepth 100000
set_option linter.all false
set_option maxHeartbeats 4000000
namespace SS
open PySem L2
/-! ### rings -/
def pre (ls : List Int) (k : Nat) : Int := (ls.take k).sum
/-! ### stars -/
end SS

set_option Elab.async false
set_option maxRecDepth 100000
set_option linter.all false
set_option maxHeartbeats 4000000
namespace SS
open PySem L2
/-! ### what holds of ways on each web, and on webs with one road otherwise -/
theorem Walk.pos {rs : List Road} (nn : ∀ e ∈ rs, 1 ≤ e.2.2) {i j c : Int} (w : Walk rs i j c) : 0 ≤ c ∧ (i ≠ j → 1 ≤ c) := by
  induction w with
  | refl => exact ⟨Int.le_refl _, fun z => absurd rfl z⟩
  | @fwd a b l c _ m ih => have q : 1 ≤ l := nn _ m; exact ⟨by omega, fun _ => by omega⟩
  | @bwd a b l c _ m ih => have q : 1 ≤ l := nn _ m; exact ⟨by omega, fun _ => by omega⟩
section
variable {m : Nat} {rs : List Road}
theorem ways_zero (ok : RoadsOk m rs) (hg : Hang m rs) {i j : Nat} (hi : i < m) (hj : j < m) : waysG m rs i j = 0 ↔ i = j := by
  have a := ways_is ok hg hi hj
  have p := Walk.pos (fun e he => (ok.rng e he).2.2.2.1) a.1
  constructor
  · intro z
    by_cases c : i = j
    · exact c
    · have := p.2 (by omega); omega
  · intro z
    subst z
    have := a.2 0 (.refl _)
    omega
end
end SS

set_option Elab.async false
set_option maxRecDepth 100000
set_option linter.all false
set_option maxHeartbeats 4000000
namespace SS
open PySem L2
/-! ### shares on streets, stars and rings -/
end SS

set_option Elab.async false
set_option maxRecDepth 100000
set_option linter.all false
set_option maxHeartbeats 4000000
namespace SS
open PySem L2
/-! ### trees: each road parts the places in two -/
def TreeB (rs : List Road) : Prop := ∀ e ∈ rs, ∃ c : Int → Bool, c e.1 ≠ c e.2.1 ∧ ∀ e' ∈ rs, e' ≠ e → c e'.1 = c e'.2.1
theorem TreeB.perm {a b : List Road} (t : TreeB b) (p : a.Perm b) : TreeB a := fun e he => by
  obtain ⟨c, h1, h2⟩ := t e (p.mem_iff.mp he)
  exact ⟨c, h1, fun e' h' n => h2 e' (p.mem_iff.mp h') n⟩
theorem rise_cases (e : Road) : ((rise e).1 = e.1 ∧ (rise e).2.1 = e.2.1 ∧ (rise e).2.2 = e.2.2) ∨ ((rise e).1 = e.2.1 ∧ (rise e).2.1 = e.1 ∧ (rise e).2.2 = e.2.2) := by
  show ((if e.2.1 < e.1 then e.2.1 else e.1) = e.1 ∧ (if e.2.1 > e.1 then e.2.1 else e.1) = e.2.1 ∧ e.2.2 = e.2.2) ∨ ((if e.2.1 < e.1 then e.2.1 else e.1) = e.2.1 ∧ (if e.2.1 > e.1 then e.2.1 else e.1) = e.1 ∧ e.2.2 = e.2.2)
  by_cases c1 : e.2.1 < e.1
  · exact .inr ⟨by rw [if_pos c1], by rw [if_neg (by omega)], rfl⟩
  · by_cases c2 : e.2.1 > e.1
    · exact .inl ⟨by rw [if_neg c1], by rw [if_pos c2], rfl⟩
    · exact .inl ⟨by rw [if_neg c1], by rw [if_neg c2]; omega, rfl⟩
theorem TreeB.rise {a : List Road} (t : TreeB a) : TreeB (a.map rise) := fun e he => by
  obtain ⟨e0, h0, rfl⟩ := List.mem_map.mp he
  obtain ⟨c, h1, h2⟩ := t e0 h0
  refine ⟨c, ?_, fun e' h' n => ?_⟩
  · rcases rise_cases e0 with ⟨p, q, _⟩ | ⟨p, q, _⟩
    · rw [p, q]; exact h1
    · rw [p, q]; exact h1.symm
  · obtain ⟨e1, h1', rfl⟩ := List.mem_map.mp h'
    have := h2 e1 h1' (fun z => n (by rw [z]))
    rcases rise_cases e1 with ⟨p, q, _⟩ | ⟨p, q, _⟩
    · rw [p, q]; exact this
    · rw [p, q]; exact this.symm
theorem Reach.rise {a : List Road} {i j : Int} (h : Reach a i j) : Reach (a.map rise) i j := by
  induction h with
  | refl => exact .refl
  | @fwd x y l _ m ih =>
    have m' : SS.rise (x, y, l) ∈ a.map SS.rise := List.mem_map.mpr ⟨(x, y, l), m, rfl⟩
    rcases rise_cases (x, y, l) with ⟨p, q, r⟩ | ⟨p, q, r⟩
    · have e : SS.rise (x, y, l) = (x, y, l) := Prod.ext p (Prod.ext q r)
      rw [e] at m'
      exact .fwd ih m'
    · have e : SS.rise (x, y, l) = (y, x, l) := Prod.ext p (Prod.ext q r)
      rw [e] at m'
      exact .bwd ih m'
  | @bwd x y l _ m ih =>
    have m' : SS.rise (x, y, l) ∈ a.map SS.rise := List.mem_map.mpr ⟨(x, y, l), m, rfl⟩
    rcases rise_cases (x, y, l) with ⟨p, q, r⟩ | ⟨p, q, r⟩
    · have e : SS.rise (x, y, l) = (x, y, l) := Prod.ext p (Prod.ext q r)
      rw [e] at m'
      exact .bwd ih m'
    · have e : SS.rise (x, y, l) = (y, x, l) := Prod.ext p (Prod.ext q r)
      rw [e] at m'
      exact .fwd ih m'
/-- a tree over the places S, grown so far -/
structure TreeTo (m : Nat) (r0 : Int) (S : List Int) (es : List Road) : Prop where
  ends : ∀ e ∈ es, e.1 ∈ S ∧ e.2.1 ∈ S
  ok : RoadsOk m (es.map rise)
  tree : TreeB es
  rch : ∀ x ∈ S, Reach es r0 x
theorem TreeTo.start (m : Nat) (r0 : Int) : TreeTo m r0 [r0] [] := ⟨fun e h => by simp at h, ⟨fun e h => by simp at h, by simp⟩, fun e h => by simp at h, fun x hx => by rw [List.mem_singleton.mp hx]; exact .refl⟩
theorem TreeTo.leaf {m : Nat} {r0 : Int} {S : List Int} {es : List Road} (t : TreeTo m r0 S es) {u v l : Int} (hu : u ∈ S) (hv : v ∉ S) (u0 : 0 ≤ u) (u1 : u < m) (v0 : 0 ≤ v) (v1 : v < m) (l1 : 1 ≤ l) (l2 : l ≤ 1000) : TreeTo m r0 (S ++ [v]) (es ++ [(u, v, l)]) := by
  have uv : u ≠ v := fun z => hv (z ▸ hu)
  refine ⟨fun e he => ?_, ⟨fun e he => ?_, ?_⟩, fun e he => ?_, fun x hx => ?_⟩
  · rcases List.mem_append.mp he with z | z
    · exact ⟨List.mem_append_left _ (t.ends e z).1, List.mem_append_left _ (t.ends e z).2⟩
    · rw [List.mem_singleton.mp z]
      exact ⟨List.mem_append_left _ hu, List.mem_append_right _ (List.mem_singleton.mpr rfl)⟩
  · rw [List.map_append] at he
    rcases List.mem_append.mp he with z | z
    · exact t.ok.rng e z
    · rw [List.mem_singleton.mp z]
      unfold rise
      simp only
      split <;> split <;> omega
  · rw [List.map_append, List.map_append]
    refine List.nodup_append.mpr ⟨t.ok.nd, by simp, fun a ha b hb z => ?_⟩
    obtain ⟨e', he', rfl⟩ := List.mem_map.mp ha
    obtain ⟨e, he, rfl⟩ := List.mem_map.mp he'
    have eb : b = ((rise (u, v, l)).1, (rise (u, v, l)).2.1) := by simpa using hb
    rw [eb] at z
    have z1 := congrArg Prod.fst z
    have z2 := congrArg Prod.snd z
    simp only at z1 z2
    have en := t.ends e he
    rcases rise_cases e with ⟨p, q, _⟩ | ⟨p, q, _⟩ <;> rcases rise_cases (u, v, l) with ⟨p', q', _⟩ | ⟨p', q', _⟩
    · rw [q, q'] at z2; exact hv (by rw [← show e.2.1 = v from z2]; exact en.2)
    · rw [p, p'] at z1; exact hv (by rw [← show e.1 = v from z1]; exact en.1)
    · rw [q, q'] at z2; exact hv (by rw [← show e.1 = v from z2]; exact en.1)
    · rw [p, p'] at z1; exact hv (by rw [← show e.2.1 = v from z1]; exact en.2)
  · have old : ∀ e ∈ es, e.1 ≠ v ∧ e.2.1 ≠ v := fun e he => ⟨fun z => hv (z ▸ (t.ends e he).1), fun z => hv (z ▸ (t.ends e he).2)⟩
    rcases List.mem_append.mp he with z | z
    · obtain ⟨c, h1, h2⟩ := t.tree e z
      refine ⟨fun x => if x = v then c u else c x, ?_, fun e' h' n => ?_⟩
      · show (if e.1 = v then c u else c e.1) ≠ (if e.2.1 = v then c u else c e.2.1)
        rw [if_neg (old e z).1, if_neg (old e z).2]; exact h1
      · show (if e'.1 = v then c u else c e'.1) = (if e'.2.1 = v then c u else c e'.2.1)
        rcases List.mem_append.mp h' with w | w
        · rw [if_neg (old e' w).1, if_neg (old e' w).2]; exact h2 e' w n
        · rw [List.mem_singleton.mp w]
          show (if u = v then c u else c u) = (if v = v then c u else c v)
          rw [if_neg uv, if_pos rfl]
    · rw [List.mem_singleton.mp z]
      refine ⟨fun x => decide (x = v), ?_, fun e' h' n => ?_⟩
      · show decide (u = v) ≠ decide (v = v)
        rw [decide_eq_false uv, decide_eq_true rfl]; decide
      · rcases List.mem_append.mp h' with w | w
        · show decide (e'.1 = v) = decide (e'.2.1 = v)
          rw [decide_eq_false (old e' w).1, decide_eq_false (old e' w).2]
        · exact absurd (List.mem_singleton.mp w) n
  · have up : ∀ {y : Int}, Reach es r0 y → Reach (es ++ [(u, v, l)]) r0 y := fun z => z.mono fun a b l m => ⟨l, List.mem_append_left _ m⟩
    rcases List.mem_append.mp hx with z | z
    · exact up (t.rch x z)
    · rw [List.mem_singleton.mp z]
      exact .fwd (up (t.rch u hu)) (List.mem_append_right _ (List.mem_singleton.mpr rfl))
/-- a whole tree -/
structure TreeOk (m : Nat) (rs : List Road) : Prop where
  web : WebOk m rs
  tree : TreeB rs
  many : rs.length + 1 = m
theorem TreeTo.all {m : Nat} {r0 : Int} {S : List Int} {es rs : List Road} (t : TreeTo m r0 S es) (m1 : 1 ≤ m) (m12 : m ≤ 12) (hS : ∀ x : Int, 0 ≤ x → x < m → x ∈ S) (hl : es.length + 1 = m) (p : rs.Perm (es.map rise)) (srt : Srt rs) : TreeOk m rs := by
  have ll : rs.length = es.length := by rw [p.length_eq, List.length_map]
  refine ⟨⟨t.ok.perm p, by omega, fun i j i0 i1 j0 j1 => ?_, srt⟩, t.tree.rise.perm p, by omega⟩
  have up : ∀ x : Int, 0 ≤ x → x < m → Reach rs r0 x := fun x a b => (t.rch x (hS x a b)).rise.mono fun a b l h => ⟨l, p.mem_iff.mpr h⟩
  exact (up i i0 i1).symm.trans (up j j0 j1)
/-! ### a road's two sides, by the ways -/
section
variable {m : Nat} {rs : List Road}
end
end SS

set_option Elab.async false
set_option maxRecDepth 100000
set_option linter.all false
set_option maxHeartbeats 4000000
namespace SS
open PySem L2
/-! ### what is found from one place without another -/
def addS (p x : Int) (F : List Int) (y z : Int) : List Int := if y = x ∧ z ≠ p ∧ z ∉ F then F ++ [z] else F
def roadS (p x : Int) (F : List Int) (e : Road) : List Int := addS p x (addS p x F e.1 e.2.1) e.2.1 e.1
theorem addS_pre (p x : Int) (F : List Int) (y z : Int) : F <+: addS p x F y z := by
  unfold addS
  split
  · exact List.prefix_append _ _
  · exact List.prefix_refl _
/-- found so far, and nothing else -/
structure SideF (m : Nat) (rs : List Road) (q p : Int) (F : List Int) : Prop where
  nd : F.Nodup
  rng : ∀ x ∈ F, 0 ≤ x ∧ x < m
  has : q ∈ F
  not : p ∉ F
  snd : ∀ S : Int → Prop, S q → (∀ e ∈ rs, (S e.1 → e.2.1 ≠ p → S e.2.1) ∧ (S e.2.1 → e.1 ≠ p → S e.1)) → ∀ x ∈ F, S x
theorem SideF.start {m : Nat} {rs : List Road} {q p : Int} (q0 : 0 ≤ q) (q1 : q < m) (n : q ≠ p) : SideF m rs q p [q] := ⟨by simp, fun x hx => by rw [List.mem_singleton.mp hx]; exact ⟨q0, q1⟩, by simp, fun z => n (List.mem_singleton.mp z).symm, fun S hq _ x hx => by rw [List.mem_singleton.mp hx]; exact hq⟩
theorem SideF.add {m : Nat} {rs : List Road} {q p x : Int} {F : List Int} (s : SideF m rs q p F) {y z : Int} (hx : x ∈ F) (z0 : 0 ≤ z) (z1 : z < m) (st : ∀ S : Int → Prop, (∀ e ∈ rs, (S e.1 → e.2.1 ≠ p → S e.2.1) ∧ (S e.2.1 → e.1 ≠ p → S e.1)) → S y → z ≠ p → S z) : SideF m rs q p (addS p x F y z) := by
  unfold addS
  split
  · rename_i c
    obtain ⟨c1, c2, c3⟩ := c
    refine ⟨List.nodup_append.mpr ⟨s.nd, by simp, fun a ha b hb w => c3 (by rw [← List.mem_singleton.mp hb, ← w]; exact ha)⟩, fun a ha => ?_, List.mem_append_left _ s.has, fun w => ?_, fun S hq hc a ha => ?_⟩
    · rcases List.mem_append.mp ha with h | h
      · exact s.rng a h
      · rw [List.mem_singleton.mp h]; exact ⟨z0, z1⟩
    · rcases List.mem_append.mp w with h | h
      · exact s.not h
      · exact c2 (List.mem_singleton.mp h).symm
    · rcases List.mem_append.mp ha with h | h
      · exact s.snd S hq hc a h
      · rw [List.mem_singleton.mp h]
        exact st S hc (by rw [c1]; exact s.snd S hq hc x hx) c2
  · exact s
theorem SideF.road {m : Nat} {rs : List Road} {q p x : Int} {F : List Int} (s : SideF m rs q p F) {e : Road} (he : e ∈ rs) (hx : x ∈ F) (r : 0 ≤ e.1 ∧ e.1 < m ∧ 0 ≤ e.2.1 ∧ e.2.1 < m) : SideF m rs q p (roadS p x F e) := by
  have a := s.add (y := e.1) (z := e.2.1) hx r.2.2.1 r.2.2.2 (fun S hc hy hz => (hc e he).1 hy hz)
  exact a.add (y := e.2.1) (z := e.1) ((addS_pre _ _ _ _ _).subset hx) r.1 r.2.1 (fun S hc hy hz => (hc e he).2 hy hz)
theorem nodup_len : ∀ (F G : List Int), F.Nodup → F ⊆ G → F.length ≤ G.length
  | [], G, _, _ => Nat.zero_le _
  | x :: l, G, nd, sub => by
    have nd' := List.nodup_cons.mp nd
    have hx : x ∈ G := sub List.mem_cons_self
    have := nodup_len l (G.erase x) nd'.2 (fun y hy => by
      have ne : y ≠ x := fun z => nd'.1 (by rw [← z]; exact hy)
      exact (List.mem_erase_of_ne ne).mpr (sub (List.mem_cons_of_mem _ hy)))
    rw [List.length_erase_of_mem hx] at this
    have : 0 < G.length := List.length_pos_of_mem hx
    rw [List.length_cons]
    omega
theorem SideF.len {m : Nat} {rs : List Road} {q p : Int} {F : List Int} (s : SideF m rs q p F) : F.length ≤ m := by
  have h : F ⊆ rgI m := fun x hx => by
    have := s.rng x hx
    exact List.mem_map.mpr ⟨x.toNat, List.mem_range.mpr (by omega), by omega⟩
  have := nodup_len F _ s.nd h
  rwa [rgI_len] at this
/-! ### a tree has a median -/
end SS

set_option Elab.async false
set_option maxRecDepth 100000
set_option linter.all false
set_option maxHeartbeats 4000000
namespace L2
open PySem PySem.Spec PyProof.Rows
/-! ### zip(list, list, list), all as long as one another -/
section
variable {P : Program} {w : World} {A : Around} {E : Value → Shared → Prop} {s : Shared}
end
/-! made -/
end L2

set_option Elab.async false
set_option maxRecDepth 100000
set_option linter.all false
set_option maxHeartbeats 4000000
namespace L2
open PySem PySem.Spec PyProof.Rows
end L2

set_option Elab.async false
set_option maxRecDepth 100000
set_option linter.all false
set_option maxHeartbeats 4000000
namespace L2
open PySem PySem.Spec PyProof.Rows
/-! ### dict(list of pairs) -/
section
variable {P : Program} {w : World} {A : Around} {E : Value → Shared → Prop} {s : Shared}
end
end L2

set_option Elab.async false
set_option maxRecDepth 100000
set_option linter.all false
set_option maxHeartbeats 4000000
namespace L2
open PySem PySem.Spec PyProof.Rows
section
variable {P : Program} {w : World} {A : Around} {E : Value → Shared → Prop} {s : Shared}
end
end L2
namespace L2
end L2
namespace L2
open PySem
end L2

set_option Elab.async false
set_option maxRecDepth 100000
set_option linter.all false
set_option maxHeartbeats 4000000
namespace SM
open PySem PySem.SetTable
/-! ### a table whose places rise: where a number stands, what is put, what is laid anew -/
abbrev Up (xs : Array Nat) : Prop := xs.toList.Pairwise (· < ·)
theorem Up.lt {xs : Array Nat} (u : Up xs) {k m a b : Nat} (h : k < m) (ea : xs[k]? = some a) (eb : xs[m]? = some b) : a < b := by
  rw [← Array.getElem?_toList] at ea eb
  obtain ⟨h1, rfl⟩ := List.getElem?_eq_some_iff.mp ea
  obtain ⟨h2, rfl⟩ := List.getElem?_eq_some_iff.mp eb
  exact List.pairwise_iff_getElem.mp u k m h1 h2 h
/-- i of them are less than j -/
structure Cut (xs : Array Nat) (j i : Nat) : Prop where
  le : i ≤ xs.size
  lo : ∀ k v, k < i → xs[k]? = some v → v < j
  hi : ∀ k v, i ≤ k → xs[k]? = some v → j ≤ v
theorem Cut.one {xs : Array Nat} {j a b : Nat} (x : Cut xs j a) (y : Cut xs j b) : a = b := by
  have no : ∀ {a b : Nat}, Cut xs j a → Cut xs j b → ¬ a < b := fun {a b} x y l => by
    have hl := y.le
    have e : xs[a]? = some (xs[a]'(by omega)) := Array.getElem?_eq_getElem (by omega)
    have h1 := x.hi a _ (Nat.le_refl a) e
    have h2 := y.lo a _ l e
    omega
  have h1 := no x y
  have h2 := no y x
  omega
theorem go_cut {xs : Array Nat} {j : Nat} (u : Up xs) : ∀ (fuel lo hi : Nat), lo ≤ hi → hi ≤ xs.size → hi - lo ≤ fuel → (∀ k v, k < lo → xs[k]? = some v → v < j) → (∀ k v, hi ≤ k → xs[k]? = some v → j ≤ v) → Cut xs j (below.go xs j fuel lo hi)
  | 0, lo, hi, h1, h2, h3, hl, hh => by
    have : lo = hi := by omega
    subst this
    exact ⟨h2, hl, hh⟩
  | fuel + 1, lo, hi, h1, h2, h3, hl, hh => by
    unfold below.go
    by_cases c : lo < hi
    · rw [if_pos c]
      dsimp only
      have hm : (lo + hi) / 2 < hi := by omega
      have hm0 : lo ≤ (lo + hi) / 2 := by omega
      generalize (lo + hi) / 2 = mid at hm hm0
      have em : xs[mid]? = some (xs[mid]'(by omega)) := Array.getElem?_eq_getElem (by omega)
      have eg : xs.getD mid j = xs[mid]'(by omega) := by simp [Array.getD, show mid < xs.size by omega]
      rw [eg]
      by_cases d : xs[mid]'(by omega) < j
      · rw [if_pos d]
        refine go_cut u fuel (mid + 1) hi (by omega) h2 (by omega) (fun k v hk ek => ?_) hh
        by_cases z : k = mid
        · subst z
          rw [em] at ek
          cases ek
          exact d
        · exact Nat.lt_trans (u.lt (by omega) ek em) d
      · rw [if_neg d]
        refine go_cut u fuel lo mid (by omega) (by omega) (by omega) hl (fun k v hk ek => ?_)
        by_cases z : k = mid
        · subst z
          rw [em] at ek
          cases ek
          omega
        · have := u.lt (show mid < k by omega) em ek
          omega
    · rw [if_neg c]
      have : lo = hi := by omega
      subst this
      exact ⟨h2, hl, hh⟩
theorem below_cut {xs : Array Nat} (u : Up xs) (j : Nat) : Cut xs j (below xs j) :=
  go_cut u xs.size 0 xs.size (Nat.zero_le _) (Nat.le_refl _) (by omega) (fun k v hk _ => by omega) fun k v hk ek => by
    have := (Array.getElem?_eq_some_iff.mp ek).1
    omega
theorem up_insert {xs : Array Nat} {j : Nat} (u : Up xs) (nj : j ∉ xs.toList) : Up (insertAt xs (below xs j) j) := by
  have c := below_cut u j
  generalize below xs j = p at c
  show (insertAt xs p j).toList.Pairwise (· < ·)
  rw [SetTable.toList_insertAt]
  refine List.pairwise_append.mpr ⟨List.Pairwise.sublist (List.take_sublist _ _) u, List.pairwise_cons.mpr ⟨fun b hb => ?_, List.Pairwise.sublist (List.drop_sublist _ _) u⟩, fun a ha b hb => ?_⟩
  · obtain ⟨k, hk⟩ := List.mem_iff_getElem?.mp hb
    rw [List.getElem?_drop, Array.getElem?_toList] at hk
    have := c.hi _ _ (by omega) hk
    have : b ≠ j := fun z => nj (z ▸ List.mem_of_mem_drop hb)
    omega
  · obtain ⟨k, hk⟩ := List.mem_iff_getElem?.mp ha
    have hkp : k < p := by
      have := (List.getElem?_eq_some_iff.mp hk).1
      rw [List.length_take] at this
      omega
    rw [List.getElem?_take_of_lt hkp, Array.getElem?_toList] at hk
    have h1 := c.lo _ _ hkp hk
    rcases List.mem_cons.mp hb with rfl | hb
    · exact h1
    · obtain ⟨m, hm⟩ := List.mem_iff_getElem?.mp hb
      rw [List.getElem?_drop, Array.getElem?_toList] at hm
      have := c.hi _ _ (by omega) hm
      omega
theorem empty_free {t : SetTable} (u : Up t.place) {j : Nat} (h : t.slot j = .empty) : j ∉ t.place.toList := fun hj => by
  obtain ⟨m, hm⟩ := List.mem_iff_getElem?.mp hj
  rw [Array.getElem?_toList] at hm
  have e : below t.place j = m := (below_cut u j).one ⟨by have := (Array.getElem?_eq_some_iff.mp hm).1; omega, fun k v hk ek => u.lt hk ek hm, fun k v hk ek => by
    by_cases z : k = m
    · subst z
      rw [hm] at ek
      cases ek
      omega
    · have := u.lt (show m < k by omega) hm ek
      omega⟩
  unfold slot at h
  dsimp only at h
  rw [e, hm, if_pos (by simp)] at h
  cases h
theorem go_empty {t : SetTable} {hashAt : Nat → Int} {h : Int} : ∀ (fuel : Nat) (p : Probe) {j : Nat} {d : Option Nat}, probe.go t hashAt h fuel p = some (.empty j d) → t.slot j = .empty
  | 0, _, _, _, e => by cases e
  | fuel + 1, p, j, d, e => by
    unfold probe.go at e
    cases q : t.slot p.j with
    | empty =>
      rw [q] at e
      cases e
      exact q
    | dummy =>
      rw [q] at e
      exact go_empty fuel _ e
    | live i =>
      rw [q] at e
      dsimp only at e
      split at e
      · cases e
      · exact go_empty fuel _ e
/-- a table without dummies that has room -/
structure GoodT (t : SetTable) (n : Nat) : Prop where
  sz : t.place.size = n
  dm : t.dummies = #[]
  msk : t.mask = 7 ∨ t.mask = 31 ∨ t.mask = 127
  room : n * 5 < t.mask * 3
  up : Up t.place
theorem GoodT.fit {t : SetTable} {n : Nat} (g : GoodT t n) : t.fits n = true := by
  have := g.room
  unfold SetTable.fits
  rw [fill_of g.dm, g.sz]
  have : n ≤ t.mask := by omega
  simp [this]
theorem free_good {t : SetTable} {n : Nat} (g : GoodT t n) (h : Int) : ∃ slot, t.freeSlot h = some (slot, false) ∧ slot ∉ t.place.toList := by
  have hr := g.room
  have hs : t.place.size ≤ t.mask := by rw [g.sz]; omega
  obtain ⟨N, hN, rch⟩ := reach_any (okMask_of g.msk) g.dm hs (start_ok t h)
  rcases go_meets g.dm (fun _ => h + 1) h (10 * turns t.mask) N (t.probeStart h) (start_ok t h) rch hN with ⟨j, e⟩ | ⟨j, i, next, N', e, _⟩
  · refine ⟨j, ?_, empty_free g.up (go_empty _ _ e)⟩
    unfold freeSlot probe
    rw [e]
    rfl
  · exfalso
    have no : ∀ (fuel : Nat) (p : Probe) (j i : Nat) (nx : Probe), probe.go t (fun _ => h + 1) h fuel p ≠ some (.candidate j i nx) := by
      intro fuel
      induction fuel with
      | zero => intro p j i nx z; cases z
      | succ fuel ih =>
        intro p j i nx z
        unfold probe.go at z
        cases q : t.slot p.j with
        | empty => rw [q] at z; cases z
        | dummy => rw [q] at z; exact ih _ _ _ _ z
        | live m =>
          rw [q] at z
          dsimp only at z
          rw [if_neg (by rw [beq_iff_eq]; omega)] at z
          exact ih _ _ _ _ z
    exact no _ _ _ _ _ e
theorem lay_good {t : SetTable} {es : Array (Int × Value)} (g : GoodT t es.size) (h : Int) (x : Value) : ∃ p t', layNew t es h x = (insertAt es p (h, x), t', false, false) ∧ t'.place.size = es.size + 1 ∧ t'.dummies = #[] ∧ t'.mask = t.mask ∧ t'.plain = t.plain ∧ t'.led = t.led ∧ Up t'.place := by
  obtain ⟨slot, e, ns⟩ := free_good g h
  have hr := g.room
  have hd : (t.put slot).1.dummies = #[] := by
    show (if has t.dummies slot then _ else t.dummies) = _
    have : has t.dummies slot = false := by rw [g.dm]; rfl
    rw [this]
    exact g.dm
  have hp : (t.put slot).1.place.size = es.size + 1 := by
    show (insertAt t.place _ slot).size = _
    rw [insert_size, g.sz]
  have hz : (insertAt es (t.put slot).2 (h, x)).size = es.size + 1 := insert_size _ _ _
  have hfit : (t.put slot).1.fits (es.size + 1) = true := by
    unfold SetTable.fits
    rw [fill_of hd, hp]
    have : es.size + 1 ≤ (t.put slot).1.mask := by
      show es.size + 1 ≤ t.mask
      rcases g.msk with e | e | e <;> rw [e] at hr ⊢ <;> omega
    simp [this]
  refine ⟨(t.put slot).2, (t.put slot).1, ?_, hp, hd, rfl, rfl, rfl, up_insert g.up ns⟩
  unfold layNew
  rw [e]
  show (insertAt es (t.put slot).2 (h, x), (t.put slot).1.orStandIn (insertAt es (t.put slot).2 (h, x)).size, false, !(t.put slot).1.fits (insertAt es (t.put slot).2 (h, x)).size) = _
  rw [hz, hfit]
  unfold orStandIn
  rw [if_pos hfit]
  rfl
/-! ### laying anew: each once -/
theorem filterMap_same {α β : Type} {f g : α → Option β} : ∀ (l : List α), (∀ a ∈ l, g a = f a) → l.filterMap g = l.filterMap f
  | [], _ => rfl
  | a :: l, h => by rw [List.filterMap_cons, List.filterMap_cons, h a List.mem_cons_self, filterMap_same l fun x hx => h x (List.mem_cons_of_mem _ hx)]
theorem filterMap_put {α β : Type} [DecidableEq α] {f g : α → Option β} {j : α} {b : β} (hf : f j = none) (hg : g j = some b) (ho : ∀ i, i ≠ j → g i = f i) : ∀ (l : List α), l.Nodup → j ∈ l → (l.filterMap g).Perm (b :: l.filterMap f)
  | [], _, h => by cases h
  | a :: l, nd, h => by
    have nd' := List.nodup_cons.mp nd
    by_cases e : a = j
    · subst e
      rw [List.filterMap_cons, List.filterMap_cons, hf, hg]
      dsimp only
      rw [filterMap_same l fun x hx => ho x fun z => nd'.1 (z ▸ hx)]
    · have hj : j ∈ l := by
        rcases List.mem_cons.mp h with z | z
        · exact absurd z.symm e
        · exact z
      have ih := filterMap_put hf hg ho l nd'.2 hj
      rw [List.filterMap_cons, List.filterMap_cons, ho a e]
      cases f a with
      | none => exact ih
      | some c => exact (ih.cons c).trans (List.Perm.swap _ _ _)
theorem live_put {mask : Nat} {owner : Array (Option Nat)} {j k : Nat} (hs : owner.size = mask + 1) (hj : j ≤ mask) (hn : owner.getD j none = none) : (liveL mask (owner.setIfInBounds j (some k))).Perm ((j, k) :: liveL mask owner) := by
  have hjs : j < owner.size := by omega
  refine filterMap_put (f := fun i => (owner.getD i none).map (i, ·)) (g := fun i => ((owner.setIfInBounds j (some k)).getD i none).map (i, ·)) (j := j) (by rw [hn]; rfl) (by simp [Array.getD, hjs]) ?_ _ (range_nodup _) (List.mem_range.mpr (by omega))
  intro i hi
  by_cases c : i < owner.size
  · simp [Array.getD, c, Array.getElem_setIfInBounds, Ne.symm hi]
  · simp [Array.getD, c]
def OwnP (mask : Nat) (owner : Array (Option Nat)) (k : Nat) : Prop := OwnOk mask owner k ∧ ((liveL mask owner).map (·.2)).Perm (List.range k)
theorem ownp_start (mask : Nat) : OwnP mask (Array.replicate (mask + 1) none) 0 := by
  refine ⟨own_start mask, ?_⟩
  have : liveL mask (Array.replicate (mask + 1) none) = [] := List.eq_nil_of_length_eq_zero (own_start mask).cnt
  rw [this]
  exact List.Perm.refl _
theorem ownp_step {mask : Nat} {owner : Array (Option Nat)} {k j : Nat} (h : OwnP mask owner k) (hj : j ≤ mask) (hn : owner.getD j none = none) : OwnP mask (owner.setIfInBounds j (some k)) (k + 1) := by
  refine ⟨own_step h.1 hj hn, ?_⟩
  have p := (live_put (k := k) h.1.size hj hn).map (·.2)
  rw [List.map_cons] at p
  refine p.trans ((h.2.cons k).trans ?_)
  rw [List.range_succ]
  exact (List.perm_append_singleton k (List.range k)).symm
theorem layp_fold {mask : Nat} (hm : okMask mask = true) : ∀ (hs : List Int) (owner : Array (Option Nat)) (k : Nat), OwnP mask owner k → k + hs.length ≤ mask → ∃ owner', hs.foldl (layStep mask) (some (owner, k)) = some (owner', k + hs.length) ∧ OwnP mask owner' (k + hs.length)
  | [], owner, k, ok, _ => ⟨owner, rfl, ok⟩
  | h :: hs, owner, k, ok, hl => by
    rw [List.length_cons] at hl ⊢
    obtain ⟨e, he, hn⟩ := owner_empty (mask := mask) (owner := owner) (by rw [ok.1.cnt]; omega)
    obtain ⟨m, m1, m2, em⟩ := lp_any hm (x := (bits h % (mask + 1), bits h)) (by unfold bits; show (h % (2 ^ 64 : Int)).toNat < 2 ^ 64; omega) he
    obtain ⟨j, ej, hj, hjn⟩ := free_ends ok.1.size he hn (turns mask) m _ _ em (by unfold turns; omega)
    obtain ⟨o2, e2, ok2⟩ := layp_fold hm hs _ (k + 1) (ownp_step ok hj hjn) (by omega)
    have ea : k + (hs.length + 1) = k + 1 + hs.length := by omega
    rw [ea]
    refine ⟨o2, ?_, ok2⟩
    rw [List.foldl_cons, ← e2]
    refine congrArg (fun z => List.foldl (layStep mask) z hs) ?_
    show (layClean.free mask owner (turns mask) (bits h % (mask + 1)) (bits h)).bind _ = _
    rw [ej]
    rfl
theorem laid_good {mask : Nat} (hm : okMask mask = true) (finger moves : Nat) (led plain : Bool) (hs : Array Int) (hl : hs.size ≤ mask) :
    ∃ t order, laid mask finger moves led plain hs = some (t, order) ∧ t.mask = mask ∧ t.dummies = #[] ∧ t.place.size = hs.size ∧ Up t.place ∧ t.led = led ∧ t.plain = plain ∧ order.toList.Perm (List.range hs.size) := by
  obtain ⟨o, e, ok⟩ := layp_fold hm hs.toList _ 0 (ownp_start mask) (by rw [Nat.zero_add, Array.length_toList]; exact hl)
  rw [Nat.zero_add, Array.length_toList] at e ok
  have ec : layClean mask hs = some o := by
    unfold layClean
    rw [← Array.foldl_toList]
    show (hs.toList.foldl (layStep mask) _).map (·.1) = _
    rw [e]
    rfl
  refine ⟨_, _, by unfold laid; rw [ec]; rfl, rfl, rfl, ?_, ?_, rfl, rfl, ok.2⟩
  · show ((liveL mask o).map (·.1)).toArray.size = _
    rw [List.size_toArray, List.length_map]
    exact ok.1.cnt
  · show ((liveL mask o).map (·.1)).Pairwise (· < ·)
    rw [List.pairwise_map]
    refine List.pairwise_filterMap.mpr (List.Pairwise.imp (fun {a b} hab => ?_) List.pairwise_lt_range)
    intro x hx y hy
    cases q : o.getD a none with
    | none => rw [q] at hx; cases hx
    | some u =>
      cases q2 : o.getD b none with
      | none => rw [q2] at hy; cases hy
      | some v =>
        rw [q] at hx
        rw [q2] at hy
        cases hx
        cases hy
        exact hab
theorem relay_good {t : SetTable} {es : Array (Int × Value)} {m0 : Nat} (hm0 : m0 = 7 ∨ m0 = 31 ∨ m0 = 127) (r0 : (es.size - 1) * 5 < m0 * 3) (r1 : es.size * 5 ≥ m0 * 3) (h76 : es.size ≤ 76) :
    ∃ es' t', relayAll t es (grown es.size) = (es', t', false) ∧ es'.toList.Perm es.toList ∧ GoodT t' es.size ∧ t'.led = t.led ∧ t'.plain = t.plain := by
  have big : ∃ mk, sizeAbove (grown es.size) = mk + 1 ∧ (mk = 7 ∨ mk = 31 ∨ mk = 127) ∧ es.size ≤ mk ∧ es.size * 5 < mk * 3 := by
    rcases hm0 with e | e | e
    · have e5 : es.size = 5 := by rw [e] at r0 r1; omega
      rw [e5]
      exact ⟨31, rfl, .inr (.inl rfl), by decide, by decide⟩
    · have e5 : es.size = 19 := by rw [e] at r0 r1; omega
      rw [e5]
      exact ⟨127, rfl, .inr (.inr rfl), by decide, by decide⟩
    · exfalso
      rw [e] at r1
      omega
  obtain ⟨mk, emk, hmk, lmk, rmk⟩ := big
  obtain ⟨t3, order, el, em, ed, ep, eu, e1, e2, ec⟩ := laid_good (okMask_of hmk) t.finger (t.movedTo mk) t.led t.plain (es.map (·.1)) (by rw [Array.size_map]; exact lmk)
  rw [Array.size_map] at ep ec
  have g : GoodT t3 es.size := ⟨ep, ed, by rw [em]; exact hmk, by rw [em]; exact rmk, eu⟩
  have pm : (order.filterMap (es[·]?)).toList.Perm es.toList := by
    rw [Array.toList_filterMap]
    exact (ec.filterMap _).trans (by rw [filterMap_getElem?_range])
  have sz : (order.filterMap (es[·]?)).size = es.size := by
    rw [← Array.length_toList, pm.length_eq, Array.length_toList]
  refine ⟨_, t3, ?_, pm, g, e1, e2⟩
  unfold relayAll
  have hrel : t.relaid (es.map (·.1)) (grown es.size) = some (t3, order) := by
    unfold relaid
    rw [emk]
    exact el
  rw [hrel]
  dsimp only
  rw [if_pos]
  rw [sz, g.fit, Bool.and_true]
  exact List.isPerm_iff.mpr ec
end SM

set_option Elab.async false
set_option maxRecDepth 100000
set_option linter.all false
set_option maxHeartbeats 4000000
namespace SM
open PySem PySem.SetTable
open PyProof.Rows (IntsAre)
/-! ### a set of whole numbers, whose walk is known -/
def iv : Value → Int
  | .int k _ => k
  | _ => 0
def putI (acc : List Int) (k : Int) : List Int := if k ∈ acc then acc else acc ++ [k]
def uniq (ns : List Int) : List Int := ns.foldl putI []
section
variable {prog : Program} {w : World} {A : Around} {E : Value → Shared → Prop}
def IRaw (prog : Program) (w : World) (h : Heap) (D : Addr) (ns : List Int) : Prop := ∃ o es ep t, h.get? D = some o ∧ o.ExactSet ∧ o.data = .set es ep t ∧
  ElemsOf (intKind prog w) es.toList ∧ (es.toList.map fun e => iv e.2).Perm ns ∧ GoodT t es.size ∧ t.plain = true ∧ t.led = !(w.params.followText "set-order")
theorem iv_of {k : Int} {v : Value} (h : (intKind prog w).is k v = true) : iv v = k := by
  obtain ⟨t, rfl⟩ := Value.isInt_shape h
  rfl
theorem add_int {s : Shared} {D : Addr} {ns : List Int} {k : Int} {tk : Tok} {Q : Bool → Shared → Prop} (T : IRaw prog w s.heap D ns) (hl : ns.length < 76)
    (h : ∀ b h', Heap.SameBut D s.heap h' → IRaw prog w h' D (putI ns k) → Q b { s with heap := h' }) : wpAny (model prog w) A (setAddHashed D (.int k tk) (hashInt k)) Q E s := by
  obtain ⟨o, es, ep, t, ho, hex, hd, hel, hv, g, hp, hled⟩ := T
  have sz : es.size = ns.length := by
    have := hv.length_eq
    rw [List.length_map, Array.length_toList] at this
    exact this
  have kk : (intKind prog w).is k (.int k tk) = true := intKind_is _ _ _ _
  unfold setAddHashed setAddHashedIn
  refine wpAny_holding (wpAny_bind (wpAny_setState_of ho hd g.fit ?_))
  dsimp only
  rw [byScan_of (knd := intKind prog w) (x := .int k tk) rfl (show es.size < scanBound by unfold scanBound; omega) hel]
  simp only [↓reduceIte]
  unfold setAddByScan
  refine wpAny_bind (wpAny_bind (wpAny_rule (wpAny_bind (wpAny_setScan_of (knd := intKind prog w) kk ho hd g.fit hel ?_))))
  have hmem : k ∈ ns ↔ ∃ e ∈ es.toList, (intKind prog w).is k e.2 = true := by
    rw [← hv.mem_iff, List.mem_map]
    constructor
    · rintro ⟨e, he, rfl⟩
      obtain ⟨⟨k', hk', _⟩, _⟩ := hel e he
      exact ⟨e, he, by rw [iv_of hk']; exact hk'⟩
    · rintro ⟨e, he, hk'⟩
      exact ⟨e, he, iv_of hk'⟩
  cases hr : List.findIdx? (fun e => (intKind prog w).is k e.2) es.toList with
  | some j =>
    dsimp only
    obtain ⟨hj, hpj, _⟩ := List.findIdx?_eq_some_iff_getElem.mp hr
    have hk : k ∈ ns := hmem.mpr ⟨es.toList[j], List.getElem_mem hj, hpj⟩
    refine wpAny_pure (wpAny_pure ?_)
    have := h false s.heap (Heap.SameBut.refl D s.heap) ⟨o, es, ep, t, ho, hex, hd, hel, by unfold putI; rw [if_pos hk]; exact hv, g, hp, hled⟩
    exact this
  | none =>
    dsimp only
    have hk : k ∉ ns := fun z => by
      obtain ⟨e, he, q⟩ := hmem.mp z
      have := List.findIdx?_eq_none_iff.mp hr e he
      rw [q] at this
      cases this
    obtain ⟨p, t1, eL, p1, d1, m1, pl1, l1, u1⟩ := lay_good g (hashInt k) (.int k tk)
    have e1 : layNew t es ((intKind prog w).hash k) (.int k tk) = (insertAt es p (hashInt k, .int k tk), t1, false, false) := eL
    have sz1 : (insertAt es p (hashInt k, Value.int k tk)).size = es.size + 1 := insert_size _ _ _
    have pm1 : (insertAt es p (hashInt k, Value.int k tk)).toList.Perm (es.toList ++ [(hashInt k, .int k tk)]) := by
      have := insertAt_perm es p (hashInt k, Value.int k tk)
      rw [Array.toList_push] at this
      exact this
    have hel1 : ElemsOf (intKind prog w) (insertAt es p (hashInt k, Value.int k tk)).toList := (hel.push (knd := intKind prog w) kk rfl).perm pm1
    have hv1 : ((insertAt es p (hashInt k, Value.int k tk)).toList.map fun e => iv e.2).Perm (putI ns k) := by
      unfold putI
      rw [if_neg hk]
      refine (pm1.map _).trans ?_
      rw [List.map_append]
      exact hv.append_right _
    rw [eL]
    generalize insertAt es p (hashInt k, Value.int k tk) = es1 at sz1 pm1 hel1 hv1
    dsimp only
    refine wpAny_bind (wpAny_pure ?_)
    rw [pl1, hp]
    simp only [↓reduceIte]
    rw [hashByValue_scannable 8 (show (Value.int k tk).scannable = true from rfl)]
    refine wpAny_bind (wpAny_bind (wpAny_pure ?_))
    simp only [plainKind, ↓reduceIte]
    refine wpAny_pure ?_
    simp only [↓reduceIte]
    refine wpAny_bind (wpAny_storeSet_of ho hd ?_ (by rw [sz1, sizeLine_eq]; omega))
    have hg : (s.heap.update D (Obj.putSet es1 t1)).get? D = some { o with data := .set es1 (ep + 1) t1 } := by
      have := Heap.get?_update_self (Obj.putSet es1 t1) ho (by rw [putSet_of _ t1 hd]; rfl)
      rw [putSet_of _ t1 hd] at this
      exact this
    have sb1 := Heap.SameBut.update s.heap D (Obj.putSet es1 t1)
    have f1 : t1.fill = es.size + 1 := by rw [fill_of d1, p1]
    by_cases tf : t1.tooFull = true
    · rw [tf]
      simp only [Bool.not_false, Bool.and_self, ↓reduceIte]
      unfold tooFull at tf
      have tf2 := of_decide_eq_true tf
      rw [f1, m1] at tf2
      obtain ⟨es2, t2, eR, pm2, g2, l2, pl2⟩ := relay_good (t := t1) (es := es1) g.msk (by rw [sz1]; exact g.room) (by rw [sz1]; exact tf2) (by omega)
      rw [eR]
      dsimp only
      refine wpAny_bind (wpAny_pure ?_)
      have sz2 : es2.size = es1.size := by rw [← Array.length_toList, pm2.length_eq, Array.length_toList]
      refine wpAny_bind (wpAny_storeSet_of (s := { s with heap := s.heap.update D (Obj.putSet es1 t1) }) hg rfl ?_ (by rw [sz2, sz1, sizeLine_eq]; omega))
      have hg2 : ((s.heap.update D (Obj.putSet es1 t1)).update D (Obj.putSet es2 t2)).get? D = some { o with data := .set es2 (ep + 1 + 1) t2 } := by
        have := Heap.get?_update_self (Obj.putSet es2 t2) hg (by rw [putSet_of _ t2 rfl]; rfl)
        rw [putSet_of _ t2 rfl] at this
        exact this
      refine wpAny_pure (wpAny_pure (h true _ (sb1.trans (Heap.SameBut.update _ D _)) ⟨_, es2, ep + 1 + 1, t2, hg2, hex, rfl, hel1.perm pm2, (pm2.map _).trans hv1, by rw [sz2]; exact g2, by rw [pl2, pl1, hp], by rw [l2, l1, hled]⟩))
    · have tf' : t1.tooFull = false := by simpa using tf
      rw [tf']
      simp only [Bool.and_false, Bool.false_eq_true, ↓reduceIte]
      unfold tooFull at tf'
      have tf2 := of_decide_eq_false tf'
      rw [f1, m1] at tf2
      exact wpAny_pure (wpAny_pure (h true _ sb1 ⟨_, es1, ep + 1, t1, hg, hex, rfl, hel1, hv1, ⟨by rw [p1, sz1], d1, by rw [m1]; exact g.msk, by rw [m1, sz1]; omega, u1⟩, by rw [pl1, hp], by rw [l1, hled]⟩))
end
end SM

set_option Elab.async false
set_option maxRecDepth 100000
set_option linter.all false
set_option maxHeartbeats 4000000
namespace SM
open PySem PySem.SetTable
open PyProof.Rows (IntsAre)
/-! ### set(xs) of whole numbers, with its walk -/
section
variable {prog : Program} {w : World} {A : Around} {E : Value → Shared → Prop}
theorem IRaw.at {h h' : Heap} {D : Addr} {ns : List Int} (T : IRaw prog w h D ns) (k : ∀ o, h.get? D = some o → h'.get? D = some o) : IRaw prog w h' D ns := by
  obtain ⟨o, es, ep, t, ho, rest⟩ := T
  exact ⟨o, es, ep, t, k o ho, rest⟩
theorem IRaw.fresh {h : Heap} {D : Addr} (e : h.get? D = some { cls := .type "set", dict := none, data := .set #[] 0 (.fresh 0 0 (!(w.params.followText "set-order"))) }) : IRaw prog w h D [] :=
  ⟨_, #[], 0, _, e, ⟨rfl, rfl, rfl⟩, rfl, fun e he => by simp at he, List.Perm.refl _, ⟨rfl, rfl, .inl rfl, by show 0 * 5 < 7 * 3; decide, List.Pairwise.nil⟩, rfl, rfl⟩
end
end SM

set_option Elab.async false
set_option maxRecDepth 100000
set_option linter.all false
set_option maxHeartbeats 4000000
namespace SM
open PySem PySem.SetTable
/-! ### the iterator of a set -/
end SM

set_option Elab.async false
set_option maxRecDepth 100000
set_option linter.all false
set_option maxHeartbeats 4000000
namespace SM
open PySem PySem.SetTable
/-! ### walking a set of whole numbers -/
section
variable {prog : Program} {w : World} {A : Around} {E : Value → Shared → Prop}
def SIt (w : World) (h : Heap) (I D : Addr) (es : Array (Int × Value)) (ep : Nat) (t : SetTable) (i : Nat) : Prop :=
  ∃ oi sl, h.get? I = some oi ∧ oi.cls = .type "set_iterator" ∧ oi.data = .fields #[.int (sl : Nat) 0, .int i 0, .ref D, .int es.size 0, .int ep 0] ∧ (w.params.followText "set-order" = false → below t.place sl = i)
end
end SM

set_option Elab.async false
set_option maxRecDepth 100000
set_option linter.all false
set_option maxHeartbeats 4000000
namespace SM
open PySem PySem.SetTable
open PyProof.Rows (IntsAre)
section
variable {prog : Program} {w : World} {A : Around} {E : Value → Shared → Prop}
theorem SIt.at {h h' : Heap} {I D : Addr} {es : Array (Int × Value)} {ep i : Nat} {t : SetTable} (x : SIt w h I D es ep t i) (k : ∀ o, h.get? I = some o → h'.get? I = some o) : SIt w h' I D es ep t i := by
  obtain ⟨oi, sl, e, r⟩ := x
  exact ⟨oi, sl, k oi e, r⟩
end
end SM

set_option Elab.async false
set_option maxRecDepth 100000
set_option linter.all false
set_option maxHeartbeats 4000000
namespace L2
open PySem PySem.Spec PyProof.Rows SM
/-! ### sorted(set(xs)), xs a list of whole numbers -/
section
variable {X : Cx}
end
end L2

set_option Elab.async false
set_option maxRecDepth 100000
set_option linter.all false
set_option maxHeartbeats 4000000
namespace L2
open PySem PySem.Spec PyProof.Rows
end L2
namespace SS
open PySem L2
/-! ### priced standings: what a change would bring -/
abbrev tupQ (e : Int × Int) : HO := .tup [.int e.1, .int e.2]
/-- a priced standing at a -/
def PricedAt (H : Hp) (a : Addr) (ps : List (Int × Int)) : Prop := ∃ ts : List Addr, H a = some (.lst (ts.map V.ref)) ∧ Paired (fun t e => H t = some (tupQ e)) ts ps
theorem PricedAt.same {H H' : Hp} {a : Addr} {ps : List (Int × Int)} (p : PricedAt H a ps) (s : Same H H') : PricedAt H' a ps := by
  obtain ⟨ts, e, q⟩ := p
  exact ⟨ts, s _ _ e, Paired.mapP q fun t e z => s _ _ z⟩
def PrOk (m : Nat) (ps : List (Int × Int)) : Prop := 1 ≤ ps.length ∧ ps.length ≤ 5 ∧ ∀ e ∈ ps, 0 ≤ e.1 ∧ e.1 < m ∧ 0 ≤ e.2 ∧ e.2 ≤ 1000
theorem ints_at {l : List Int} {k : Nat} (h : k < l.length) : atI (intsV l) (k : Int) = some (.int (l.getD k 0)) := atI_nat (by simp [h])
theorem PricedAt.upd {H : Hp} {a D : Addr} {ps : List (Int × Int)} {xs : List V} {o : HO} (p : PricedAt H a ps) (hD : H D = some (.lst xs)) (n : a ≠ D) : PricedAt (upd H D o) a ps := by
  obtain ⟨ts, e, q⟩ := p
  exact ⟨ts, by rw [upd_ne n]; exact e, Paired.mapP q fun t e z => by rw [upd_ne (ne_of z hD (fun z => nomatch z))]; exact z⟩
theorem PrOk.set {m : Nat} {ps : List (Int × Int)} (h : PrOk m ps) {k : Nat} {e : Int × Int} (he : 0 ≤ e.1 ∧ e.1 < m ∧ 0 ≤ e.2 ∧ e.2 ≤ 1000) : PrOk m (ps.set k e) := by
  refine ⟨by rw [List.length_set]; exact h.1, by rw [List.length_set]; exact h.2.1, fun x hx => ?_⟩
  rcases List.mem_or_eq_of_mem_set hx with z | z
  · exact h.2.2 x z
  · rw [z]; exact he
end SS

set_option Elab.async false
set_option maxRecDepth 100000
set_option linter.all false
set_option maxHeartbeats 4000000
namespace L2
open PySem PySem.Spec PyProof.Rows
/-! ### functions that a def makes: what stands untracked, and a call of a name that holds such a function -/
/-- these objects stand: untracked, and no frames, or known to the object -/
def Cons (cs : List (Addr × Obj)) (fs : List Addr) (H : Hp) (h : Heap) : Prop := ∀ p ∈ cs, h.get? p.1 = some p.2 ∧ ((H p.1 = none ∧ p.1 ∉ fs) ∨ ∃ u, H p.1 = some (.frz p.2 u) ∧ ∀ v, p.2.data ≠ .cell v)
theorem Cons.cell {cs : List (Addr × Obj)} {fs : List Addr} {H : Hp} {h : Heap} (c : Cons cs fs H h) {p : Addr × Obj} (hp : p ∈ cs) {v : Option Value} (hd : p.2.data = .cell v) : H p.1 = none := by
  rcases (c p hp).2 with ⟨n, _⟩ | ⟨u, _, d⟩
  · exact n
  · exact absurd hd (d v)
section
variable {X : Cx} {pins : List (Addr × Obj)} {σ : St} {H : Hp} {s : Shared} {cs : List (Addr × Obj)}
/-- what stood at the entry stands -/
theorem Inv.cons (I : Inv X pins σ H s) (hx : X.ex = []) (c : Cons cs X.fs X.H_0 X.s_0.heap) : Cons cs (frs X.stack) H s.heap := fun p hp => by
  obtain ⟨e, d⟩ := c p hp
  have nx : p.1 ∉ X.ex := by rw [hx]; simp
  rcases d with ⟨n, nf⟩ | ⟨u, q, d⟩
  · refine ⟨I.base.keep _ _ e n nf nx, .inl ⟨I.base.free _ _ e n nx, fun z => ?_⟩⟩
    rcases List.mem_cons.mp (I.stkSub _ z) with q | q
    · have h2 := Heap.lt_size e
      rw [q] at h2
      exact absurd h2 (Nat.not_lt.mpr I.ok.above)
    · exact nf q
  · have q2 := I.base.frzs _ _ _ q
    exact ⟨(I.hok _ _ q2).1, .inr ⟨u, q2, d⟩⟩
end
/-- the promise of a function that is made while a law runs: it holds wherever its own objects (cs) stand -/
structure FnOkC (P : Program) (w : World) (K : PySem.W.Frag) (mg : Str → Option Value) (base : Heap) (k : Nat) (cs : List (Addr × Obj)) (f : Addr) (sp : Sp) : Prop where
  fn : ∃ o fd, (f, o) ∈ cs ∧ o.data = .func fd
  run : ∀ (A : Around) (outer : List Env) (s : Shared) (H : Hp) (us : List Value) (vs : List V) (Q : VK) (E : XK), Room k A → Env0 P w K mg base A outer s H → Cons cs (frs outer) H s.heap → Vals vs us → sp vs H Q E →
    codeAny (model P w) A (.call (.ref f) ⟨us, []⟩) (CR CX0 outer P w H s Q E) s
section
variable {X : Cx} {k i : Nat} {cs : List (Addr × Obj)} {f : Addr} {sp : Sp} {x : Str} {e : Expr} {es : List Expr} {t : TA} {p pos : Pos}
end
end L2

set_option Elab.async false
set_option maxRecDepth 100000
set_option linter.all false
set_option maxHeartbeats 4000000
namespace L2
open PySem PySem.Spec PyProof.Rows
/-! ### the promise of a lambda, by its body -/
/-- the context of a lambda's body -/
def cxLam (P : Program) (w : World) (K : PySem.W.Frag) (mg : Str → Option Value) (base : Heap) (N : List Str) (qual : Str) (scope : Scope) (f c' : Addr) (clos : List (Str × Addr)) (A : Around) (outer : List Env) (s : Shared) (H : Hp) : Cx where
  prog := P
  w := w
  K := K
  mg := mg
  base := base
  A := A.deeper (PySem.W.envX qual scope s.heap.objs.size f (.ref c') clos)
  N := N
  s_0 := s
  H_0 := H
  env := PySem.W.envX qual scope s.heap.objs.size f (.ref c') clos
  outer := outer
  stack := PySem.W.envX qual scope s.heap.objs.size f (.ref c') clos :: outer
  ex := []
  calm := true
  fn := fun _ => false
  pn := []
  xe := fun _ _ => False
structure LamScope (N ps : List Str) (scope : Scope) (clos : List (Str × Addr)) : Prop where
  kind : scope.kind = .function
  co : scope.isCoroutine = false
  gen : scope.isGenerator = false
  nd : N.Nodup
  eq : N = ps ++ clos.map (·.1)
  par : ∀ x ∈ ps, scope.names.lookup x = some .local
  cap : ∀ x ∈ clos.map (·.1), scope.names.lookup x = some .free
  nocell : ∀ x ∈ scope.names, x.2 ≠ .cell
  all : ∀ x, scope.names.lookup x = some .free → x ∈ clos.map (·.1)
theorem lookup_at {β : Type} {clos : List (Str × β)} (nd : (clos.map (·.1)).Nodup) {j : Nat} {x : Str} {c : β} (h : clos[j]? = some (x, c)) : clos.lookup x = some c := by
  induction clos generalizing j with
  | nil => simp at h
  | cons p r ih =>
    obtain ⟨y, d⟩ := p
    cases j with
    | zero => simp at h; obtain ⟨rfl, rfl⟩ := h; simp
    | succ j =>
      simp only [List.getElem?_cons_succ] at h
      have nd' := List.nodup_cons.mp nd
      have hx : x ∈ r.map (·.1) := List.mem_map.mpr ⟨_, List.mem_of_getElem? h, rfl⟩
      have ne : (x == y) = false := by
        rw [beq_eq_false_iff_ne]
        intro e
        subst e
        exact nd'.1 hx
      rw [List.lookup_cons, ne]
      exact ih nd'.2 h
theorem lookup_mem {clos : List (Str × Addr)} {x : Str} {c : Addr} (h : clos.lookup x = some c) : ∃ j : Nat, clos[j]? = some (x, c) := by
  have := PySem.mem_of_lookup h
  exact List.mem_iff_getElem?.mp this
theorem zip_last {β : Type} {ps : List Str} {us : List β} (nd : ps.Nodup) {i : Nat} {y : Str} {u : β} (h : ps[i]? = some y) (hu : us[i]? = some u) : (ps.zip us).reverse.lookup y = some u := by
  have hm : (y, u) ∈ (ps.zip us).reverse := by
    rw [List.mem_reverse]
    exact List.mem_iff_getElem?.mpr ⟨i, by rw [List.getElem?_zip_eq_some]; exact ⟨h, hu⟩⟩
  obtain ⟨j, hj⟩ := List.mem_iff_getElem?.mp hm
  refine lookup_at ?_ hj
  rw [List.map_reverse]
  refine (List.Perm.nodup_iff (List.reverse_perm _)).mpr (List.Nodup.sublist ?_ nd)
  clear hm hj h hu nd
  induction ps generalizing us with
  | nil => simp
  | cons p r ih =>
    cases us with
    | nil => simp
    | cons a q => simpa using ih (us := q)
theorem lam_ok {P : Program} {w : World} {K : PySem.W.Frag} {mg : Str → Option Value} {base : Heap} {k : Nat} {cs : List (Addr × Obj)} {f c' : Addr} {qual : Str} {params : Arguments} {body : Expr} {scope : Scope} {clos : List (Str × Addr)} {pm ctv : Value} {N ps : List Str} {capV : List V} {sp : Sp}
    (hf : (f, PySem.W.kla_obj "<lambda>" qual params body scope clos pm c' ctv) ∈ cs) (hcd : ∃ oc vs t, (c', oc) ∈ cs ∧ oc.data = .fields vs ∧ vs[1]? = some (.str qual t)) (S : LamScope N ps scope clos)
    (hap : ∀ (i j : Nat) (x y : Str) (c : Addr), clos[i]? = some (x, c) → clos[j]? = some (y, c) → i = j) (hl : capV.length = clos.length)
    (hcap : ∀ (j : Nat) (x : Str) (c : Addr) (v : V), clos[j]? = some (x, c) → capV[j]? = some v → ∃ o u, (c, o) ∈ cs ∧ o.data = .cell (some u) ∧ RelV v u)
    (hbind : ∀ us : List Value, us.length = ps.length → bindArgs (PySem.W.kla_fn "<lambda>" qual params body scope clos pm (.ref c') ctv) ⟨us, []⟩ = pure (ps.zip us)) (len : ∀ vs H Q E, sp vs H Q E → vs.length = ps.length)
    (hbody : ∀ (A : Around) (outer : List Env) (s : Shared) (H : Hp) (vs : List V) (Q : VK) (E : XK), Room k (A.deeper (PySem.W.envX qual scope s.heap.objs.size f (.ref c') clos)) → sp vs H Q E →
      ∃ t, PE (cxLam P w K mg base N qual scope f c' clos A outer s H) body t ∧ t (vs.map some ++ capV.map some) H Q) : FnOkC P w K mg base (k + 1) cs f sp := by
  refine ⟨⟨_, _, hf, rfl⟩, fun A outer s H us vs Q E hr e0 hc r hsp => ?_⟩
  have hlv := len _ _ _ _ hsp
  have hlu : us.length = ps.length := by rw [← r.length]; exact hlv
  obtain ⟨oc, vs', tq, hcm, hcdd, hcq⟩ := hcd
  have lim : s.heap.NoLimit := e0.mod.nolimit.keeps fun b o e => (e0.bs b o e).1
  have ndc : (clos.map (·.1)).Nodup := by
    have := S.nd
    rw [S.eq] at this
    exact (List.nodup_append.mp this).2.1
  have cellAt : ∀ {j : Nat} {x : Str} {c : Addr}, clos[j]? = some (x, c) → ∃ v o u, capV[j]? = some v ∧ (c, o) ∈ cs ∧ o.data = .cell (some u) ∧ RelV v u := fun {j x c} h => by
    have hj : j < capV.length := by rw [hl]; exact (List.getElem?_eq_some_iff.mp h).1
    obtain ⟨o, u, h1, h2, h3⟩ := hcap j x c capV[j] h (List.getElem?_eq_getElem hj)
    exact ⟨_, o, u, List.getElem?_eq_getElem hj, h1, h2, h3⟩
  refine PySem.W.kla_callFunE hr.depth (hc _ hf).1 rfl S.co S.gen rfl ⟨c', oc, vs', tq, rfl, (hc _ hcm).1, hcdd, hcq⟩ ?_
  rw [hbind us hlu]
  refine wpAny_pure (wpAny_newFunctionEnv S.nocell (fun x hx => S.par _ (List.of_mem_zip hx).1) (fun h₁ hns hsb => ⟨?_, ?_⟩) S.kind)
  · exact lim.keeps fun b o e => hsb.extBut b o (Nat.ne_of_lt (Heap.lt_size e)) (Heap.get?_push_of_some _ e)
  have hk₁ : ∀ b o, s.heap.get? b = some o → h₁.get? b = some o := fun b o e => hsb.extBut b o (Nat.ne_of_lt (Heap.lt_size e)) (Heap.get?_push_of_some _ e)
  obtain ⟨t, ht, hq⟩ := hbody A outer s H vs Q E (hr.deeper _) hsp
  have I : Inv (cxLam P w K mg base N qual scope f c' clos A outer s H) [] (vs.map some ++ capV.map some) H { s with heap := h₁, toks := s.toks + (ps.zip us).length } := by
    have noA : ∀ b : Addr, b ∉ (cxLam P w K mg base N qual scope f c' clos A outer s H).ex := fun b z => absurd (show b ∈ ([] : List Addr) from z) (by simp)
    refine ⟨⟨e0.mod, S.kind, rfl, rfl, Nat.le_refl _, fun y z c h1 h2 => ?_, fun y hy => ?_, fun y c h _ => absurd h (by show ¬ (false = true); simp), fun _ => hr.hd, Around.frames_deeper e0.frames, .inr ⟨rfl, rfl⟩, fun b z => absurd z (noA b), e0.bs, e0.bsz, fun b _ _ => noA b, fun b z => absurd z (noA b), e0.funs, e0.frf⟩,
      rfl, e0.bare, Un.kept hk₁, ⟨_, hns, fun i y v h1 h2 h3 => ?_⟩, fun y c h => ?_, e0.hok.fresh (Nat.le_refl _), fun y c h => ?_, fun p hp => absurd (show p ∈ ([] : List (Addr × Obj)) from hp) (by simp), e0.hok.kept hk₁, ?_⟩
    · obtain ⟨i, hi⟩ := lookup_mem h1
      obtain ⟨j, hj⟩ := lookup_mem h2
      have := hap i j y z c hi hj
      subst this
      rw [hi] at hj
      cases hj
      rfl
    · have hy : scope.names.lookup y = some .cell ∨ scope.names.lookup y = some .free := hy
      rcases hy with hy | hy
      · exact absurd rfl (S.nocell _ (PySem.mem_of_lookup hy))
      · obtain ⟨p, hp, rfl⟩ := List.mem_map.mp (S.all y hy)
        obtain ⟨j, hj⟩ := List.mem_iff_getElem?.mp hp
        exact ⟨p.2, lookup_at ndc (j := j) hj⟩
    · have h1 : N[i]? = some y := h1
      rw [S.eq] at h1
      have nd0 := S.nd
      rw [S.eq] at nd0
      by_cases hi : i < ps.length
      · rw [List.getElem?_append_left hi] at h1
        have hi' : i < (vs.map some).length := by rw [List.length_map, hlv]; exact hi
        rw [List.getElem?_append_left hi', List.getElem?_map] at h2
        have hv : vs[i]? = some v := by
          cases e : vs[i]? with
          | none => rw [e] at h2; cases h2
          | some z => rw [e] at h2; cases h2; rfl
        obtain ⟨u, hu, ru⟩ := r.get hv
        refine ⟨u, ru, .inl ⟨S.par _ (List.mem_of_getElem? h1), ?_⟩⟩
        refine zip_last (List.nodup_append.mp nd0).1 h1 hu
      · have hi := Nat.not_lt.mp hi
        rw [List.getElem?_append_right hi, List.getElem?_map] at h1
        rw [List.getElem?_append_right (by rw [List.length_map, hlv]; exact hi), List.getElem?_map, List.length_map, hlv] at h2
        cases e : clos[i - ps.length]? with
        | none => rw [e] at h1; cases h1
        | some z =>
          obtain ⟨z, c⟩ := z
          rw [e] at h1
          cases h1
          have hv : capV[i - ps.length]? = some v := by
            cases e : capV[i - ps.length]? with
            | none => rw [e] at h2; cases h2
            | some z => rw [e] at h2; cases h2; rfl
          obtain ⟨o, u, hm, hd, ru⟩ := hcap _ _ _ _ e hv
          exact ⟨u, ru, .inr ⟨.inr (S.cap _ (List.mem_map.mpr ⟨_, List.mem_of_getElem? e, rfl⟩)), c, lookup_at ndc e, o, hk₁ _ _ (hc _ hm).1, hd⟩⟩
    · obtain ⟨j, hj⟩ := lookup_mem h
      obtain ⟨v, o, u, _, hm, hd, _⟩ := cellAt hj
      exact ⟨some u, o, hk₁ _ _ (hc _ hm).1, hd⟩
    · obtain ⟨j, hj⟩ := lookup_mem h
      obtain ⟨v, o, u, _, hm, hd, _⟩ := cellAt hj
      exact hc.cell hm hd
    · show _ = N.length
      rw [S.eq, List.length_append, List.length_append, List.length_map, List.length_map, List.length_map, hlv, hl]
  refine PySem.W.kla_codeExpr (wpAny_mono (ht [] _ _ H _ I hq) (fun v s' h' => ?_) fun e s' h' => False.elim h')
  obtain ⟨x, H', J, rx, q⟩ := h'
  exact ⟨x, H', J.os, J.bare, J.base, J.hok, rx, q⟩
end L2

set_option Elab.async false
set_option maxRecDepth 100000
set_option linter.all false
set_option maxHeartbeats 4000000
namespace L2
open PySem PySem.Spec PyProof.Rows
/-! ### a lambda is made -/
def BMod (mg : Str → Option Value) (h : Heap) : Prop := ∃ bm ob, mg "__builtins__" = some (.ref bm) ∧ bm ≠ builtinsNs ∧ h.get? bm = some ob ∧ ob.cls = .type "module" ∧ ob.dict = some builtinsNs ∧ ob.data = .plain
/-- the code of the lambda at pos is in the table at P -/
def TabHas (H : Hp) (P : Addr) (pos : Pos) (ql : Str) : Prop := ∃ c' oc vs t u, H P = some (.tbl #[rawInt pos.line, rawInt pos.col, .ref c']) ∧ H c' = some (.frz oc u) ∧ oc.data = .fields vs ∧ vs[1]? = some (.str ql t)
/-- the table at P is empty, or holds the code of the one lambda at pos -/
def TabOk (H : Hp) (P : Addr) (pos : Pos) (ql : Str) : Prop := H P = some (.tbl #[]) ∨ TabHas H P pos ql
/-- all that was stays, but the table -/
def SameP (P : Addr) (H H' : Hp) : Prop := ∀ b o, b ≠ P → H b = some o → H' b = some o
theorem SameP.rfl {P : Addr} {H : Hp} : SameP P H H := fun _ _ _ e => e
theorem SameP.trans {P : Addr} {H H1 H2 : Hp} (a : SameP P H H1) (b : SameP P H1 H2) : SameP P H H2 := fun c o n e => b c o n (a c o n e)
abbrev lamO (qual : Str) (params : Arguments) (body : Expr) (sc : Scope) (clos : List (Str × Addr)) (mg : Str → Option Value) (c' : Addr) (ctv : Value) : Obj :=
  PySem.W.kla_obj "<lambda>" qual params body sc clos ((mg "__name__").getD .none) c' ctv
section
variable {X : Cx} {pins : List (Addr × Obj)} {σ : St} {H : Hp} {s : Shared} {c P : Addr} {params : Arguments} {body : Expr} {sc : Scope} {pos : Pos} {clos : List (Str × Addr)} {Q : Value → Shared → Prop} {E : Value → Shared → Prop}
theorem Inv.pinNew {f : Addr} {o : Obj} (I : Inv X pins σ H s) {h : Heap} {H' : Hp} {t : Nat} (I' : Inv X pins σ H' { s with heap := h, toks := t }) (hf : h.get? f = some o) (hn : H' f = none) (hs : s.heap.objs.size ≤ f) (hd : ∀ v, o.data ≠ .cell v) :
    Inv X ((f, o) :: pins) σ H' { s with heap := h, toks := t } := by
  refine I'.pins_of fun p hp => ?_
  rcases List.mem_cons.mp hp with rfl | hp
  · refine ⟨hf, hn, fun z => ?_, fun z => ?_, hd⟩
    · obtain ⟨m, ⟨ob, _, _, ho, _⟩, _⟩ := I.loc
      have := Heap.lt_size ho
      rw [← z] at this
      exact absurd this (Nat.not_lt.mpr hs)
    · obtain ⟨_, ob, ho, _⟩ := I.ok.funs.mem z
      by_cases hx : f ∈ X.ex
      · exact I.ok.exfs _ hx z
      obtain ⟨o', e'⟩ := I.base.there _ _ ho hx
      exact absurd (Heap.lt_size e') (Nat.not_lt.mpr hs)
  · exact I'.pin p (List.mem_append_right _ hp)
theorem lam_new (I : Inv X pins σ H s) (hB : BMod X.mg X.base) (hC : PySem.W.CodeHd X.base c P) (hcode : X.env.code = .ref c) (hT : TabOk H P pos (X.env.qual ++ "<lambda>")) (hcl : closureFor sc X.env = pure clos)
    (hdef : defaultsOf params X.env = ([], []))
    (h : ∀ f c' ctv oc vs t u H' s', Inv X ((f, lamO (X.env.qual ++ "<lambda>") params body sc clos X.mg c' ctv) :: pins) σ H' s' → H' P = some (.tbl #[rawInt pos.line, rawInt pos.col, .ref c']) → H' c' = some (.frz oc u) → oc.data = .fields vs →
      vs[1]? = some (.str (X.env.qual ++ "<lambda>") t) → SameP P H H' → Q (.ref f) s') :
    wpAny (model X.prog X.w) X.A (eval (.Lambda params body sc pos) X.env) Q E s := by
  have hg := I.mod.glob.keeps I.bk
  have hCs := hC.keeps I.bk
  obtain ⟨bm, ob, b1, b2, b3, b4, b5, b6⟩ := hB
  have hgP : ∀ {ps : Array Value}, s.heap.get? P = some (PySem.W.tabObj ps) → mainGlobals ≠ P := fun {ps} hP z => by
    obtain ⟨o, es, ep, e, hd, _⟩ := hg
    rw [z, hP] at e
    cases e
    cases hd
  have hb : ∀ {ps : Array Value}, s.heap.get? P = some (PySem.W.tabObj ps) → s.heap.BuiltinsAt X.mg P := fun {ps} hP => by
    refine ⟨bm, ob, b1, b2, fun z => ?_, fun z => ?_, I.bk _ _ b3, b4, b5, b6⟩
    · obtain ⟨o, es, ep, e, hd, _⟩ := hg
      rw [← z, I.bk _ _ b3] at e
      cases e
      rw [b6] at hd
      cases hd
    · have e := I.bk _ _ b3
      rw [z, hP] at e
      cases e
      cases b4
  refine PySem.W.kla_eval hdef ?_
  rcases hT with hT | ⟨c', oc, vs, t, u, hT, hcc, hd, hv⟩
  · have hP : s.heap.get? P = some (PySem.W.tabObj #[]) := I.hok _ _ hT
    refine PySem.W.kla_makeFunction (mg := X.mg) hcl I.ok.glob hg hcode hCs hP trivial rfl (hgP hP) (hb hP) fun c' ctv h' tk hx hge hlt hrec htb => ?_
    obtain ⟨c₂, oc, vs, t, e2, hoc, hd, hv⟩ := hrec
    cases e2
    have hn : H c' = none := I.hok.fresh hge
    have hPc : P ≠ c' := ne_of_none hT hn
    have hk : ∀ b o, b ≠ P → s.heap.get? b = some o → (h'.push (lamO (X.env.qual ++ "<lambda>") params body sc clos X.mg c' ctv)).get? b = some o := fun b o n e => Heap.get?_push_of_some _ (hx b o n e)
    have nP : ∀ b, H b = none → b ≠ P := fun b n z => by rw [z, hT] at n; cases n
    have hP' : (h'.push (lamO (X.env.qual ++ "<lambda>") params body sc clos X.mg c' ctv)).get? P = some (PySem.W.tabObj #[rawInt pos.line, rawInt pos.col, .ref c']) := Heap.get?_push_of_some _ htb
    have hoc' : (h'.push (lamO (X.env.qual ++ "<lambda>") params body sc clos X.mg c' ctv)).get? c' = some oc := Heap.get?_push_of_some _ hoc
    have eH : ∀ b o, b ≠ P → H b = some o → upd (upd H c' (.frz oc (.ext fun h => h.get? c' = some oc))) P (.tbl #[rawInt pos.line, rawInt pos.col, .ref c']) b = some o := fun b o n e => by
      rw [upd_ne n, upd_ne (ne_of_none e hn)]; exact e
    have nf : upd (upd H c' (.frz oc (.ext fun h => h.get? c' = some oc))) P (.tbl #[rawInt pos.line, rawInt pos.col, .ref c']) h'.objs.size = none := by
      have z1 : s.heap.objs.size ≤ h'.objs.size := Nat.le_of_lt (Nat.lt_of_le_of_lt hge hlt)
      have n1 := I.hok.fresh z1
      rw [upd_ne (nP _ n1), upd_ne (Nat.ne_of_gt hlt)]
      exact n1
    have I' : Inv X pins σ (upd (upd H c' (.frz oc (.ext fun h => h.get? c' = some oc))) P (.tbl #[rawInt pos.line, rawInt pos.col, .ref c'])) { s with heap := h'.push (lamO (X.env.qual ++ "<lambda>") params body sc clos X.mg c' ctv), toks := tk } := by
      refine I.step (ch := []) (fun _ z => nomatch z) (fun b o _ _ _ e n => hk b o (nP b n) e) (fun b o _ _ _ e n => ⟨o.slots, hk b o (nP b n) e⟩) (fun b o _ e n => ?_) (fun b o _ e => ?_) (fun b xs q => eH b _ (fun z => by rw [z, hT] at q; cases q) q) (fun b o' u' q => eH b _ (fun z => by rw [z, hT] at q; cases q) q) (fun b ps q => ?_) (fun m hm => ?_) (fun b o e => ?_) I.bare
      · rw [upd_ne (nP b n), upd_ne (Nat.ne_of_lt (Nat.lt_of_lt_of_le (Heap.lt_size e) hge))]
        exact n
      · by_cases hbP : b = P
        · exact ⟨_, hbP ▸ hP'⟩
        · exact ⟨o, hk b o hbP e⟩
      · by_cases hbP : b = P
        · rw [hbP] at q ⊢
          rw [hT] at q
          cases q
          exact ⟨#[rawInt pos.line, rawInt pos.col, .ref c'], by rw [upd_same]; simp⟩
        · exact ⟨#[], by rw [eH b _ hbP q]; simp⟩
      · obtain ⟨o, es, ep, e, d, r⟩ := hm
        refine ⟨o, es, ep, hk _ _ (fun z => ?_) e, d, r⟩
        rw [z, hP] at e
        cases e
        cases d
      · by_cases hbP : b = P
        · rw [hbP, upd_same] at e
          cases e
          rw [hbP]
          exact hP'
        · rw [upd_ne hbP] at e
          by_cases hbc : b = c'
          · rw [hbc, upd_same] at e
            cases e
            rw [hbc]
            exact ⟨hoc', hoc', ⟨_, hoc'⟩, fun h1 h2 p k => k _ p⟩
          · rw [upd_ne hbc] at e
            refine (I.hok b o e).stay (fun d v hd q => hk d v (fun z => ?_) q) (fun d q => eH d _ (fun z => by rw [z, hT] at q; cases q) q) fun d xs q => eH d _ (fun z => by rw [z, hT] at q; cases q) q
            rcases hd with hd | hd
            · exact hbP (hd.symm.trans z)
            · rw [z, hT] at hd; cases hd
    exact h _ c' ctv oc vs t _ _ _ (I.pinNew I' (Heap.get?_push_size _ rfl) nf (Nat.le_of_lt (Nat.lt_of_le_of_lt hge hlt)) fun v z => by cases z) (by rw [upd_same]) (by rw [upd_ne hPc.symm, upd_same]) hd hv fun b o n e => eH b o n e
  · have hP : s.heap.get? P = some (PySem.W.tabObj #[rawInt pos.line, rawInt pos.col, .ref c']) := I.hok _ _ hT
    refine PySem.W.kla_makeFunctionHit (mg := X.mg) (cv := .ref c') hcl I.ok.glob hg hcode hCs hP trivial (by simp [codeAmong, rawInt]) (hb hP) fun ctv h' tk hk hsz => ?_
    have hk' : ∀ b o, s.heap.get? b = some o → (h'.push (lamO (X.env.qual ++ "<lambda>") params body sc clos X.mg c' ctv)).get? b = some o := fun b o e => Heap.get?_push_of_some _ (hk b o e)
    have I' : Inv X pins σ H { s with heap := h'.push (lamO (X.env.qual ++ "<lambda>") params body sc clos X.mg c' ctv), toks := tk } := I.un (Un.kept hk') (I.hok.kept hk')
    exact h _ c' ctv oc vs t _ _ _ (I.pinNew I' (Heap.get?_push_size _ rfl) (I.hok.fresh hsz) hsz fun v z => by cases z) hT hcc hd hv SameP.rfl
end
end L2

set_option Elab.async false
set_option maxRecDepth 100000
set_option linter.all false
set_option maxHeartbeats 4000000
namespace L2
open PySem PySem.Spec PyProof.Rows
/-! ### the head of a law, with the tables of the defs in which lambdas are made -/
theorem law_callT {P : Program} {w : World} {K : PySem.W.Frag} {mg mb : Str → Option Value} {CX : CXT} {k : Nat} {fa a : Addr} {fd : FuncData} {x : Str} {sp : Sp} {s₁ : Shared} {vs : List Value} {ns : List Int} {tabs : List (Addr × Addr)}
    (hT : PySem.W.TabsAt tabs s₁.heap) (hKt : ∀ q ∈ tabs, K.lookup q.2 = none) (hBM : BMod mg s₁.heap)
    (KX : K.In s₁.heap) (hns : s₁.heap.Ns mainGlobals mg) (hb : s₁.heap.Ns builtinsNs mb) (hbb : ∀ x : Str, x ≠ "__name__" → mb x = bootBuiltins x) (hlim : s₁.heap.NoLimit) (hg : s₁.gens = #[])
    (ha : s₁.heap.get? a = some { cls := .type "list", data := .seq vs.toArray }) (hi : IntsAre vs ns) (hl : ns.length ≤ sizeLine) (hr : Room k callerA)
    (F : ∀ base : Heap, K.In base → base.Ns mainGlobals mg → BMod mg base → (∀ q ∈ tabs, PySem.W.CodeHd base q.1 q.2) → FnOk P w K mg base CX k fa fd [x] sp) (hbind : ∀ (s : Shared) (u : Value), BindsTo s fd ⟨[u], []⟩ [(x, u)])
    (hsp : ∀ H : Hp, (∀ q ∈ tabs, H q.2 = some (.tbl #[])) → SqL K H a (ns.map V.int) → sp [.ref a] H (fun v _ => v = .bl true) fun _ _ _ => False)
    (hCX : ∀ H e s', CX [] H s₁ (fun _ _ _ => False) e s' → False) :
    codeAny (model P w) callerA (.call (.ref fa) ⟨[.ref a], []⟩) (fun r s' => r = .ok (.ret (.bool true)) ∧ OldK s₁.heap s'.heap ∧ s'.os = s₁.os ∧ AllBare s'.gens) s₁ := by
  have rv := vals_ints hi
  have lenV := hi.length
  have naT : ∀ b, b ∈ tabs.map (·.2) → s₁.heap.get? b = some (PySem.W.tabObj #[]) := fun b hb => by
    obtain ⟨q, hq, rfl⟩ := List.mem_map.mp hb
    exact (hT q hq).2
  have core : ∀ H : Hp, (∀ q ∈ tabs, H q.2 = some (.tbl #[])) → (∀ b, b ∉ tabs.map (·.2) → H b = none ∨ ∃ o xs, H b = some (.frz o (.lst xs))) → SqL K H a (ns.map V.int) → HOk P w H s₁.heap → (∀ b, H b ≠ none → b = a ∨ b ∈ tabs.map (·.2)) → (H a ≠ none → K.lookup a = none) →
      codeAny (model P w) callerA (.call (.ref fa) ⟨[.ref a], []⟩) (fun r s' => r = .ok (.ret (.bool true)) ∧ OldK s₁.heap s'.heap ∧ s'.os = s₁.os ∧ AllBare s'.gens) s₁ := by
    intro H hTH hO hS hok hA hK
    have base_of : ∀ {b : Addr} {o : Obj}, s₁.heap.get? b = some o → H b = none → (hidT s₁.heap H).get? b = some o := fun e n => hidT_get e n
    have un1 : ∀ {b : Addr} {o : Obj}, s₁.heap.get? b = some o → o.cls ≠ .none → (∀ ys n, o.data ≠ .seq ys n) → H b = none := fun {b o} e d1 d2 => by
      cases q : H b with
      | none => rfl
      | some u =>
        rcases hA b (by rw [q]; simp) with e' | e'
        · subst e'
          rw [ha] at e; cases e
          exact absurd rfl (d2 _ _)
        · rw [naT b e'] at e; cases e
          exact absurd rfl d1
    have noA : ∀ {b : Addr} {o : Obj} {es : Array DictEntry} {ep : Nat}, s₁.heap.get? b = some o → o.data = .dict es ep → H b = none := fun {b o es ep} e d => by
      cases q : H b with
      | none => rfl
      | some u =>
        rcases hA b (by rw [q]; simp) with e' | e'
        · subst e'
          rw [ha] at e; cases e
          have d' : Data.seq vs.toArray _ = Data.dict es ep := d
          cases d'
        · rw [naT b e'] at e; cases e
          have d' : Data.fields #[] = Data.dict es ep := d
          cases d'
    have nsK : ∀ {b : Addr} {m : Str → Option Value}, s₁.heap.Ns b m → (hidT s₁.heap H).Ns b m := fun {b m} ⟨o, es, ep, e, d, r⟩ => ⟨o, es, ep, base_of e (noA e d), d, r⟩
    have hKb : K.In (hidT s₁.heap H) := fun b o e => base_of (KX b o e) (by
      cases q : H b with
      | none => rfl
      | some u =>
        rcases hA b (by rw [q]; simp) with e' | e'
        · subst e'
          rw [hK (by rw [q]; simp)] at e; cases e
        · obtain ⟨r, hr, rfl⟩ := List.mem_map.mp e'
          rw [hKt r hr] at e; cases e)
    have hM : Mod K mg (hidT s₁.heap H) := ⟨hKb, nsK hns, ⟨mb, nsK hb, hbb⟩, let ⟨mc, h1, h2⟩ := hlim; ⟨mc, nsK h1, h2⟩⟩
    have e0 : Env0 P w K mg (hidT s₁.heap H) callerA [] s₁ H := ⟨rfl, hM, fun b o e => of_hidT e, Nat.le_of_eq (hidT_size _ _), trivial, fun b hb => absurd (show b ∈ ([] : List Addr) from hb) (by simp), hok, .of_eq hg⟩
    have hBMb : BMod mg (hidT s₁.heap H) := by
      obtain ⟨bm, ob, b1, b2, b3, b4, b5, b6⟩ := hBM
      exact ⟨bm, ob, b1, b2, base_of b3 (un1 b3 (by rw [b4]; nofun) (by rw [b6]; nofun)), b4, b5, b6⟩
    have hCD : ∀ q ∈ tabs, PySem.W.CodeHd (hidT s₁.heap H) q.1 q.2 := fun q hq => by
      obtain ⟨o, vs', file, tf, flags, tg, inF, text, tt, e1, e2, e3, r⟩ := (hT q hq).1
      exact ⟨o, vs', file, tf, flags, tg, inF, text, tt, base_of e1 (un1 e1 (by rw [e2]; nofun) (by rw [e3]; nofun)), e2, e3, r⟩
    refine codeAny_mono ((F _ hKb (nsK hns) hBMb hCD).run callerA [] s₁ H ⟨[.ref a], []⟩ [.ref a] [.ref a] _ _ hr e0 (hbind s₁ (.ref a)) (.cons rfl .nil) (hsp H hTH hS)) fun r s' h => ?_
    cases r with
    | error e => exact (hCX H e s' h).elim
    | ok fl =>
      cases fl with
      | next => exact False.elim h
      | brk => exact False.elim h
      | cont => exact False.elim h
      | ret u =>
        obtain ⟨v, H', os, bare, un, hok', r', q⟩ := h
        have q' : v = .bl true := q
        subst q'
        obtain rfl : u = Value.bool true := r'
        have kept : ∀ b o, b ∉ tabs.map (·.2) → s₁.heap.get? b = some o → s'.heap.get? b = some o := fun b o hb e => by
          rcases hO b hb with q | ⟨ob, xs, z⟩
          · exact un.keep b o e q (by intro z; exact absurd (show b ∈ ([] : List Addr) from z) (by simp)) (by simp)
          · have z2 := un.frzs b ob _ z
            obtain ⟨e1, _⟩ := hok b _ z
            obtain ⟨e2, _⟩ := hok' b _ z2
            rw [e] at e1; cases e1
            exact e2
        have grown : ∀ b o, b ∈ tabs.map (·.2) → s₁.heap.get? b = some o → isCodeTable s₁.heap b ∧ o = PySem.W.tabObj #[] ∧ ∃ ps, s'.heap.get? b = some (PySem.W.tabObj ps) := fun b o hb e => by
          obtain ⟨q, hq, rfl⟩ := List.mem_map.mp hb
          have e2 := (hT q hq).2
          rw [e] at e2
          obtain ⟨more, z⟩ := un.tbls _ _ (hTH q hq)
          exact ⟨((hT q hq).1.tab (hT q hq).2).isCodeTable, Option.some.inj e2, _, hok' _ _ z⟩
        refine ⟨rfl, ⟨fun b o e => ?_, fun b o e => ?_⟩, os, bare⟩
        · by_cases hb : b ∈ tabs.map (·.2)
          · obtain ⟨ht, rfl, ps, hP⟩ := grown b o hb e
            exact .inr (.inl ⟨ht, rfl, #[], ps, rfl, by rw [Array.empty_append]; exact hP⟩)
          · exact .inl (kept b o hb e)
        · by_cases hb : b ∈ tabs.map (·.2)
          · obtain ⟨_, _, ps, hP⟩ := grown b o hb e
            exact ⟨_, hP⟩
          · exact ⟨o, kept b o hb e⟩
  have aT : a ∉ tabs.map (·.2) := fun z => by
    have := naT a z
    rw [ha] at this
    cases this
  cases hk : K.lookup a with
  | some o =>
    have e := KX a o hk
    rw [ha] at e
    cases e
    refine core (fun b => if b ∈ tabs.map (·.2) then some (.tbl #[]) else none) (fun q hq => if_pos (List.mem_map.mpr ⟨q, hq, rfl⟩)) (fun b hb => .inl (if_neg hb)) (.inr ⟨_, vs.toArray, _, hk, rfl, rfl, rfl, by rw [List.size_toArray, lenV]; exact hl, by simpa using rv⟩) (fun b u z => ?_) (fun b z => ?_) fun z => absurd (if_neg aT) z
    · by_cases hb : b ∈ tabs.map (·.2)
      · have z' := (if_pos hb).symm.trans z
        cases z'
        exact naT b hb
      · have z' := (if_neg hb).symm.trans z
        cases z'
    · by_cases hb : b ∈ tabs.map (·.2)
      · exact .inr hb
      · exact absurd (if_neg hb) z
  | none =>
    have hH : ∀ b, b ∉ tabs.map (·.2) → (if b ∈ tabs.map (·.2) then some (HO.tbl #[]) else if b = a then some (.frz { cls := .type "list", data := .seq vs.toArray } (.lst (ns.map V.int))) else none) = if b = a then some (.frz { cls := .type "list", data := .seq vs.toArray } (.lst (ns.map V.int))) else none := fun b hb => if_neg hb
    refine core (fun b => if b ∈ tabs.map (·.2) then some (.tbl #[]) else if b = a then some (.frz { cls := .type "list", data := .seq vs.toArray } (.lst (ns.map V.int))) else none) (fun q hq => if_pos (List.mem_map.mpr ⟨q, hq, rfl⟩)) (fun b hb => ?_) (.inl (.inr ⟨{ cls := .type "list", data := .seq vs.toArray }, (hH a aT).trans (if_pos rfl)⟩)) (fun b u z => ?_) (fun b z => ?_) fun _ => hk
    · by_cases hba : b = a
      · exact .inr ⟨_, _, (hH b hb).trans (if_pos hba)⟩
      · exact .inl ((hH b hb).trans (if_neg hba))
    · by_cases hb : b ∈ tabs.map (·.2)
      · have z' := (if_pos hb).symm.trans z
        cases z'
        exact naT b hb
      by_cases hba : b = a
      · have z' := ((hH b hb).trans (if_pos hba)).symm.trans z
        cases z'
        subst hba
        exact ⟨ha, by rw [List.length_map]; exact hl, vs, _, rv, ha⟩
      · have z' := ((hH b hb).trans (if_neg hba)).symm.trans z
        cases z'
    · by_cases hb : b ∈ tabs.map (·.2)
      · exact .inr hb
      by_cases hba : b = a
      · exact .inl hba
      · exact absurd ((hH b hb).trans (if_neg hba)) z
/-- walk_of, with tables: xs the defs in which lambdas are made -/
theorem walk_ofT {l : PySem.W.OpenLaw} {n k : Nat} {q : Program} {loose : List Str} {XP : (Str → Option Value) → Heap → Prop} {YP : World → Heap → Prop} {d : DefRec} {K : Params → PySem.W.Frag} {CX : World → CXT} {sp : World → List (Addr × Addr) → Sp} {x : Str} {y : Str} {dy : DefRec}
    (hn : l.most = some n) (hn2 : n ≤ sizeLine) (hdf : d.params.defaults = []) (hr : Room k callerA)
    (hY : ∀ (w : World) (h : Heap), YP w h → (K w.params).In h) (hy : (recsOf q).find? (fun e => e.name == y) = some dy)
    (F : ∀ (w : World) (mg : Str → Option Value) (fa : Addr) (h : Heap), (K w.params).In h → h.Ns mainGlobals mg → mg d.name = some (.ref fa) →
      ∃ (fd : FuncData) (c T : Addr), PySem.W.tabIn (K w.params) y = some (c, T) ∧ (K w.params).lookup T = none ∧ (∀ (s : Shared) (u : Value), BindsTo s fd ⟨[u], []⟩ [(x, u)]) ∧
        ∀ base : Heap, (K w.params).In base → base.Ns mainGlobals mg → BMod mg base → PySem.W.CodeHd base c T → FnOk l.prog w (K w.params) mg base (CX w) k fa fd [x] (sp w [(c, T)]))
    (hsp : ∀ (w : World) (c T : Addr) (H : Hp) (a : Addr) (ns : List Int), ns.length ≤ n → H T = some (.tbl #[]) → SqL (K w.params) H a (ns.map V.int) → sp w [(c, T)] [.ref a] H (fun v _ => v = .bl true) fun _ _ _ => False)
    (hCX : ∀ (w : World) (H : Hp) (s : Shared) (e : Value) (s' : Shared), CX w [] H s (fun _ _ _ => False) e s' → False) :
    PySem.W.WalkO q loose XP YP l.row.toRowW d [] (fun f vs => PySem.call f vs) := by
  refine Att.attach_call hn hdf fun w s₀ s₁ mg mb fa o pm cd doc a vs ns G Y ho hd hcd hmg hobj hints hlen hg => ?_
  have KX := hY w _ Y
  obtain ⟨fd, c, T, ht, hKT, hb, hF⟩ := F w mg fa _ KX G.T.g hmg
  have tT := PySem.W.tab_of G.T KX hy ht
  exact law_callT (tabs := [(c, T)]) (fun q hq => by obtain rfl := List.mem_singleton.mp hq; exact tT) (fun q hq => by obtain rfl := List.mem_singleton.mp hq; exact hKT) G.T.bmain KX G.T.g G.T.b G.T.builtins G.T.nolimit hg hobj hints (Nat.le_trans hlen hn2) hr
    (fun base k1 k2 k3 k4 => hF base k1 k2 k3 (k4 _ (.head _))) hb (fun H hO hS => hsp w c T H a ns hlen (hO _ (.head _)) hS) fun H e s' => hCX w H s₁ e s'
end L2

set_option Elab.async false
set_option maxRecDepth 100000
set_option linter.all false
set_option maxHeartbeats 4000000
namespace L2
open PySem PySem.Spec PyProof.Rows
/-! ### a def that takes a function; a def in which a lambda is made -/
/-- a def whose code object is known: a lambda is made in it -/
theorem Fun.okC {P : Program} {w : World} {K : PySem.W.Frag} {mg : Str → Option Value} {base : Heap} {x qual : Str} {st : Stmt} {f : Addr} {fd : FuncData} {N ps : List Str} {k : Nat} {sp : Sp} {c : Addr} (F : Fun K x qual st f fd) (hc : fd.code = .ref c) (S : FnScope N ps (defScope st)) (len : ∀ vs H Q E, sp vs H Q E → vs.length = ps.length)
    (hbody : ∀ (A : Around) (outer : List Env) (s : Shared) (H : Hp) (vs : List V) (Q : VK) (E : XK), Room k (A.deeper (envOfC qual (defScope st) s.heap.objs.size f (.ref c))) → sp vs H Q E →
      ∃ t, PSs (cxOf CX0 P w K mg base N qual (defScope st) f (.ref c) A outer s H E).nox (defBody st) t ∧ t { nx := fun _ H' => Q .non H', rt := Q } (start N vs) H) : FnOk P w K mg base CX0 (k + 1) f fd ps sp := by
  obtain ⟨oc, od, kV, doc, pm, an, cdv, ct, osl, rfl, lk, hcd⟩ := F.ex
  obtain rfl : cdv = .ref c := hc
  refine fn_of lk hcd S len fun A outer s H vs Q E hr hsp => ?_
  obtain ⟨t, h, q⟩ := hbody A outer s H vs Q E hr hsp
  exact ⟨t, h.nox, q⟩
section
variable {X : Cx} {k : Nat} {f c P : Addr} {fd : FuncData} {ps lps : List Str} {sp : Addr → Sp → Sp} {sg : Sp} {x : Str} {p pos lpos : Pos} {e1 e3 : Expr} {t1 t3 : TE} {params : Arguments} {body : Expr} {sc : Scope} {clos : List (Str × Addr)} {ix : List Nat} {LN : List Str}
end
end L2

set_option Elab.async false
set_option maxRecDepth 100000
set_option linter.all false
set_option maxHeartbeats 4000000
namespace SS
open PySem L2
/-! ### plays: by turns of best replies, until a rest or a round -/
def SqV (H : Hp) (a : Addr) (xs : List V) : Prop := H a = some (.lst xs) ∨ H a = some (.tup xs)
theorem SqV.same {H H' : Hp} {a : Addr} {xs : List V} (h : SqV H a xs) (s : Same H H') : SqV H' a xs := h.elim (fun e => .inl (s _ _ e)) fun e => .inr (s _ _ e)
theorem SqV.seq {K : PySem.W.Frag} {H : Hp} {a : Addr} {xs : List V} (h : SqV H a xs) : SqL K H a xs ∨ SqT K H a xs := h.elim (fun e => .inl (SqL.of e)) fun e => .inr (SqT.of e)
abbrev StepFn := List Int → Option (Nat × Nat × Int)
def nxtF (f : StepFn) (st : List Int) : List Int := match f st with
  | some x => st.set x.1 (x.2.1 : Int)
  | none => st
def seqP (f : StepFn) (st : List Int) : Nat → List Int
  | 0 => st
  | i + 1 => nxtF f (seqP f st i)
/-- the first i standings all went on, and no two of them are alike -/
structure Going (f : StepFn) (st : List Int) (i : Nat) : Prop where
  go : ∀ j, j < i → ∃ x, f (seqP f st j) = some x
  diff : ∀ a b, a < b → b < i → seqP f st a ≠ seqP f st b
/-! there are no more standings than that -/
def encP : List Int → Nat
  | [] => 0
  | s :: r => s.toNat + 27 * encP r
theorem enc_lt : ∀ {st : List Int}, (∀ s ∈ st, 0 ≤ s ∧ s < 27) → encP st < 27 ^ st.length
  | [], _ => by decide
  | s :: r, h => by
    have ih := enc_lt (st := r) fun x hx => h x (.tail _ hx)
    have hs := h s (.head _)
    show s.toNat + 27 * encP r < 27 ^ (r.length + 1)
    rw [Nat.pow_succ]
    omega
theorem enc_inj : ∀ {a b : List Int}, (∀ s ∈ a, 0 ≤ s ∧ s < 27) → (∀ s ∈ b, 0 ≤ s ∧ s < 27) → a.length = b.length → encP a = encP b → a = b
  | [], [], _, _, _, _ => rfl
  | [], _ :: _, _, _, h, _ => by simp at h
  | _ :: _, [], _, _, h, _ => by simp at h
  | x :: a, y :: b, ha, hb, hl, he => by
    have hx := ha x (.head _)
    have hy := hb y (.head _)
    have he : x.toNat + 27 * encP a = y.toNat + 27 * encP b := he
    have e1 : x = y := by omega
    have e2 : encP a = encP b := by omega
    rw [e1, enc_inj (fun s hs => ha s (.tail _ hs)) (fun s hs => hb s (.tail _ hs)) (by simpa using hl) e2]
theorem keys_le {l : List (List Int)} {m n : Nat} (nd : l.Nodup) (m27 : m ≤ 27) (n5 : n ≤ 5) (h : ∀ st ∈ l, (∀ s ∈ st, 0 ≤ s ∧ s < m) ∧ st.length = n) : l.length ≤ 14348907 := by
  have h27 : ∀ st ∈ l, ∀ s ∈ st, 0 ≤ s ∧ s < 27 := fun st hst s hs => by
    have := (h st hst).1 s hs
    omega
  have nd2 : (l.map fun st => ((encP st : Nat) : Int)).Nodup := by
    refine List.pairwise_map.mpr (List.Pairwise.imp_of_mem (fun {a b} ha hb hne z => hne ?_) nd)
    exact enc_inj (h27 a ha) (h27 b hb) (((h a ha).2).trans ((h b hb).2).symm) (Int.ofNat.inj z)
  have := nodup_len (l.map fun st => ((encP st : Nat) : Int)) ((List.range (27 ^ n)).map fun j : Nat => (j : Int)) nd2 fun x hx => by
    obtain ⟨st, hst, rfl⟩ := List.mem_map.mp hx
    have := enc_lt (h27 st hst)
    rw [(h st hst).2] at this
    exact List.mem_map.mpr ⟨_, List.mem_range.mpr this, rfl⟩
  rw [List.length_map, List.length_map, List.length_range] at this
  have p : 27 ^ n ≤ 27 ^ 5 := Nat.pow_le_pow_right (by decide) n5
  have q : 27 ^ 5 = 14348907 := by decide
  omega
theorem Going.succ {f : StepFn} {st : List Int} {i : Nat} (g : Going f st i) (hn : ∀ j, j < i → seqP f st j ≠ seqP f st i) {x : Nat × Nat × Int} (hx : f (seqP f st i) = some x) : Going f st (i + 1) where
  go j hj := by
    by_cases e : j = i
    · exact e ▸ ⟨x, hx⟩
    · exact g.go j (by omega)
  diff a b hab hb := by
    by_cases e : b = i
    · rw [e]; exact hn a (by omega)
    · exact g.diff a b hab (by omega)
/-- the key of a standing -/
def keyP (st : List Int) : List Key := st.map Sum.inl
theorem keyP_inj {a b : List Int} (h : keyP a = keyP b) : a = b := by
  unfold keyP at h
  exact List.map_inj_right (fun x y z => Sum.inl.inj z) |>.mp h
/-- when the standing was met first -/
def MetAt (f : StepFn) (st : List Int) (km : List (List Key × V)) (i : Nat) : Prop := km.length = i ∧ ∀ st', valV km (keyP st') = none ∧ (∀ j, j < i → seqP f st j ≠ st') ∨ ∃ j, j < i ∧ seqP f st j = st' ∧ valV km (keyP st') = some (.int j)
theorem MetAt.zero {f : StepFn} {st : List Int} : MetAt f st [] 0 := ⟨rfl, fun st' => .inl ⟨rfl, fun j hj => absurd hj (Nat.not_lt_zero _)⟩⟩
theorem put_new {κ : Type} [DecidableEq κ] {kvs : List (κ × V)} {k : κ} {v : V} (h : valV kvs k = none) : putK kvs k v = kvs ++ [(k, v)] := by
  unfold putK
  rw [if_neg (by rw [valV_any, h]; simp)]
theorem MetAt.succ {f : StepFn} {st : List Int} {km : List (List Key × V)} {i : Nat} (h : MetAt f st km i) (hn : valV km (keyP (seqP f st i)) = none) : MetAt f st (putK km (keyP (seqP f st i)) (.int i)) (i + 1) := by
  refine ⟨by rw [put_new hn, List.length_append, h.1]; rfl, fun st' => ?_⟩
  rw [valV_put]
  by_cases c : keyP st' = keyP (seqP f st i)
  · rw [if_pos c]
    exact .inr ⟨i, by omega, (keyP_inj c).symm, rfl⟩
  · rw [if_neg c]
    rcases h.2 st' with ⟨a, b⟩ | ⟨j, hj, a, b⟩
    · refine .inl ⟨a, fun j hj z => ?_⟩
      by_cases e : j = i
      · exact c (by rw [← z, e])
      · exact b j (by omega) z
    · exact .inr ⟨j, by omega, a, b⟩
/-- what the steps that are kept tell: true of each standing that they know -/
def MemoAt (H : Hp) (f : StepFn) (m n : Nat) (kvs : List (List Key × V)) : Prop := (∃ l : List (List Int), kvs.map (·.1) = l.map keyP ∧ l.Nodup ∧ ∀ st ∈ l, StOk m st ∧ st.length = n) ∧
  ∀ st v, valV kvs (keyP st) = some v → (f st = none ∧ v = .non) ∨ ∃ k p g t, f st = some (k, p, g) ∧ v = .ref t ∧ H t = some (.tup [.int (k : Nat), .int (p : Nat), .int g])
theorem MemoAt.nil {H : Hp} {f : StepFn} {m n : Nat} : MemoAt H f m n [] := ⟨⟨[], rfl, List.nodup_nil, fun _ h => nomatch h⟩, fun _ _ h => nomatch h⟩
theorem MemoAt.le {H : Hp} {f : StepFn} {m n : Nat} {kvs : List (List Key × V)} (h : MemoAt H f m n kvs) (m27 : m ≤ 27) (n5 : n ≤ 5) : kvs.length ≤ 14348907 := by
  obtain ⟨l, e, nd, hl⟩ := h.1
  have := keys_le nd m27 n5 fun st hs => ⟨(hl st hs).1.2.2, (hl st hs).2⟩
  have e2 := congrArg List.length e
  rw [List.length_map, List.length_map] at e2
  omega
theorem MemoAt.mono {H H' : Hp} {f : StepFn} {m n : Nat} {kvs : List (List Key × V)} (h : MemoAt H f m n kvs) (s : ∀ t xs, H t = some (.tup xs) → H' t = some (.tup xs)) : MemoAt H' f m n kvs :=
  ⟨h.1, fun st v e => (h.2 st v e).elim .inl fun ⟨k, p, g, t, a, b, c⟩ => .inr ⟨k, p, g, t, a, b, s _ _ c⟩⟩
theorem MemoAt.put {H : Hp} {f : StepFn} {m n : Nat} {kvs : List (List Key × V)} (h : MemoAt H f m n kvs) {st : List Int} (so : StOk m st) (hl : st.length = n) (hn : valV kvs (keyP st) = none) {v : V}
    (hv : (f st = none ∧ v = .non) ∨ ∃ k p g t, f st = some (k, p, g) ∧ v = .ref t ∧ H t = some (.tup [.int (k : Nat), .int (p : Nat), .int g])) : MemoAt H f m n (putK kvs (keyP st) v) := by
  obtain ⟨l, e, nd, hl'⟩ := h.1
  have nin := valV_not hn
  refine ⟨⟨l ++ [st], by rw [put_new hn, List.map_append, List.map_append, e]; rfl, ?_, fun x hx => ?_⟩, fun st' v' e' => ?_⟩
  · refine nd_snoc nd fun z => nin ?_
    rw [e]
    exact List.mem_map.mpr ⟨st, z, rfl⟩
  · rcases List.mem_append.mp hx with hx | hx
    · exact hl' x hx
    · obtain rfl := List.mem_singleton.mp hx
      exact ⟨so, hl⟩
  · rw [valV_put] at e'
    by_cases c : keyP st' = keyP st
    · rw [if_pos c] at e'
      cases e'
      rw [keyP_inj c]
      exact hv
    · rw [if_neg c] at e'
      exact h.2 st' v' e'
/-- a list of moves -/
def MvsAt (H : Hp) (m : Addr) (mv : List (Nat × Nat)) : Prop := ∃ ts : List Addr, H m = some (.lst (ts.map V.ref)) ∧ Paired (fun t (x : Nat × Nat) => H t = some (.tup [.int x.1, .int x.2])) ts mv
theorem MvsAt.mono {H H' : Hp} {m : Addr} {mv : List (Nat × Nat)} (h : MvsAt H m mv) (s : ∀ t xs, H t = some (.tup xs) → H' t = some (.tup xs)) (e : H' m = H m) : MvsAt H' m mv := by
  obtain ⟨ts, a, b⟩ := h
  exact ⟨ts, e.trans a, L2.Paired.mapP b fun t x z => s _ _ z⟩
theorem MvsAt.same {H H' : Hp} {m : Addr} {mv : List (Nat × Nat)} (h : MvsAt H m mv) (s : Same H H') : MvsAt H' m mv := by
  obtain ⟨ts, a, b⟩ := h
  exact ⟨ts, s _ _ a, L2.Paired.mapP b fun t x z => s _ _ z⟩
end SS

set_option Elab.async false
set_option maxRecDepth 100000
set_option linter.all false
set_option maxHeartbeats 4000000
namespace L2
open PySem PySem.Spec PyProof.Rows
/-! ### xs.index(x), by data -/
theorem tab_mk {K : PySem.W.Frag} {x : Str} {f c P : Addr} {oc oc' : Value} {od od' : Option Addr} {fd : FuncData} {sl sl' : Array (Option Value)} {vs : Array Value} (a : PySem.W.nsIn K mainGlobals x = some (some (.ref f))) (l : K.lookup f = some ⟨oc, od, .func fd, sl⟩) (e : fd.code = .ref c)
    (lc : K.lookup c = some ⟨oc', od', .fields vs, sl'⟩) (v : vs[11]? = some (.ref P)) : PySem.W.tabIn K x = some (c, P) := by
  unfold PySem.W.tabIn
  rw [a]
  simp only [l, e, lc, v]
end L2

set_option Elab.async false
set_option maxRecDepth 100000
set_option linter.all false
set_option maxHeartbeats 4000000
namespace L2
open PySem PySem.Spec PyProof.Rows
open Sem (wp)
/-! ### keys that are tuples of ints and tuples of ints -/
abbrev NK := Sum Int (List Int)
def iK (l : List Int) : List Key := l.map Sum.inl
theorem iK_inj {a b : List Int} (e : iK a = iK b) : a = b := (List.map_inj_right (fun x y z => by injection z)).mp e
section
variable {P : Program} {w : World}
inductive NItems (P : Program) (w : World) (h : Heap) : List NK → List Value → Prop
  | nil : NItems P w h [] []
  | val {i : Int} {t : Tok} {ks : List NK} {vs : List Value} : NItems P w h ks vs → NItems P w h (.inl i :: ks) (.int i t :: vs)
  | tup {k : List Int} {b : Addr} {ks : List NK} {vs : List Value} : IsTupleKey (mixKind P w) h (iK k) b → NItems P w h ks vs → NItems P w h (.inr k :: ks) (.ref b :: vs)
theorem NItems.inj {h : Heap} : ∀ {x y : List NK} {vs : List Value}, NItems P w h x vs → NItems P w h y vs → x = y
  | _, _, _, .nil, .nil => rfl
  | _, _, _, .val t, .val u => by rw [NItems.inj t u]
  | _, _, _, .tup a t, .tup b u => by rw [iK_inj (a.inj b), NItems.inj t u]
theorem NItems.length {h : Heap} : ∀ {x : List NK} {vs : List Value}, NItems P w h x vs → x.length = vs.length
  | _, _, .nil => rfl
  | _, _, .val t => by rw [List.length_cons, List.length_cons, t.length]
  | _, _, .tup a t => by rw [List.length_cons, List.length_cons, t.length]
theorem NItems.keeps {h h' : Heap} {d : Addr} {o : Obj} {es ep} (ho : h.get? d = some o) (hd : o.data = .dict es ep) (hs : Heap.SameBut d h h') : ∀ {x : List NK} {vs : List Value}, NItems P w h x vs → NItems P w h' x vs
  | _, _, .nil => .nil
  | _, _, .val t => .val (t.keeps ho hd hs)
  | _, _, .tup a t => .tup (a.keeps ho hd hs) (t.keeps ho hd hs)
def IsNKey (P : Program) (w : World) (h : Heap) (ks : List NK) (a : Addr) : Prop := ∃ o items n, h.get? a = some o ∧ o.cls = .type "tuple" ∧ o.data = .seq items n ∧ NItems P w h ks items.toList
theorem IsNKey.typeIs {s : Shared} {ks : List NK} {a : Addr} (x : IsNKey P w s.heap ks a) : s.TypeIs (.ref a) "tuple" := let ⟨o, _, _, ho, hc, _⟩ := x; ⟨o, ho, hc⟩
theorem IsNKey.inj {h : Heap} {a : Addr} {x y : List NK} (hx : IsNKey P w h x a) (hy : IsNKey P w h y a) : x = y := by
  obtain ⟨o, items, n, ho, _, hd, hi⟩ := hx
  obtain ⟨o', items', n', ho', _, hd', hi'⟩ := hy
  obtain rfl : o = o' := Option.some.inj (ho.symm.trans ho')
  rw [hd] at hd'
  injection hd' with h1 _
  subst h1
  exact hi.inj hi'
theorem IsNKey.keeps {h h' : Heap} {ks : List NK} {a d : Addr} {o : Obj} {es ep} (x : IsNKey P w h ks a) (ho : h.get? d = some o) (hd : o.data = .dict es ep) (hs : Heap.SameBut d h h') : IsNKey P w h' ks a := by
  obtain ⟨o', items, n, ho', hc, hd', hi⟩ := x
  have hne : a ≠ d := by
    rintro rfl
    obtain rfl : o' = o := Option.some.inj (ho'.symm.trans ho)
    rw [hd] at hd'; exact nomatch hd'
  exact ⟨o', items, n, (hs.2 a hne).trans ho', hc, hd', hi.keeps ho hd hs⟩
def nItemHash : NK → Int
  | .inl i => hashInt i
  | .inr ks => reduceHash (Builtin.Tuple.tupleHashOf (ks.map hashInt))
def nKeyHash (ks : List NK) : Int := reduceHash (Builtin.Tuple.tupleHashOf (ks.map nItemHash))
variable {A : Around} {E : Value → Shared → Prop} {s : Shared}
end
def nD : NK → PyData
  | .inl k => .int k
  | .inr ks => .tuple (ks.map PyData.int)
section
variable {P : Program} {w : World}
variable {A : Around} {E : Value → Shared → Prop} {s : Shared}
end
/-! ### a tracked dict with such keys -/
def NV (H : Hp) : List V → List NK → Prop := Paired fun v k => (∃ i, k = .inl i ∧ v = .int i) ∨ ∃ l c, k = .inr l ∧ v = .ref c ∧ H c = some (.tup (l.map V.int))
def NKeyAt (H : Hp) (b : Addr) (k : List NK) : Prop := ∃ vs, H b = some (.tup vs) ∧ NV H vs k
abbrev NEnt := List NK × Addr × V
def entryN (x : List NK × Addr × Value) : DictEntry := ⟨nKeyHash x.1, .ref x.2.1, x.2.2⟩
abbrev NR : List NEnt → List (List NK × Addr × Value) → Prop := Paired fun p q => p.1 = q.1 ∧ p.2.1 = q.2.1 ∧ RelV p.2.2 q.2.2
def nRaw (a : Addr) (xs : List NEnt) : Heap → Prop := fun h => ∃ o es ep ys, h.get? a = some o ∧ o.ExactDict ∧ o.data = .dict es ep ∧ es.toList = ys.map entryN ∧ NR xs ys
def NAt (H : Hp) (a : Addr) (xs : List NEnt) : Prop := xs.length ≤ sizeLine ∧ (a == sysModules) = false ∧ H a = some (.ext (nRaw a xs)) ∧ (∀ x ∈ xs, NKeyAt H x.2.1 x.1) ∧ (xs.map (·.1)).Nodup
def nVal (xs : List NEnt) (k : List NK) : Option V := (xs.find? fun x => decide (x.1 = k)).map (·.2.2)
def putN (xs : List NEnt) (k : List NK) (b : Addr) (v : V) : List NEnt := if (nVal xs k).isSome then xs.map fun x => if x.1 = k then (x.1, x.2.1, v) else x else xs ++ [(k, b, v)]
theorem NV.mono {H H' : Hp} {vs : List V} {k : List NK} (r : NV H vs k) (ht : ∀ b ys, H b = some (.tup ys) → H' b = some (.tup ys)) : NV H' vs k :=
  Paired.mapP r fun _ _ z => z.imp id fun ⟨l, c, e1, e2, e3⟩ => ⟨l, c, e1, e2, ht _ _ e3⟩
theorem NKeyAt.mono {H H' : Hp} {b : Addr} {k : List NK} (r : NKeyAt H b k) (ht : ∀ b ys, H b = some (.tup ys) → H' b = some (.tup ys)) : NKeyAt H' b k := by
  obtain ⟨vs, e, q⟩ := r
  exact ⟨vs, ht _ _ e, q.mono ht⟩
theorem NAt.mono {H H' : Hp} {a : Addr} {xs : List NEnt} (r : NAt H a xs) (ea : H' a = H a) (ht : ∀ b ys, H b = some (.tup ys) → H' b = some (.tup ys)) : NAt H' a xs := by
  obtain ⟨z, y, e, k, n⟩ := r
  exact ⟨z, y, ea.trans e, fun x hx => (k x hx).mono ht, n⟩
theorem NR.val {xs : List NEnt} {ys : List (List NK × Addr × Value)} (r : NR xs ys) (k : List NK) : RelO (nVal xs k) ((atKey ys k).map (·.2)) := by
  induction r with
  | nil => exact True.intro
  | @cons p q ps qs h t ih =>
    obtain ⟨h1, _, h2⟩ := h
    unfold nVal atKey at ih ⊢
    by_cases e : p.1 = k
    · have e' : q.1 = k := h1.symm.trans e
      rw [List.find?_cons_of_pos (by simpa using e), List.find?_cons_of_pos (by simpa using e')]
      exact h2
    · have e' : ¬ q.1 = k := fun z => e (h1.trans z)
      rw [List.find?_cons_of_neg (by simpa using e), List.find?_cons_of_neg (by simpa using e')]
      exact ih
theorem NR.repl {xs : List NEnt} {ys : List (List NK × Addr × Value)} (r : NR xs ys) (k : List NK) {y : V} {u : Value} (ry : RelV y u) : NR (xs.map fun x => if x.1 = k then (x.1, x.2.1, y) else x) (ys.map (putAt k u)) := by
  induction r with
  | nil => exact .nil
  | @cons p q ps qs h t ih =>
    rw [List.map_cons, List.map_cons]
    refine .cons ?_ ih
    obtain ⟨h1, h2, h3⟩ := h
    unfold putAt
    by_cases e : p.1 = k
    · rw [if_pos e, if_pos (h1.symm.trans e)]; exact ⟨h1, h2, ry⟩
    · rw [if_neg e, if_neg (fun z => e (h1.trans z))]; exact ⟨h1, h2, h3⟩
theorem NR.put {xs : List NEnt} {ys : List (List NK × Addr × Value)} (r : NR xs ys) (k : List NK) {b : Addr} {y : V} {u : Value} (ry : RelV y u) : NR (putN xs k b y) (storedH ys k b u) := by
  have e : (nVal xs k).isSome = (atKey ys k).isSome := by rw [(r.val k).isSome_eq, Option.isSome_map]
  unfold putN storedH
  rw [e]
  by_cases q : (atKey ys k).isSome = true
  · rw [if_pos q, if_pos q]; exact r.repl k ry
  · rw [if_neg q, if_neg q]; exact Paired.snoc r ⟨rfl, rfl, ry⟩
theorem putN_len (xs : List NEnt) (k : List NK) (b : Addr) (v : V) : (putN xs k b v).length ≤ xs.length + 1 := by
  unfold putN
  by_cases q : (nVal xs k).isSome = true
  · rw [if_pos q, List.length_map]; omega
  · rw [if_neg q, List.length_append]; exact Nat.le_refl _
theorem nVal_none {xs : List NEnt} {k : List NK} (h : nVal xs k = none) : ∀ x ∈ xs, x.1 ≠ k := fun x hx e => by
  unfold nVal at h
  rw [Option.map_eq_none_iff, List.find?_eq_none] at h
  exact h x hx (by simpa using e)
theorem nVal_new {xs : List NEnt} {k : List NK} (h : nVal xs k = none) (b : Addr) (v : V) : putN xs k b v = xs ++ [(k, b, v)] := by unfold putN; rw [h]; rfl
theorem nVal_snoc {xs : List NEnt} {k k' : List NK} {b : Addr} {v : V} : nVal (xs ++ [(k, b, v)]) k' = (nVal xs k').or (if k = k' then some v else none) := by
  unfold nVal
  rw [List.find?_append]
  cases e : xs.find? (fun x => decide (x.1 = k')) with
  | some z => rfl
  | none =>
    by_cases c : k = k'
    · rw [if_pos c, List.find?_cons_of_pos (by simpa using c)]; rfl
    · rw [if_neg c, List.find?_cons_of_neg (by simpa using c)]; rfl
theorem putN_keys (xs : List NEnt) (k : List NK) (b : Addr) (v : V) (hn : (xs.map (·.1)).Nodup) : ((putN xs k b v).map (·.1)).Nodup := by
  cases e : nVal xs k with
  | none =>
    rw [nVal_new e, List.map_append, List.nodup_append]
    refine ⟨hn, by simp, fun a ha c hc => ?_⟩
    obtain ⟨x, hx, rfl⟩ := List.mem_map.mp ha
    simp at hc
    subst hc
    exact nVal_none e x hx
  | some z =>
    unfold putN
    simp only [e, Option.isSome_some, if_true]
    rw [List.map_map]
    have : ((fun x : NEnt => x.1) ∘ fun x => if x.1 = k then (x.1, x.2.1, v) else x) = fun x => x.1 := by
      funext x
      show (if x.1 = k then (x.1, x.2.1, v) else x).1 = x.1
      by_cases c : x.1 = k
      · rw [if_pos c]
      · rw [if_neg c]
    rw [this]
    exact hn
theorem NAt.put {H : Hp} {a b : Addr} {xs : List NEnt} {k : List NK} {v : V} (r : NAt H a xs) (hb : NKeyAt H b k) (hl : xs.length < sizeLine) : NAt (upd H a (.ext (nRaw a (putN xs k b v)))) a (putN xs k b v) := by
  obtain ⟨z, y, e, q, n⟩ := r
  have ht : ∀ c ys, H c = some (.tup ys) → upd H a (.ext (nRaw a (putN xs k b v))) c = some (.tup ys) := fun c ys ec => by rw [upd_ne (ne_of ec e (fun z => nomatch z))]; exact ec
  refine ⟨Nat.le_trans (putN_len xs k b v) hl, y, upd_same, fun x hx => ?_, putN_keys xs k b v n⟩
  unfold putN at hx
  by_cases c : (nVal xs k).isSome = true
  · rw [if_pos c] at hx
    obtain ⟨u, hu, rfl⟩ := List.mem_map.mp hx
    by_cases d : u.1 = k
    · rw [if_pos d]; exact (q u hu).mono ht
    · rw [if_neg d]; exact (q u hu).mono ht
  · rw [if_neg c] at hx
    rcases List.mem_append.mp hx with hx | hx
    · exact (q x hx).mono ht
    · simp at hx
      subst hx
      exact hb.mono ht
section
variable {P : Program} {w : World} {H : Hp} {h : Heap} {a : Addr}
end
section
variable {X : Cx} {pins : List (Addr × Obj)} {σ : St} {H : Hp} {s : Shared} {a b : Addr} {v : V} {r : Value} {A : Around} {E : Value → Shared → Prop} {xs : List NEnt} {k : List NK}
end
theorem NAt.nil {H : Hp} {p : Addr} (hp : (p == sysModules) = false) : NAt (upd H p (.ext (nRaw p []))) p [] := ⟨Nat.zero_le _, hp, upd_same, (fun x hx => nomatch hx), List.nodup_nil⟩
section
variable {X : Cx} {o i e value : Expr} {pos pos' tpos : Pos} {td ty tv : TE}
end
end L2

set_option Elab.async false
set_option maxRecDepth 100000
set_option linter.all false
set_option maxHeartbeats 4000000
namespace L2
open PySem PySem.Spec PyProof.Rows
section
variable {X : Cx} {pos : Pos}
end
end L2

set_option Elab.async false
set_option maxRecDepth 100000
set_option linter.all false
set_option maxHeartbeats 4000000
namespace SS
open PySem L2
/-! ### plays by turns: each seller in turn, until as many are quiet as there are, or a turn comes again -/
abbrev TurnFn := List Int → Nat → Option (Nat × Int)
def tNx (g : TurnFn) (st : List Int) (k : Nat) : List Int := match g st k with
  | some x => st.set k (x.1 : Int)
  | none => st
def tS (g : TurnFn) (st : List Int) : Nat → List Int
  | 0 => st
  | i + 1 => tNx g (tS g st i) (i % st.length)
def tQ (g : TurnFn) (st : List Int) : Nat → Nat
  | 0 => 0
  | i + 1 => match g (tS g st i) (i % st.length) with
    | some _ => 0
    | none => tQ g st i + 1
def tM (g : TurnFn) (st : List Int) : Nat → List (Nat × Nat)
  | 0 => []
  | i + 1 => tM g st i ++ match g (tS g st i) (i % st.length) with
    | some x => [(i % st.length, x.1)]
    | none => []
structure TGoing (g : TurnFn) (st : List Int) (i : Nat) : Prop where
  go : ∀ j, j < i → tQ g st j < st.length
  diff : ∀ a b, a < b → b < i → ¬ (tS g st a = tS g st b ∧ a % st.length = b % st.length)
def TurnOk (g : TurnFn) (m : Nat) : Prop := ∀ st k x, StOk m st → k < st.length → g st k = some x → x.1 < m
theorem tNx_ok {g : TurnFn} {m : Nat} (h : TurnOk g m) {st : List Int} (so : StOk m st) {k : Nat} (hk : k < st.length) : StOk m (tNx g st k) ∧ (tNx g st k).length = st.length := by
  unfold tNx
  cases e : g st k with
  | none => exact ⟨so, rfl⟩
  | some x =>
    have h1 := h st k x so hk e
    refine ⟨⟨by simpa using so.1, by simpa using so.2.1, fun s hs => ?_⟩, by simp⟩
    rcases List.mem_or_eq_of_mem_set hs with z | z
    · exact so.2.2 s z
    · subst z; omega
theorem tS_ok {g : TurnFn} {m : Nat} (h : TurnOk g m) {st : List Int} (so : StOk m st) : ∀ i, StOk m (tS g st i) ∧ (tS g st i).length = st.length
  | 0 => ⟨so, rfl⟩
  | i + 1 => by
    obtain ⟨a, b⟩ := tS_ok h so i
    obtain ⟨c, d⟩ := tNx_ok h a (k := i % st.length) (by rw [b]; exact Nat.mod_lt _ so.1)
    exact ⟨c, d.trans b⟩
theorem TGoing.zero {g : TurnFn} {st : List Int} : TGoing g st 0 := ⟨fun j hj => absurd hj (Nat.not_lt_zero _), fun a b _ hb => absurd hb (Nat.not_lt_zero _)⟩
theorem TGoing.succ {g : TurnFn} {st : List Int} {i : Nat} (h : TGoing g st i) (hq : tQ g st i < st.length) (hn : ∀ j, j < i → ¬ (tS g st j = tS g st i ∧ j % st.length = i % st.length)) : TGoing g st (i + 1) where
  go j hj := by
    by_cases e : j = i
    · exact e ▸ hq
    · exact h.go j (by omega)
  diff a b hab hb := by
    by_cases e : b = i
    · rw [e]; exact hn a (by omega)
    · exact h.diff a b hab (by omega)
/-- the key of a turn -/
def tKey (st : List Int) (k : Nat) : List NK := [.inr st, .inl (k : Int)]
theorem tKey_inj {a b : List Int} {j k : Nat} (h : tKey a j = tKey b k) : a = b ∧ j = k := by
  injection h with h1 h2
  injection h2 with h3 _
  injection h1 with h1
  injection h3 with h3
  exact ⟨h1, Int.ofNat.inj h3⟩
/-- when a turn was met first: how many moves were done then -/
def TMetAt (g : TurnFn) (st : List Int) (xs : List NEnt) (i : Nat) : Prop := xs.length = i ∧ ∀ st' k, nVal xs (tKey st' k) = none ∧ (∀ j, j < i → ¬ (tS g st j = st' ∧ j % st.length = k)) ∨ ∃ j, j < i ∧ tS g st j = st' ∧ j % st.length = k ∧ nVal xs (tKey st' k) = some (.int (tM g st j).length)
theorem TMetAt.zero {g : TurnFn} {st : List Int} : TMetAt g st [] 0 := ⟨rfl, fun st' k => .inl ⟨rfl, fun j hj => absurd hj (Nat.not_lt_zero _)⟩⟩
theorem TMetAt.succ {g : TurnFn} {st : List Int} {xs : List NEnt} {i : Nat} {b : Addr} (h : TMetAt g st xs i) (hn : nVal xs (tKey (tS g st i) (i % st.length)) = none) : TMetAt g st (putN xs (tKey (tS g st i) (i % st.length)) b (.int (tM g st i).length)) (i + 1) := by
  refine ⟨by rw [nVal_new hn, List.length_append, h.1]; rfl, fun st' k => ?_⟩
  rw [nVal_new hn, nVal_snoc]
  by_cases c : tKey (tS g st i) (i % st.length) = tKey st' k
  · obtain ⟨c1, c2⟩ := tKey_inj c
    refine .inr ⟨i, by omega, c1, c2, ?_⟩
    rw [if_pos c, ← c, hn]
    rfl
  · rw [if_neg c, Option.or_none]
    rcases h.2 st' k with ⟨a, b⟩ | ⟨j, hj, a, b, d⟩
    · refine .inl ⟨a, fun j hj z => ?_⟩
      by_cases e : j = i
      · subst e
        exact c (by rw [z.1, z.2])
      · exact b j (by omega) z
    · exact .inr ⟨j, by omega, a, b, d⟩
end SS

set_option Elab.async false
set_option maxRecDepth 100000
set_option linter.all false
set_option maxHeartbeats 4000000
namespace L2
open PySem PySem.Spec PyProof.Rows
/-! ### zip(list, tuple) -/
section
variable {P : Program} {w : World} {A : Around} {E : Value → Shared → Prop} {s : Shared}
end
end L2

set_option Elab.async false
set_option maxRecDepth 100000
set_option linter.all false
set_option maxHeartbeats 4000000
namespace SS
open PySem L2
/-! ### priced standings, lists or tuples; plays of them -/
abbrev PSt := List (Int × Int)
def PricedV (H : Hp) (a : Addr) (ps : PSt) : Prop := ∃ ts : List Addr, SqV H a (ts.map V.ref) ∧ Paired (fun t e => H t = some (tupQ e)) ts ps
theorem PricedV.same {H H' : Hp} {a : Addr} {ps : PSt} (p : PricedV H a ps) (s : Same H H') : PricedV H' a ps := by
  obtain ⟨ts, e, q⟩ := p
  exact ⟨ts, e.same s, L2.Paired.mapP q fun t e z => s _ _ z⟩
theorem PricedAt.v {H : Hp} {a : Addr} {ps : PSt} (p : PricedAt H a ps) : PricedV H a ps := by
  obtain ⟨ts, e, q⟩ := p
  exact ⟨ts, .inl e, q⟩
/-- a priced standing that is a tuple -/
def PricedT (H : Hp) (a : Addr) (ps : PSt) : Prop := ∃ ts : List Addr, H a = some (.tup (ts.map V.ref)) ∧ Paired (fun t e => H t = some (tupQ e)) ts ps
theorem PricedT.v {H : Hp} {a : Addr} {ps : PSt} (p : PricedT H a ps) : PricedV H a ps := by
  obtain ⟨ts, e, q⟩ := p
  exact ⟨ts, .inr e, q⟩
theorem PricedT.mono {H H' : Hp} {a : Addr} {ps : PSt} (p : PricedT H a ps) (s : ∀ b xs, H b = some (.tup xs) → H' b = some (.tup xs)) : PricedT H' a ps := by
  obtain ⟨ts, e, q⟩ := p
  exact ⟨ts, s _ _ e, L2.Paired.mapP q fun t e z => s _ _ z⟩
theorem PricedV.cases {H : Hp} {a : Addr} {ps : PSt} (p : PricedV H a ps) : PricedAt H a ps ∨ PricedT H a ps := by
  obtain ⟨ts, e | e, q⟩ := p
  · exact .inl ⟨ts, e, q⟩
  · exact .inr ⟨ts, e, q⟩
/-- the key of a priced standing -/
def pKey (ps : PSt) : List NK := ps.map fun e => .inr [e.1, e.2]
theorem pKey_inj : ∀ {a b : PSt}, pKey a = pKey b → a = b
  | [], [], _ => rfl
  | [], _ :: _, h => nomatch h
  | _ :: _, [], h => nomatch h
  | x :: a, y :: b, h => by
    have h : (Sum.inr [x.1, x.2] : NK) :: pKey a = Sum.inr [y.1, y.2] :: pKey b := h
    injection h with h1 h2
    injection h1 with h1
    injection h1 with h3 h4
    injection h4 with h4 _
    rw [pKey_inj h2, Prod.ext h3 h4]
theorem nv_ps {H : Hp} : ∀ {ts : List Addr} {ps : PSt}, Paired (fun t e => H t = some (tupQ e)) ts ps → NV H (ts.map V.ref) (pKey ps)
  | _, _, .nil => .nil
  | _, _, .cons a t => .cons (.inr ⟨_, _, rfl, rfl, a⟩) (nv_ps t)
theorem PricedT.key {H : Hp} {a : Addr} {ps : PSt} (p : PricedT H a ps) : NKeyAt H a (pKey ps) := by
  obtain ⟨ts, e, q⟩ := p
  exact ⟨_, e, nv_ps q⟩
abbrev PStep := PSt → Option (Nat × (Int × Int) × Int)
def nxtQ (f : PStep) (st : PSt) : PSt := match f st with
  | some x => st.set x.1 x.2.1
  | none => st
def seqQ (f : PStep) (st : PSt) : Nat → PSt
  | 0 => st
  | i + 1 => nxtQ f (seqQ f st i)
abbrev PMv := Nat × (Int × Int)
structure GoingQ (f : PStep) (st : PSt) (i : Nat) : Prop where
  go : ∀ j, j < i → ∃ x, f (seqQ f st j) = some x
  diff : ∀ a b, a < b → b < i → seqQ f st a ≠ seqQ f st b
/-- standings of pairs out of a pool -/
def PoolOk (pool : PSt) (st : PSt) : Prop := 0 < st.length ∧ st.length ≤ 5 ∧ ∀ e ∈ st, e ∈ pool
theorem idxOf_inj {pool : PSt} {a b : Int × Int} (ha : a ∈ pool) (hb : b ∈ pool) (h : pool.idxOf a = pool.idxOf b) : a = b := by
  have h1 := List.getElem_idxOf (List.idxOf_lt_length_of_mem ha)
  have h2 := List.getElem_idxOf (List.idxOf_lt_length_of_mem hb)
  rw [← h1, ← h2]
  congr 1
theorem poolMap_inj {pool : PSt} : ∀ {a b : PSt}, (∀ e ∈ a, e ∈ pool) → (∀ e ∈ b, e ∈ pool) → (a.map fun e => ((pool.idxOf e : Nat) : Int)) = (b.map fun e => ((pool.idxOf e : Nat) : Int)) → a = b
  | [], [], _, _, _ => rfl
  | [], _ :: _, _, _, h => nomatch h
  | _ :: _, [], _, _, h => nomatch h
  | x :: a, y :: b, ha, hb, h => by
    rw [List.map_cons, List.map_cons] at h
    injection h with h1 h2
    rw [idxOf_inj (ha x (.head _)) (hb y (.head _)) (Int.ofNat.inj h1), poolMap_inj (fun e he => ha e (.tail _ he)) (fun e he => hb e (.tail _ he)) h2]
theorem pools_le {l : List PSt} {pool : PSt} {n : Nat} (nd : l.Nodup) (p27 : pool.length ≤ 27) (n5 : n ≤ 5) (h : ∀ st ∈ l, (∀ e ∈ st, e ∈ pool) ∧ st.length = n) : l.length ≤ 14348907 := by
  have := keys_le (l := l.map fun st => st.map fun e => ((pool.idxOf e : Nat) : Int)) (m := pool.length) (n := n) ?_ p27 n5 fun x hx => ?_
  · rwa [List.length_map] at this
  · refine List.pairwise_map.mpr (List.Pairwise.imp_of_mem (fun {a b} ha hb hne z => hne ?_) nd)
    exact poolMap_inj (h a ha).1 (h b hb).1 z
  · obtain ⟨st, hst, rfl⟩ := List.mem_map.mp hx
    refine ⟨fun s hs => ?_, by rw [List.length_map]; exact (h st hst).2⟩
    obtain ⟨e, he, rfl⟩ := List.mem_map.mp hs
    have := List.idxOf_lt_length_of_mem ((h st hst).1 e he)
    omega
theorem GoingQ.zero {f : PStep} {st : PSt} : GoingQ f st 0 := ⟨fun j hj => absurd hj (Nat.not_lt_zero _), fun a b _ hb => absurd hb (Nat.not_lt_zero _)⟩
theorem GoingQ.succ {f : PStep} {st : PSt} {i : Nat} (g : GoingQ f st i) (hn : ∀ j, j < i → seqQ f st j ≠ seqQ f st i) {x : Nat × (Int × Int) × Int} (hx : f (seqQ f st i) = some x) : GoingQ f st (i + 1) where
  go j hj := by
    by_cases e : j = i
    · exact e ▸ ⟨x, hx⟩
    · exact g.go j (by omega)
  diff a b hab hb := by
    by_cases e : b = i
    · rw [e]; exact hn a (by omega)
    · exact g.diff a b hab (by omega)
/-- when a standing was met first -/
def MetQ (f : PStep) (st : PSt) (xs : List NEnt) (i : Nat) : Prop := xs.length = i ∧ ∀ st', nVal xs (pKey st') = none ∧ (∀ j, j < i → seqQ f st j ≠ st') ∨ ∃ j, j < i ∧ seqQ f st j = st' ∧ nVal xs (pKey st') = some (.int j)
theorem MetQ.zero {f : PStep} {st : PSt} : MetQ f st [] 0 := ⟨rfl, fun st' => .inl ⟨rfl, fun j hj => absurd hj (Nat.not_lt_zero _)⟩⟩
theorem MetQ.succ {f : PStep} {st : PSt} {xs : List NEnt} {i : Nat} {b : Addr} (h : MetQ f st xs i) (hn : nVal xs (pKey (seqQ f st i)) = none) : MetQ f st (putN xs (pKey (seqQ f st i)) b (.int i)) (i + 1) := by
  refine ⟨by rw [nVal_new hn, List.length_append, h.1]; rfl, fun st' => ?_⟩
  rw [nVal_new hn, nVal_snoc]
  by_cases c : pKey (seqQ f st i) = pKey st'
  · refine .inr ⟨i, by omega, pKey_inj c, ?_⟩
    rw [if_pos c, ← c, hn]
    rfl
  · rw [if_neg c, Option.or_none]
    rcases h.2 st' with ⟨a, b⟩ | ⟨j, hj, a, b⟩
    · refine .inl ⟨a, fun j hj z => ?_⟩
      by_cases e : j = i
      · subst e
        exact c (by rw [z])
      · exact b j (by omega) z
    · exact .inr ⟨j, by omega, a, b⟩
/-- a step as it is told: at t -/
def StepQ (H : Hp) (t : Addr) (x : Nat × (Int × Int) × Int) : Prop := ∃ u, H t = some (.tup [.int (x.1 : Nat), .ref u, .int x.2.2]) ∧ H u = some (tupQ x.2.1)
theorem StepQ.mono {H H' : Hp} {t : Addr} {x : Nat × (Int × Int) × Int} (h : StepQ H t x) (s : ∀ b xs, H b = some (.tup xs) → H' b = some (.tup xs)) : StepQ H' t x := by
  obtain ⟨u, a, b⟩ := h
  exact ⟨u, s _ _ a, s _ _ b⟩
/-- what the steps that are kept tell -/
def MemoQ (H : Hp) (f : PStep) (pool : PSt) (n : Nat) (xs : List NEnt) : Prop := (∃ l : List PSt, xs.map (·.1) = l.map pKey ∧ l.Nodup ∧ ∀ st ∈ l, PoolOk pool st ∧ st.length = n) ∧
  ∀ st v, nVal xs (pKey st) = some v → (f st = none ∧ v = .non) ∨ ∃ x t, f st = some x ∧ v = .ref t ∧ StepQ H t x
theorem MemoQ.nil {H : Hp} {f : PStep} {pool : PSt} {n : Nat} : MemoQ H f pool n [] := ⟨⟨[], rfl, List.nodup_nil, fun _ h => nomatch h⟩, fun _ _ h => nomatch h⟩
theorem MemoQ.le {H : Hp} {f : PStep} {pool : PSt} {n : Nat} {xs : List NEnt} (h : MemoQ H f pool n xs) (p27 : pool.length ≤ 27) (n5 : n ≤ 5) : xs.length ≤ 14348907 := by
  obtain ⟨l, e, nd, hl⟩ := h.1
  have := pools_le nd p27 n5 fun st hs => ⟨(hl st hs).1.2.2, (hl st hs).2⟩
  have e2 := congrArg List.length e
  rw [List.length_map, List.length_map] at e2
  omega
theorem MemoQ.mono {H H' : Hp} {f : PStep} {pool : PSt} {n : Nat} {xs : List NEnt} (h : MemoQ H f pool n xs) (s : ∀ t xs, H t = some (.tup xs) → H' t = some (.tup xs)) : MemoQ H' f pool n xs :=
  ⟨h.1, fun st v e => (h.2 st v e).elim .inl fun ⟨x, t, a, b, c⟩ => .inr ⟨x, t, a, b, c.mono s⟩⟩
theorem MemoQ.put {H : Hp} {f : PStep} {pool : PSt} {n : Nat} {xs : List NEnt} (h : MemoQ H f pool n xs) {st : PSt} (so : PoolOk pool st) (hl : st.length = n) (hn : nVal xs (pKey st) = none) {b : Addr} {v : V}
    (hv : (f st = none ∧ v = .non) ∨ ∃ x t, f st = some x ∧ v = .ref t ∧ StepQ H t x) : MemoQ H f pool n (putN xs (pKey st) b v) := by
  obtain ⟨l, e, nd, hl'⟩ := h.1
  have nin := nVal_none hn
  rw [nVal_new hn]
  refine ⟨⟨l ++ [st], by rw [List.map_append, List.map_append, e]; rfl, ?_, fun x hx => ?_⟩, fun st' v' e' => ?_⟩
  · refine nd_snoc nd fun z => ?_
    have : pKey st ∈ xs.map (·.1) := by rw [e]; exact List.mem_map.mpr ⟨st, z, rfl⟩
    obtain ⟨y, hy, ey⟩ := List.mem_map.mp this
    exact nin y hy ey
  · rcases List.mem_append.mp hx with hx | hx
    · exact hl' x hx
    · obtain rfl := List.mem_singleton.mp hx
      exact ⟨so, hl⟩
  · rw [nVal_snoc] at e'
    by_cases c : pKey st = pKey st'
    · rw [if_pos c, ← c, hn] at e'
      have e' : some v = some v' := e'
      cases e'
      rw [← pKey_inj c]
      exact hv
    · rw [if_neg c, Option.or_none] at e'
      exact h.2 st' v' e'
/-- a list of changes: the seller, and its new place and price -/
def PMvsAt (H : Hp) (m : Addr) (mv : List PMv) : Prop := ∃ ts : List Addr, H m = some (.lst (ts.map V.ref)) ∧ Paired (fun t (x : PMv) => ∃ u, H t = some (.tup [.int x.1, .ref u]) ∧ H u = some (tupQ x.2)) ts mv
theorem PMvsAt.same {H H' : Hp} {m : Addr} {mv : List PMv} (h : PMvsAt H m mv) (s : Same H H') : PMvsAt H' m mv := by
  obtain ⟨ts, a, b⟩ := h
  exact ⟨ts, s _ _ a, L2.Paired.mapP b fun t x ⟨u, y, z⟩ => ⟨u, s _ _ y, s _ _ z⟩⟩
end SS

set_option Elab.async false
set_option maxRecDepth 100000
set_option linter.all false
set_option maxHeartbeats 4000000
namespace SS
open PySem L2
/-! ### rings: all sellers of all rings to twelve places, one by one -/
def rdN (m i p : Nat) : Nat := (Nat.sub i p + Nat.sub p i) - (2 * (Nat.sub i p + Nat.sub p i) - m)
def mnN (m i : Nat) : List Nat → Nat
  | [] => 100
  | p :: l => mnN m i l - (mnN m i l - rdN m i p)
def cntN (m i mn : Nat) : List Nat → Nat
  | [] => 0
  | p :: l => (1 - (rdN m i p - mn)) + cntN m i mn l
def unitNN : Nat → Nat
  | 0 => 0
  | 1 => 1
  | 2 => 2
  | 3 => 6
  | 4 => 12
  | _ => 60
def shN (m : Nat) (st : List Nat) (p u : Nat) : Nat → Nat
  | 0 => 0
  | i + 1 => shN m st p u i + (1 - (rdN m i p - mnN m i st)) * (u / cntN m i (mnN m i st) st)
def gapN (m : Nat) (st : List Nat) (c k : Nat) : Nat := (st.getD k 0 + m - st.getD ((k + c - 1) % c) 0) % m + (st.getD ((k + 1) % c) 0 + m - st.getD k 0) % m
def okR (m : Nat) (st : List Nat) : Bool := Nat.ble st.length 1 || (List.range st.length).all fun k => Nat.beq (2 * shN m st (st.getD k 0) (unitNN st.length) m) (unitNN st.length * gapN m st st.length k)
def subsC : Nat → Nat → List (List Nat)
  | 0, _ => [[]]
  | _ + 1, 0 => [[]]
  | n + 1, c + 1 => subsC n (c + 1) ++ (subsC n c).map (· ++ [n])
theorem ring12 : (subsC 12 5).all (okR 12) = true := by decide +kernel
theorem ring11 : (subsC 11 5).all (okR 11) = true := by decide +kernel
theorem ring10 : (subsC 10 5).all (okR 10) = true := by decide +kernel
theorem ring9 : (subsC 9 5).all (okR 9) = true := by decide +kernel
theorem ring8 : (subsC 8 5).all (okR 8) = true := by decide +kernel
theorem ring7 : (subsC 7 5).all (okR 7) = true := by decide +kernel
theorem ring6 : (subsC 6 5).all (okR 6) = true := by decide +kernel
theorem ring5 : (subsC 5 5).all (okR 5) = true := by decide +kernel
theorem rings {m : Nat} (h5 : 5 ≤ m) (h12 : m ≤ 12) : (subsC m 5).all (okR m) = true := by
  have : m = 5 ∨ m = 6 ∨ m = 7 ∨ m = 8 ∨ m = 9 ∨ m = 10 ∨ m = 11 ∨ m = 12 := by omega
  rcases this with rfl | rfl | rfl | rfl | rfl | rfl | rfl | rfl
  · exact ring5
  · exact ring6
  · exact ring7
  · exact ring8
  · exact ring9
  · exact ring10
  · exact ring11
  · exact ring12
end SS

set_option Elab.async false
set_option maxRecDepth 100000
set_option linter.all false
set_option maxHeartbeats 4000000
namespace SS
open PySem L2
/-! ### on a tree the medians are the places that none beats -/
section
variable {m : Nat} {rs : List Road}
end
end SS

set_option Elab.async false
set_option maxRecDepth 100000
set_option linter.all false
set_option maxHeartbeats 4000000
namespace SS
open PySem L2
/-! ### steps and plays where all folk, or all lengths, are so many times as many -/
/-! ### the same shares where the ways lie in the same order -/
/-! ### plays that go alike -/
/-! ### plays by turns that go alike -/
def TLike (g g' : TurnFn) (m : Nat) : Prop := ∀ s k, StOk m s → k < s.length → (g' s k).map Prod.fst = (g s k).map Prod.fst
theorem TLike.at {g g' : TurnFn} {m : Nat} (e : TLike g g' m) (h : TurnOk g m) {st : List Int} (so : StOk m st) (i : Nat) : (g' (tS g st i) (i % st.length)).map Prod.fst = (g (tS g st i) (i % st.length)).map Prod.fst := by
  obtain ⟨a, b⟩ := tS_ok h so i
  exact e _ _ a (by rw [b]; exact Nat.mod_lt _ so.1)
end SS

set_option Elab.async false
set_option maxRecDepth 100000
set_option linter.all false
set_option maxHeartbeats 4000000
namespace HT
open PySem PySem.Spec PyProof.Rows
open Builtin
/-! ### tuples so many times, tuples joined to an empty one, tuples sorted -/
section
variable {prog : Program} {w : World} {A : Around} {E : Value → Shared → Prop} {s : Shared}
end
end HT
namespace L2
open PySem PySem.Spec PyProof.Rows
section
variable {X : Cx} {K : PySem.W.Frag}
end
/-! ### what is walked within a comprehension of two fors: whatever is done at each turn -/
section
variable {K : PySem.W.Frag} {a : Addr} {xs : List V} {C : (Hp → Prop) → V → Hp → Prop} {H0 : Hp} {Qd : Hp → Prop}
end
end L2

set_option Elab.async false
set_option maxRecDepth 100000
set_option linter.all false
set_option maxHeartbeats 4000000
namespace SS
open PySem L2
/-! ### all standings of so many sellers -/
/-- lists of tuples -/
def StdsAt (H : Hp) (a : Addr) (L : List (List Int)) : Prop := ∃ ts : List Addr, H a = some (.lst (ts.map V.ref)) ∧ Paired (fun t s => H t = some (.tup (intsV s))) ts L
theorem StdsAt.same {H H' : Hp} {a : Addr} {L : List (List Int)} (d : StdsAt H a L) (s : Same H H') : StdsAt H' a L := by
  obtain ⟨ts, e, p⟩ := d
  exact ⟨ts, s _ _ e, Paired.mapP p fun t e z => s _ _ z⟩
/-- lists of their own, one by one -/
def LsN (H0 H : Hp) (r : Addr) (L : List (List Int)) (rows : List Addr) : Prop := LL H0 H r L.length (fun i => L.getD i []) rows
theorem LsN.snoc {H0 H : Hp} {r p : Addr} {L : List (List Int)} {rows : List Addr} {x : List Int} (a : LsN H0 H r L rows) (s : Same H0 H) (hp : H p = none) : LsN H0 (upd (upd H p (.lst (intsV x))) r (.lst (rows.map V.ref ++ [.ref p]))) r (L ++ [x]) (rows ++ [p]) := by
  have npr : p ≠ r := (ne_of_none a.lst hp).symm
  have out : ∀ i (hi : i < rows.length), rows[i] ≠ p := fun i hi z => by
    have := a.at_ i hi
    rw [z, hp] at this
    cases this
  refine ⟨by rw [upd_same, List.map_append]; rfl, a.new, fun z => ?_, by rw [List.length_append, List.length_append, a.len]; rfl, ?_, fun y hy => ?_, fun i hi => ?_⟩
  · rcases List.mem_append.mp z with z | z
    · exact a.out z
    · exact npr (List.mem_singleton.mp z).symm
  · refine List.nodup_append.mpr ⟨a.nd, by simp, fun y hy z hz e => ?_⟩
    rw [List.mem_singleton.mp hz] at e
    obtain ⟨i, hi, e2⟩ := List.getElem_of_mem hy
    exact out i hi (e2.trans e)
  · rcases List.mem_append.mp hy with z | z
    · exact a.nwr y z
    · rw [List.mem_singleton.mp z]; exact s.free hp
  · by_cases c : i < rows.length
    · have e1 : (rows ++ [p])[i] = rows[i] := List.getElem_append_left c
      have e2 : (L ++ [x]).getD i [] = L.getD i [] := by
        have : i < L.length := by rw [← a.len]; exact c
        rw [List.getD_eq_getElem?_getD, List.getElem?_append_left this, ← List.getD_eq_getElem?_getD]
      rw [e1, e2]
      rw [upd_ne (fun z : rows[i] = r => a.out (z ▸ (List.getElem_mem c : rows[i] ∈ rows))), upd_ne (out i c)]
      exact a.at_ i c
    · have hi' : i = rows.length := by rw [List.length_append] at hi; have : i < rows.length + 1 := hi; omega
      subst hi'
      have e1 : (rows ++ [p])[rows.length] = p := List.getElem_concat_length rfl _
      have e2 : (L ++ [x]).getD rows.length [] = x := by
        rw [a.len, List.getD_eq_getElem?_getD, List.getElem?_append_right (Nat.le_refl _)]
        simp
      rw [e1, e2, upd_ne npr, upd_same]
/-- a row that stands already -/
theorem LsN.push {H0 H : Hp} {r p : Addr} {L : List (List Int)} {rows : List Addr} {x : List Int} (a : LsN H0 H r L rows) (np : p ∉ rows) (npr : p ≠ r) (hp0 : H0 p = none) (ep : H p = some (.lst (intsV x))) : LsN H0 (upd H r (.lst (rows.map V.ref ++ [.ref p]))) r (L ++ [x]) (rows ++ [p]) := by
  refine ⟨by rw [upd_same, List.map_append]; rfl, a.new, fun z => ?_, by rw [List.length_append, List.length_append, a.len]; rfl, ?_, fun y hy => ?_, fun i hi => ?_⟩
  · rcases List.mem_append.mp z with z | z
    · exact a.out z
    · exact npr (List.mem_singleton.mp z).symm
  · refine List.nodup_append.mpr ⟨a.nd, by simp, fun y hy z hz e => ?_⟩
    rw [List.mem_singleton.mp hz] at e
    exact np (e ▸ hy)
  · rcases List.mem_append.mp hy with z | z
    · exact a.nwr y z
    · rw [List.mem_singleton.mp z]; exact hp0
  · by_cases c : i < rows.length
    · have e1 : (rows ++ [p])[i] = rows[i] := List.getElem_append_left c
      have e2 : (L ++ [x]).getD i [] = L.getD i [] := by
        have : i < L.length := by rw [← a.len]; exact c
        rw [List.getD_eq_getElem?_getD, List.getElem?_append_left this, ← List.getD_eq_getElem?_getD]
      rw [e1, e2]
      rw [upd_ne (fun z : rows[i] = r => a.out (z ▸ (List.getElem_mem c : rows[i] ∈ rows)))]
      exact a.at_ i c
    · have hi' : i = rows.length := by rw [List.length_append] at hi; have : i < rows.length + 1 := hi; omega
      subst hi'
      have e1 : (rows ++ [p])[rows.length] = p := List.getElem_concat_length rfl _
      have e2 : (L ++ [x]).getD rows.length [] = x := by
        rw [a.len, List.getD_eq_getElem?_getD, List.getElem?_append_right (Nat.le_refl _)]
        simp
      rw [e1, e2, upd_ne npr]
      exact ep
theorem rng_getD' {α : Type} (d : α) (L : List α) : (List.range L.length).map (fun i => L.getD i d) = L := by
  refine List.ext_getElem (by simp) fun i h1 h2 => ?_
  simp [h2]
theorem LsN.ls {H0 H : Hp} {r : Addr} {L : List (List Int)} {rows : List Addr} (a : LsN H0 H r L rows) : LsAt H r L := by
  have := LL.ls a
  rwa [rng_getD'] at this
end SS

set_option Elab.async false
set_option maxRecDepth 100000
set_option linter.all false
set_option maxHeartbeats 4000000
namespace L2
open PySem PySem.Spec PyProof.Rows
/-! ### for x in range(j), j of any size below nothing -/
section
variable {X : Cx} {tg : Expr}
end
end L2

set_option Elab.async false
set_option maxRecDepth 100000
set_option linter.all false
set_option maxHeartbeats 4000000
namespace L2
open PySem PySem.Spec PyProof.Rows
end L2

set_option Elab.async false
set_option maxRecDepth 100000
set_option linter.all false
set_option maxHeartbeats 4000000
namespace HT
open PySem PySem.Spec PyProof.Rows
open Builtin
open PySem.SeqAt
open PySem.AutoSeq1 (wpAny_loadPart')
open PySem.MeetsSeq PySem.MeetsSeq2 PySem.MeetsSeq3
/-! ### xs < ys of lists of ints, equally long -/
theorem ints_at : ∀ {vs : List Value} {ns : List Int}, IntsAre vs ns → ∀ i, i < vs.length → ∃ a t, vs[i]? = some (.int a t) ∧ ns[i]? = some a
  | _, _, .nil, i, h => by simp at h
  | _, _, .cons a t r, 0, _ => ⟨a, t, rfl, rfl⟩
  | _, _, .cons a t r, i + 1, h => by simpa using ints_at r i (by simpa using h)
theorem drop_at {ns : List Int} {i : Nat} {a : Int} (h : ns[i]? = some a) : ns.drop i = a :: ns.drop (i + 1) := by
  obtain ⟨hi, e⟩ := List.getElem?_eq_some_iff.mp h
  rw [List.drop_eq_getElem_cons hi, e]
theorem list_lt_loop (l b : Addr) (items items2 : Array Value) (n n2 : Nat) (dd dd2 : Option Addr) (sl sl2 : Array (Option Value)) (ns ms : List Int) (hi : IntsAre items.toList ns) (hj : IntsAre items2.toList ms) (hsz : items.size = items2.size) (k : Nat) :
    ∀ i : Nat, items.size - i = k → i ≤ items.size → Meets (Builtin.«list.__eq__.loop» ⟨[.ref l, .ref b, rawInt i, rawInt 0], []⟩)
      (fun _ R s => s.heap.get? l = some { cls := .type "list", dict := dd, data := .seq items n, slots := sl } ∧ s.heap.get? b = some { cls := .type "list", dict := dd2, data := .seq items2 n2, slots := sl2 } ∧
        R (.ok (.ret (.bool (lexLt (ns.drop i) (ms.drop i))))) s) := by
  have z1 : items.size = ns.length := by rw [← hi.length]; simp
  have z2 : items2.size = ms.length := by rw [← hj.length]; simp
  induction k with
  | zero =>
    intro i hk hle prog w A R s h
    obtain ⟨hp, g, d, tk, os⟩ := s; obtain ⟨hl, hb, h⟩ := h
    wp_walk using wpAny_loadPart' hl, wpAny_loadPart' hb
    have hi1 : items[((i : Nat) : Int).toNat]? = none := by simp; omega
    have hi2 : items2[((i : Nat) : Int).toNat]? = none := by simp; omega
    rw [List.drop_of_length_le (by omega), List.drop_of_length_le (by omega), lexLt_nil_nil] at h
    rw [hi1, hi2]
    wp_walk using wpAny_loadPart' hl, wpAny_loadPart' hb
    show R (.ok (.ret (.bool (decide (items.size < items2.size))))) _
    rw [hsz, decide_eq_false (by omega)]
    exact h
  | succ k ih =>
    intro i hk hle prog w A R s h
    obtain ⟨hp, g, d, tk, os⟩ := s; obtain ⟨hl, hb, h⟩ := h
    wp_walk using wpAny_loadPart' hl, wpAny_loadPart' hb
    obtain ⟨a, t, ea, na⟩ := ints_at hi i (by simp; omega)
    obtain ⟨c, u, ec, nc⟩ := ints_at hj i (by simp; omega)
    have hi1 : items[((i : Nat) : Int).toNat]? = some (.int a t) := by rw [← ea]; simp
    have hi2 : items2[((i : Nat) : Int).toNat]? = some (.int c u) := by rw [← ec]; simp
    have hc : ((i : Int) + 1) = ((i + 1 : Nat) : Int) := by push_cast; rfl
    rw [drop_at na, drop_at nc, lexLt_cons] at h
    rw [hi1, hi2]
    obtain ⟨e, he, hiff⟩ := eqAt_int A.in1 ⟨hp, g, d, tk, os⟩ a t c u
    refine wpAny_bind (he prog w _ _ ?_)
    cases e with
    | true =>
      rw [if_pos (hiff.mp rfl)] at h
      wp_walk
      rw [hc]
      exact ⟨plainId_quiet plain_eq_loop _, codeAny_builtin entry_eq_loop (by
        rw [Around.under_plainId plain_eq_loop _]
        exact ih (i + 1) (by omega) (by omega) prog w A R _ ⟨hl, hb, h⟩)⟩
    | false =>
      rw [if_neg (fun q => absurd (hiff.mpr q) Bool.false_ne_true)] at h
      have hri := rcLt_int A.in1 ⟨hp, g, d, tk, os⟩ a t c u prog w
      wp_walk using wpAny_loadPart' hl, wpAny_loadPart' hb
      rw [hi1, hi2]
      wp_walk using hri
      exact h
theorem list_lt_ints (l b : Addr) (items items2 : Array Value) (n n2 : Nat) (dd dd2 : Option Addr) (sl sl2 : Array (Option Value)) (ns ms : List Int) (hi : IntsAre items.toList ns) (hj : IntsAre items2.toList ms) (hsz : items.size = items2.size) :
    Meets (Builtin.«list.__lt__» ⟨[.ref l, .ref b], []⟩)
      (fun _ R s => s.heap.get? l = some { cls := .type "list", dict := dd, data := .seq items n, slots := sl } ∧ s.heap.get? b = some { cls := .type "list", dict := dd2, data := .seq items2 n2, slots := sl2 } ∧
        R (.ok (.ret (.bool (lexLt ns ms)))) s) := by
  intro prog w A R s h
  obtain ⟨hp, g, d, tk, os⟩ := s; obtain ⟨hl, hb, h⟩ := h
  have f3 := AutoSeq1.sub_list_list
  wp_walk using wpAny_loadPart' hl, wpAny_loadPart' hb
  exact ⟨plainId_quiet plain_eq_loop _, codeAny_builtin entry_eq_loop (by
    rw [Around.under_plainId plain_eq_loop _]
    exact list_lt_loop l b items items2 n n2 dd dd2 sl sl2 ns ms hi hj hsz _ 0 rfl (Nat.zero_le _) prog w A R _ ⟨hl, hb, h⟩)⟩
section
variable {prog : Program} {w : World} {A : Around} {E : Value → Shared → Prop} {s : Shared}
/-- what x < y says, at s -/
def LtAt2 (A : Around) (s : Shared) (x y : Value) (b : Bool) : Prop := ∀ (prog : Program) (w : World) (E Q : Value → Shared → Prop), Q (.bool b) s → wpAny (model prog w) A (richCompare .Lt x y) Q E s
theorem LtAt2.lists {l b : Addr} {items items2 : Array Value} {ns ms : List Int} (hl : s.heap.IsList l items) (hb : s.heap.IsList b items2) (hi : IntsAre items.toList ns) (hj : IntsAre items2.toList ms) (hsz : ns.length = ms.length) (hu : A.units < cLine) :
    LtAt2 A s (.ref l) (.ref b) (lexLt ns ms) := fun prog w E Q h => by
  have z1 : items.size = ns.length := by rw [← hi.length]; simp
  have z2 : items2.size = ms.length := by rw [← hj.length]; simp
  obtain ⟨⟨cls, dd, data, sl⟩, ho, hc, n, hd⟩ := id hl
  obtain ⟨⟨cls2, dd2, data2, sl2⟩, ho2, hc2, n2, hd2⟩ := id hb
  simp only at hc hd hc2 hd2
  subst hc hd hc2 hd2
  exact richCompare_meets_room (op := .Lt) ⟨_, ho, rfl⟩ ⟨_, ho2, rfl⟩ PySem.F.slot_list_lt PySem.F.entry_list_lt (PySem.F.args_list_lt_2 _ _) (list_lt_ints l b items items2 n n2 dd dd2 sl sl2 ns ms hi hj (by omega))
    ⟨ho, ho2, show Value.bool (lexLt ns ms) ≠ Value.notImplemented ∧ Q (.bool (lexLt ns ms)) s from ⟨(fun x => nomatch x), h⟩⟩ hu
theorem tuple_lt_pair (l b la lb : Addr) (k1 k2 : Int) (t1 t2 : Tok) (n n2 : Nat) (dd dd2 : Option Addr) (sl sl2 : Array (Option Value)) (e r : Bool) :
    Meets (Builtin.«tuple.__lt__» ⟨[.ref l, .ref b], []⟩)
      (fun A R s => s.heap.get? l = some { cls := .type "tuple", dict := dd, data := .seq #[.int k1 t1, .ref la] n, slots := sl } ∧ s.heap.get? b = some { cls := .type "tuple", dict := dd2, data := .seq #[.int k2 t2, .ref lb] n2, slots := sl2 } ∧
        EqAt A.in1 s (.ref la) (.ref lb) e ∧ LtAt2 A.in1 s (.ref la) (.ref lb) r ∧
        R (.ok (.ret (.bool (if k1 = k2 then (if e = true then false else r) else decide (k1 < k2))))) s) :=
  .of_wp fun prog w A R s h => by
    obtain ⟨hp, g, d, tk, os⟩ := s; obtain ⟨hl, hb, he, hr, h⟩ := h
    have f2 := AutoSeq1.sub_tuple_tuple
    wp_walk using wpAny_loadPart' hl, wpAny_loadPart' hb, wpAny_forIn_list _ (fun rest b s' => b.1 = none ∧ s' = ⟨hp, g, d, tk, os⟩ ∧ (rest = [(.int k1 t1, .int k2 t2), (.ref la, .ref lb)] ∨ (rest = [(.ref la, .ref lb)] ∧ k1 = k2) ∨ (rest = [] ∧ k1 = k2 ∧ e = true))) _
    case turn =>
      rintro ⟨y, x⟩ rest b s' ⟨hb', rfl, hz | ⟨hz, hk⟩ | ⟨hz, _⟩⟩
      · injection hz with hyx hrest
        injection hyx with hy hx
        subst hy hx
        obtain ⟨e1, he1, hiff⟩ := eqAt_int A.in1 ⟨hp, g, d, tk, os⟩ k1 t1 k2 t2
        refine wpAny_bind (he1 prog w _ _ ?_)
        cases e1 with
        | true =>
          wp_walk
          exact ⟨rfl, rfl, .inr (.inl ⟨hrest, hiff.mp rfl⟩)⟩
        | false =>
          rw [if_neg (fun q => absurd (hiff.mpr q) Bool.false_ne_true)] at h
          have hri := rcLt_int A.in1 ⟨hp, g, d, tk, os⟩ k1 t1 k2 t2 prog w
          wp_walk using hri
          exact ⟨_, rfl, by simpa using h⟩
      · injection hz with hyx hrest
        injection hyx with hy hx
        subst hy hx
        rw [if_pos hk] at h
        refine wpAny_bind (he prog w _ _ ?_)
        cases e with
        | true =>
          wp_walk
          exact ⟨rfl, rfl, .inr (.inr ⟨hrest, hk, rfl⟩)⟩
        | false =>
          have hri := hr prog w
          wp_walk using hri
          exact ⟨_, rfl, by simpa using h⟩
      · cases hz
    case fin =>
      rintro ⟨b1, b2⟩ s' ⟨hb', rfl, hz | ⟨hz, hk⟩ | ⟨_, hk, ee⟩⟩
      · cases hz
      · cases hz
      · simp only at hb'
        subst hb'
        rw [if_pos hk, if_pos ee] at h
        wp_walk
        exact ⟨_, rfl, by simpa [Builtin.Tuple.tupleCompareSizes] using h⟩
    case h =>
      exact ⟨rfl, rfl, .inl rfl⟩
end
section
variable {prog : Program} {w : World} {A : Around} {R : Result → Shared → Prop} {I : Addr} {fp wr : List Addr} {n : Nat} {P : Nat → Value → Prop} {St : Nat → Heap → Prop}
def KeptH (h0 h : Heap) : Prop := ∀ b o, h0.get? b = some o → h.get? b = some o
end
section
variable {prog : Program} {w : World} {A : Around} {E : Value → Shared → Prop} {s : Shared}
end
/-- a tuple of a number and a list of numbers -/
def PairAt (h : Heap) (b : Addr) (k : Int) (ns : List Int) : Prop := ∃ (t : Tok) (la : Addr) (n : Nat) (dd : Option Addr) (sl : Array (Option Value)) (items : Array Value),
  h.get? b = some { cls := .type "tuple", dict := dd, data := .seq #[.int k t, .ref la] n, slots := sl } ∧ h.IsList la items ∧ IntsAre items.toList ns
theorem PairAt.kept {h h' : Heap} {b : Addr} {k : Int} {ns : List Int} (p : PairAt h b k ns) (g : KeptH h h') : PairAt h' b k ns := by
  obtain ⟨t, la, n, dd, sl, items, a, c, d⟩ := p
  exact ⟨t, la, n, dd, sl, items, g _ _ a, c.at fun o e => g _ _ e, d⟩
theorem ints_readsAll {h : Heap} : ∀ {vs : List Value} {ns : List Int}, IntsAre vs ns → ReadsAll h vs (ns.map PyData.int) []
  | _, _, .nil => .nil
  | _, _, .cons a t r => ReadsAll.cons (as := []) (bs := []) (.int _ _) (ints_readsAll r)
theorem LtAt2.pairs {A : Around} {s : Shared} {x y : Addr} {k1 k2 : Int} {ns ms : List Int} (p1 : PairAt s.heap x k1 ns) (p2 : PairAt s.heap y k2 ms) (hl : ns.length = ms.length) (h1000 : ns.length ≤ 1000) (hu : A.units + 8 < cLine) :
    LtAt2 A s (.ref x) (.ref y) (lexLt (k1 :: ns) (k2 :: ms)) := fun prog w E Q h => by
  obtain ⟨t1, la, n1, dd1, sl1, it1, e1, l1, i1⟩ := p1
  obtain ⟨t2, lb, n2, dd2, sl2, it2, e2, l2, i2⟩ := p2
  obtain ⟨o1, ho1, hc1, c1, hd1⟩ := id l1
  obtain ⟨o2, ho2, hc2, c2, hd2⟩ := id l2
  have r1 : Reads s.heap (.ref la) (.list (ns.map PyData.int)) (la :: []) := Reads.list ho1 hc1 hd1 (ints_readsAll i1)
  have r2 : Reads s.heap (.ref lb) (.list (ms.map PyData.int)) (lb :: []) := Reads.list ho2 hc2 hd2 (ints_readsAll i2)
  have y1 := SS.PD.lay 2 _ (SS.PD.ints h1000 0)
  have y2 := SS.PD.lay 2 _ (SS.PD.ints (ns := ms) (by omega) 0)
  have eq := eqAt_reads _ _ A.in1 s _ _ _ _ r1 r2 y1.1 y2.1 (by have := y1.2; have : A.in1.units = A.units + 1 := rfl; omega)
  rw [SS.eqv_ints] at eq
  have lt := LtAt2.lists (A := A.in1) (s := s) l1 l2 i1 i2 hl (by have : A.in1.units = A.units + 1 := rfl; omega)
  have ev : (if k1 = k2 then (if decide (ns = ms) = true then false else lexLt ns ms) else decide (k1 < k2)) = lexLt (k1 :: ns) (k2 :: ms) := by
    rw [lexLt_cons]
    by_cases c : k1 = k2
    · rw [if_pos c, if_pos c]
      by_cases d : ns = ms
      · rw [if_pos (decide_eq_true d), d]
        have go : ∀ l : List Int, lexLt l l = false := fun l => by
          induction l with
          | nil => rfl
          | cons a l ih => rw [lexLt_cons, if_pos rfl]; exact ih
        exact (go ms).symm
      · rw [if_neg (by simp [d])]
    · rw [if_neg c, if_neg c]
  rw [← ev] at h
  exact richCompare_meets_room (op := .Lt) ⟨_, e1, rfl⟩ ⟨_, e2, rfl⟩ PySem.F.slot_tuple_lt PySem.F.entry_tuple_lt (PySem.F.args_tuple_lt_2 _ _) (tuple_lt_pair x y la lb k1 k2 t1 t2 n1 n2 dd1 dd2 sl1 sl2 (decide (ns = ms)) (lexLt ns ms))
    ⟨e1, e2, eq, lt, show Value.bool _ ≠ Value.notImplemented ∧ Q _ s from ⟨(fun x => nomatch x), h⟩⟩ (by omega)
end HT
namespace L2
open PySem PySem.Spec PyProof.Rows
section
variable {X : Cx} {K : PySem.W.Frag}
end
end L2

set_option Elab.async false
set_option maxRecDepth 100000
set_option linter.all false
set_option maxHeartbeats 4000000
namespace L2
open PySem PySem.Spec PyProof.Rows
end L2

set_option Elab.async false
set_option maxRecDepth 100000
set_option linter.all false
set_option maxHeartbeats 4000000
namespace SS
open PySem L2
/-! ### sellers of one price -/
end SS

set_option Elab.async false
set_option maxRecDepth 100000
set_option linter.all false
set_option maxHeartbeats 4000000
namespace L2
open PySem PySem.Spec PyProof.Rows
/-! ### sorted(xs, key=lambda ..: ..), xs a list of ints, the key an int -/
section
variable {X : Cx} {pins : List (Addr × Obj)} {σ : St} {H : Hp} {s : Shared}
/-- things of one's own, untracked and unpinned, may be changed -/
theorem Inv.offs {h' : Heap} {t' : Nat} (ch : List Addr) (I : Inv X pins σ H s) (hn : ∀ b ∈ ch, H b = none) (h0 : ∀ b ∈ ch, X.s_0.heap.objs.size ≤ b) (nl : ∀ b ∈ ch, b ≠ X.env.locals) (nc : ∀ b ∈ ch, ∀ x c, X.env.cells.lookup x = some c → c ≠ b)
    (np : ∀ b ∈ ch, ∀ p ∈ X.pn ++ pins, p.1 ≠ b) (k : ∀ b u, b ∉ ch → b ≠ X.env.locals → s.heap.get? b = some u → h'.get? b = some u) (ns : ∀ m, s.heap.Ns X.env.locals m → h'.Ns X.env.locals m) : Inv X pins σ H { s with heap := h', toks := t' } := by
  have nH : ∀ {b : Addr} {o : HO}, H b = some o → b ∉ ch := fun e z => by rw [hn _ z] at e; cases e
  have nHL : ∀ {b : Addr} {o : HO}, H b = some o → b ≠ X.env.locals := fun e z => by rw [z, I.free] at e; cases e
  have there : ∀ b o, b ∉ ch → s.heap.get? b = some o → ∃ o', h'.get? b = some o' := fun b o z e => by
    by_cases c : b = X.env.locals
    · obtain ⟨m, hm, _⟩ := I.loc
      obtain ⟨o', _, _, q, _⟩ := ns m hm
      exact ⟨o', c ▸ q⟩
    · exact ⟨o, k b o z c e⟩
  refine I.step (g' := s.gens) (d' := s.drawn) (ch := ch) (fun b hb => ⟨.inr (h0 b hb), nl b hb, nc b hb, np b hb⟩) (fun b o z _ q e _ => k b o q z e) (fun b o z _ q e _ => ⟨o.slots, k b o q z e⟩) (fun b o _ _ n => n) there (fun b xs q => q) (fun b o u q => q) (fun b ps q => ⟨#[], by rw [q]; simp⟩) ns (fun b o e => ?_) I.bare
  refine (I.hok b o e).stay (fun d v hd q => ?_) (fun d q => q) fun d xs q => q
  rcases hd with rfl | hd
  · exact k _ _ (nH e) (nHL e) q
  · exact k _ _ (nH hd) (nHL hd) q
end
section
variable {X : Cx} {pins : List (Addr × Obj)} {σ : St} {H : Hp} {s : Shared} {k : Nat} {g c' : Addr} {lps LN : List Str} {params : Arguments} {body : Expr} {sc : Scope} {clos : List (Str × Addr)} {ix : List Nat} {capV : List V} {sg : Sp} {oc : Obj} {ctv : Value}
/-- what is promised of a lambda while it is pinned -/
theorem lam_fc {good : List V → Sp → Prop} {cvs : Array Value} {t : Tok} {u : HO} {pm : Value} (I : Inv X ((g, PySem.W.kla_obj "<lambda>" (X.env.qual ++ "<lambda>") params body sc clos pm c' ctv) :: pins) σ H s)
    (eF : H c' = some (.frz oc u)) (hd : oc.data = .fields cvs) (hv : cvs[1]? = some (.str (X.env.qual ++ "<lambda>") t)) (hcv : (ix.map fun i => σ[i]?) = capV.map (fun v => some (some v)))
    (hix : ix.map (fun i => X.N[i]?) = clos.map fun q => some q.1) (hce : ∀ q ∈ clos, X.env.cells.lookup q.1 = some q.2 ∧ X.env.kindOf q.1 = some .cell) (S : LamScope LN lps sc clos) (hfn : ∀ y, X.fn y = true)
    (gd : good capV sg) (glen : ∀ capV sg vs H Q E, good capV sg → sg vs H Q E → vs.length = lps.length)
    (hbind : ∀ us : List Value, us.length = lps.length → bindArgs (PySem.W.kla_fn "<lambda>" (X.env.qual ++ "<lambda>") params body sc clos pm (.ref c') ctv) ⟨us, []⟩ = pure (lps.zip us))
    (hlam : ∀ (A : Around) (outer : List Env) (s : Shared) (H : Hp) (vs capV : List V) (sg : Sp) (Q : VK) (E : XK), Room k (A.deeper (PySem.W.envX (X.env.qual ++ "<lambda>") sc s.heap.objs.size g (.ref c') clos)) → capV.length = clos.length → good capV sg → sg vs H Q E →
      ∃ t, PE (cxLam X.prog X.w X.K X.mg X.base LN (X.env.qual ++ "<lambda>") sc g c' clos A outer s H) body t ∧ t (vs.map some ++ capV.map some) H Q) :
    ∃ cs, Cons cs (frs X.stack) H s.heap ∧ FnOkC X.prog X.w X.K X.mg X.base (k + 1) cs g sg := by
  have l1 : ix.length = clos.length := by have := congrArg List.length hix; simpa using this
  have l2 : capV.length = clos.length := by have := congrArg List.length hcv; rw [List.length_map, List.length_map] at this; omega
  have ndc : (clos.map (·.1)).Nodup := by
    have := S.nd
    rw [S.eq] at this
    exact (List.nodup_append.mp this).2.1
  have cellAt : ∀ (j : Nat) (x : Str) (d : Addr) (v : V), clos[j]? = some (x, d) → capV[j]? = some v → ∃ o u, s.heap.get? d = some o ∧ o.data = .cell (some u) ∧ RelV v u := fun j x d v e ev => by
    have hj : j < ix.length := by rw [l1]; exact (List.getElem?_eq_some_iff.mp e).1
    have eN : X.N[ix[j]]? = some x := by
      have := congrArg (fun l => l[j]?) hix
      simp only [List.getElem?_map, List.getElem?_eq_getElem hj, e, Option.map_some] at this
      exact Option.some.inj this
    have eS : σ[ix[j]]? = some (some v) := by
      have := congrArg (fun l => l[j]?) hcv
      simp only [List.getElem?_map, List.getElem?_eq_getElem hj, ev, Option.map_some] at this
      exact Option.some.inj this
    have hq := hce _ (List.mem_of_getElem? e)
    obtain ⟨m, hn, hl⟩ := I.loc
    obtain ⟨u, ru, lk⟩ := hl _ x v eN eS (.inr (.inl hq.2))
    rcases lk with ⟨k1, _⟩ | ⟨_, d', e', o, ho, hd⟩
    · rw [hq.2] at k1; cases k1
    · rw [hq.1] at e'
      cases e'
      exact ⟨o, u, ho, hd, ru⟩
  have notF : ∀ d o, s.heap.get? d = some o → H d = none → d ≠ X.env.locals → d ∉ X.fs → d ∉ frs X.stack := fun d o _ _ n1 n2 z => (List.mem_cons.mp (I.stkSub _ z)).elim n1 n2
  have cons : Cons ((g, PySem.W.kla_obj "<lambda>" (X.env.qual ++ "<lambda>") params body sc clos pm c' ctv) :: (c', oc) :: clos.map fun q => (q.2, (s.heap.get? q.2).getD { cls := .none, data := .plain })) (frs X.stack) H s.heap := by
    intro q hq
    rcases List.mem_cons.mp hq with rfl | hq
    · obtain ⟨p1, p2, p3, p4, _⟩ := I.pin _ (List.mem_append_right _ (.head _))
      exact ⟨p1, .inl ⟨p2, notF _ _ p1 p2 p3 p4⟩⟩
    · rcases List.mem_cons.mp hq with rfl | hq
      · exact ⟨(I.hok _ _ eF).1, .inr ⟨_, eF, fun v z => by rw [hd] at z; cases z⟩⟩
      · obtain ⟨r, hr, rfl⟩ := List.mem_map.mp hq
        obtain ⟨j, hj⟩ := List.mem_iff_getElem?.mp hr
        have hj2 : j < capV.length := by rw [l2]; exact (List.getElem?_eq_some_iff.mp hj).1
        obtain ⟨o, u, ho, hdd, _⟩ := cellAt j r.1 r.2 capV[j] hj (List.getElem?_eq_getElem hj2)
        have hl := (hce _ hr).1
        have n2 : H r.2 = none := I.freeC _ _ hl
        refine ⟨by rw [ho]; rfl, .inl ⟨n2, notF _ _ ho n2 (fun z => ?_) fun z => ?_⟩⟩
        · obtain ⟨m, ⟨ob, es, ep, e, d', _⟩, _⟩ := I.loc
          rw [← z, ho] at e
          cases e
          rw [hdd] at d'
          cases d'
        · have := I.ok.cab _ _ (hfn _) hl
          obtain ⟨_, ob, e, _⟩ := I.ok.funs.mem z
          exact absurd (Heap.lt_size e) (Nat.not_lt.mpr this)
  refine ⟨_, cons, ?_⟩
  refine lam_ok (N := LN) (ps := lps) (capV := capV) (.head _) ⟨oc, cvs, t, .tail _ (.head _), hd, hv⟩ S (fun i j x y d e1 e2 => ?_) l2 (fun j x d v e ev => ?_) hbind (fun vs H Q E z => glen _ _ _ _ _ _ gd z) fun A outer s H vs Q E hr hs => hlam A outer s H vs capV sg Q E hr l2 gd hs
  · have a1 := (hce _ (List.mem_of_getElem? e1)).1
    have a2 := (hce _ (List.mem_of_getElem? e2)).1
    have := I.ok.inj _ _ _ a1 a2
    subst this
    refine nodup_ix ndc (i := i) (j := j) (x := x) ?_ ?_
    · rw [List.getElem?_map, e1]; rfl
    · rw [List.getElem?_map, e2]; rfl
  · obtain ⟨o, u, ho, hdd, ru⟩ := cellAt j x d v e ev
    exact ⟨o, u, .tail _ (.tail _ (List.mem_map.mpr ⟨_, List.mem_of_getElem? e, by rw [ho]; rfl⟩)), hdd, ru⟩
end
section
variable {X : Cx} {pins : List (Addr × Obj)} {σ : St} {H : Hp} {s : Shared}
theorem Inv.newA {f : Addr} (I : Inv X pins σ H s) (hs : s.heap.objs.size ≤ f) : H f = none ∧ f ≠ X.env.locals ∧ f ∉ X.fs ∧ (∀ x c, X.env.cells.lookup x = some c → c ≠ f) ∧ X.s_0.heap.objs.size ≤ f ∧ ∀ p ∈ X.pn ++ pins, p.1 ≠ f := by
  refine ⟨I.hok.fresh hs, fun z => ?_, fun z => ?_, fun x c e z => ?_, Nat.le_trans I.sz hs, fun p hp z => ?_⟩
  · obtain ⟨m, ⟨ob, _, _, ho, _⟩, _⟩ := I.loc
    have := Heap.lt_size ho
    rw [← z] at this
    exact absurd this (Nat.not_lt.mpr hs)
  · obtain ⟨_, ob, ho, _⟩ := I.ok.funs.mem z
    by_cases hx : f ∈ X.ex
    · exact I.ok.exfs _ hx z
    obtain ⟨o', e'⟩ := I.base.there _ _ ho hx
    exact absurd (Heap.lt_size e') (Nat.not_lt.mpr hs)
  · obtain ⟨v, o, ho, _⟩ := I.cell x c e
    have := Heap.lt_size ho
    rw [z] at this
    exact absurd this (Nat.not_lt.mpr hs)
  · have := Heap.lt_size (I.pin p hp).1
    rw [z] at this
    exact absurd this (Nat.not_lt.mpr hs)
/-- one of them tracked from now on -/
theorem Inv.offsT {h' : Heap} {t' : Nat} (ch : List Addr) {d : Addr} {o' : HO} (I : Inv X pins σ H s) (hd : d ∈ ch) (hn : ∀ b ∈ ch, H b = none) (h0 : ∀ b ∈ ch, X.s_0.heap.objs.size ≤ b) (nl : ∀ b ∈ ch, b ≠ X.env.locals) (nc : ∀ b ∈ ch, ∀ x c, X.env.cells.lookup x = some c → c ≠ b)
    (np : ∀ b ∈ ch, ∀ p ∈ X.pn ++ pins, p.1 ≠ b) (k : ∀ b u, b ∉ ch → b ≠ X.env.locals → s.heap.get? b = some u → h'.get? b = some u) (ns : ∀ m, s.heap.Ns X.env.locals m → h'.Ns X.env.locals m) (new : ObjOk X.prog X.w (upd H d o') h' d o') : Inv X pins σ (upd H d o') { s with heap := h', toks := t' } := by
  have nH : ∀ {b : Addr} {o : HO}, H b = some o → b ∉ ch := fun e z => by rw [hn _ z] at e; cases e
  have nHL : ∀ {b : Addr} {o : HO}, H b = some o → b ≠ X.env.locals := fun e z => by rw [z, I.free] at e; cases e
  have nd : ∀ {b : Addr} {o : HO}, H b = some o → upd H d o' b = some o := fun e => by rw [upd_ne (ne_of_none e (hn _ hd))]; exact e
  have there : ∀ b o, b ∉ ch → s.heap.get? b = some o → ∃ o', h'.get? b = some o' := fun b o z e => by
    by_cases c : b = X.env.locals
    · obtain ⟨m, hm, _⟩ := I.loc
      obtain ⟨o', _, _, q, _⟩ := ns m hm
      exact ⟨o', c ▸ q⟩
    · exact ⟨o, k b o z c e⟩
  refine I.step (g' := s.gens) (d' := s.drawn) (ch := ch) (fun b hb => ⟨.inr (h0 b hb), nl b hb, nc b hb, np b hb⟩) (fun b o z _ q e _ => k b o q z e) (fun b o z _ q e _ => ⟨o.slots, k b o q z e⟩) (fun b o z _ n => by rw [upd_ne (fun y : b = d => z (by rw [y]; exact hd))]; exact n) there (fun b xs q => nd q) (fun b o u q => nd q) (fun b ps q => ⟨#[], by rw [nd q]; simp⟩) ns (fun b o e => ?_) I.bare
  by_cases c : b = d
  · rw [c, upd_same] at e
    cases e
    rw [c]
    exact new
  rw [upd_ne c] at e
  refine (I.hok b o e).stay (fun d v hd q => ?_) (fun d q => nd q) fun d xs q => nd q
  rcases hd with rfl | hd
  · exact k _ _ (nH e) (nHL e) q
  · exact k _ _ (nH hd) (nHL hd) q
end
def toI : Value → Int
  | .int n _ => n
  | _ => 0
theorem ints_all : ∀ {vs : List Value} {ns : List Int}, IntsAre vs ns → ns = vs.map toI
  | _, _, .nil => rfl
  | _, _, .cons n t r => by rw [List.map_cons, ← ints_all r]; rfl
theorem ints_getE : ∀ {vs : List Value} {ns : List Int}, IntsAre vs ns → ∀ {j : Nat} {x : Value}, vs[j]? = some x → ∃ n t, x = .int n t ∧ ns[j]? = some n
  | _, _, .nil, j, x, h => by simp at h
  | _, _, .cons n t r, 0, x, h => by simp at h; exact ⟨n, t, h.symm, rfl⟩
  | _, _, .cons n t r, j + 1, x, h => by simpa using ints_getE r (j := j) (by simpa using h)
def othersL (h : Heap) (ch : List Addr) : List (Addr × Obj) := (List.range h.objs.size).filterMap fun b => if b ∈ ch then none else (h.get? b).map fun o => (b, o)
theorem mem_othersL {h : Heap} {ch : List Addr} {p : Addr × Obj} (hp : p ∈ othersL h ch) : p.1 ∉ ch ∧ h.get? p.1 = some p.2 := by
  obtain ⟨b, _, e⟩ := List.mem_filterMap.mp hp
  by_cases c : b ∈ ch
  · rw [if_pos c] at e; cases e
  · rw [if_neg c] at e
    obtain ⟨o, ho, rfl⟩ := Option.map_eq_some_iff.mp e
    exact ⟨c, ho⟩
theorem mem_othersL_of {h : Heap} {ch : List Addr} {b : Addr} {o : Obj} (n : b ∉ ch) (e : h.get? b = some o) : (b, o) ∈ othersL h ch :=
  List.mem_filterMap.mpr ⟨b, List.mem_range.mpr (Heap.lt_size e), by rw [if_neg n, e]; rfl⟩
theorem ints_mem : ∀ {vs : List Value} {ns : List Int}, IntsAre vs ns → ∀ v ∈ vs, ∃ n t, v = .int n t
  | _, _, .nil, v, h => by simp at h
  | _, _, .cons n t r, v, h => by
    rcases List.mem_cons.mp h with rfl | h
    · exact ⟨n, t, rfl⟩
    · exact ints_mem r v h
theorem ints_of_all : ∀ {vs : List Value}, (∀ v ∈ vs, ∃ n t, v = .int n t) → IntsAre vs (vs.map toI)
  | [], _ => .nil
  | v :: r, h => by
    obtain ⟨n, t, rfl⟩ := h v (.head _)
    exact .cons n t (ints_of_all fun x hx => h x (.tail _ hx))
theorem zip_keys {key : Int → Int} : ∀ {vs : List Value} {ns : List Int}, IntsAre vs ns → ∀ p ∈ (ns.map key).zip vs, p.1 = key (toI p.2)
  | _, _, .nil, p, h => by simp at h
  | _, _, .cons n t r, p, h => by
    rw [List.map_cons, List.zip_cons_cons] at h
    rcases List.mem_cons.mp h with rfl | h
    · rfl
    · exact zip_keys r p h
/-- what comes out of a sort by keys -/
theorem out_keys {key : Int → Int} {vs : List Value} {ns : List Int} {out : List Value} (r : IntsAre vs ns) (h : KskOut false (ns.map key) vs out) : IntsAre out (out.map toI) ∧ (out.map toI).Perm ns ∧ (out.map toI).Pairwise fun x y => key x ≤ key y := by
  obtain ⟨ps, pm, rfl, pw⟩ := h
  have ll : ((ns.map key).zip vs).map Prod.snd = vs := List.map_snd_zip (by rw [List.length_map, r.length]; exact Nat.le_refl _)
  have mem : ∀ p ∈ ps, p.1 = key (toI p.2) ∧ p.2 ∈ vs := fun p hp => by
    have := pm.mem_iff.mp hp
    exact ⟨zip_keys r p this, (List.of_mem_zip (a := p.1) (b := p.2) this).2⟩
  refine ⟨ints_of_all fun v hv => ?_, ?_, ?_⟩
  · obtain ⟨p, hp, rfl⟩ := List.mem_map.mp hv
    exact ints_mem r _ (mem p hp).2
  · have p2 := (pm.map Prod.snd).map toI
    rw [ll, ← ints_all r] at p2
    exact p2
  · rw [List.map_map]
    refine List.pairwise_map.mpr (List.Pairwise.imp_of_mem (fun {a b} ha hb hab => ?_) pw)
    have h1 := (mem a ha).1
    have h2 := (mem b hb).1
    show key (toI a.2) ≤ key (toI b.2)
    rw [← h1, ← h2]
    simpa using hab
section
variable {X : Cx} {k : Nat} {c P : Addr} {lps LN : List Str} {p pos lpos kpos : Pos} {e1 : Expr} {t1 : TE} {params : Arguments} {body : Expr} {sc : Scope} {clos : List (Str × Addr)} {ix : List Nat}
/-- sorted(xs, key=lambda ..: ..), xs ints, the key an int -/
def tSortK (K : PySem.W.Frag) (P : Addr) (lpos : Pos) (ql : Str) (ix : List Nat) (good : List V → Sp → Prop) (t1 : TE) : TE := fun σ H Q => t1 σ H fun y H1 => ∃ (a : Addr) (ns : List Int), y = .ref a ∧ ns.length < 64 ∧ TabOk H1 P lpos ql ∧ ∃ capV : List V, (ix.map fun i => σ[i]?) = capV.map (fun v => some (some v)) ∧ ∃ sg, good capV sg ∧ ∃ key : Int → Int,
  ∀ (g : Addr) (H2 : Hp), H2 g = none → SameP P H1 H2 → TabHas H2 P lpos ql → SqL K H2 a (ns.map V.int) ∧ (∀ n ∈ ns, ∀ H3, Same H2 H3 → ∀ Q' : VK, (∀ H4, Same H3 H4 → Q' (.int (key n)) H4) → sg [.int n] H3 Q' E0) ∧
    ∀ (ns' : List Int) (d : Addr) (H3 : Hp), Same H2 H3 → H3 d = none → ns'.Perm ns → ns'.Pairwise (fun x y => key x ≤ key y) → Q (.ref d) (upd H3 d (.lst (ns'.map V.int)))
theorem pe_sortedK (hr : Room (k + 1 + 1 + 1) X.A) (hg : Gl X "sorted") (hm : X.mg "sorted" = none)
    (hB : BMod X.mg X.base) (hC : PySem.W.CodeHd X.base c P) (hcode : X.env.code = .ref c) (hcl : closureFor sc X.env = pure clos) (hdef : defaultsOf params X.env = ([], []))
    (hix : ix.map (fun i => X.N[i]?) = clos.map fun q => some q.1) (hce : ∀ q ∈ clos, X.env.cells.lookup q.1 = some q.2 ∧ X.env.kindOf q.1 = some .cell)
    (S : LamScope LN lps sc clos) (hfn : ∀ y, X.fn y = true)
    {good : List V → Sp → Prop} (glen : ∀ capV sg vs H Q E, good capV sg → sg vs H Q E → vs.length = lps.length)
    (hbind : ∀ (pm ctv : Value) (c' : Addr) (us : List Value), us.length = lps.length → bindArgs (PySem.W.kla_fn "<lambda>" (X.env.qual ++ "<lambda>") params body sc clos pm (.ref c') ctv) ⟨us, []⟩ = pure (lps.zip us))
    (hlam : ∀ (g c' : Addr) (A : Around) (outer : List Env) (s : Shared) (H : Hp) (vs capV : List V) (sg : Sp) (Q : VK) (E : XK), Room k (A.deeper (PySem.W.envX (X.env.qual ++ "<lambda>") sc s.heap.objs.size g (.ref c') clos)) → capV.length = clos.length → good capV sg → sg vs H Q E →
      ∃ t, PE (cxLam X.prog X.w X.K X.mg X.base LN (X.env.qual ++ "<lambda>") sc g c' clos A outer s H) body t ∧ t (vs.map some ++ capV.map some) H Q)
    (h1 : PE X e1 t1) (hv : bootBuiltins "sorted" = some (.builtin "sorted") := by decide +kernel)
    (he : starEach [e1] X.env = [(false, eval e1 X.env)] := by rfl) :
    PE X (.Call (.Name "sorted" p) [e1] [⟨some "key", .Lambda params body sc lpos, kpos⟩] pos) (tSortK X.K P lpos (X.env.qual ++ "<lambda>") ix good t1) := by
  intro pins s σ H Q I h
  refine wpAny_Call_Name_kw (ld_blt I hg hm hv ?_)
  refine PyProof.Rows.callWith_kw (rest := []) ?_ (by rw [he]; rfl) (by rw [he]; rfl) (by rfl) (by rfl)
  rw [he]
  show wpAny _ _ (spliced [(false, eval e1 X.env)]) _ _ s
  refine Calls.spliced_cons (thn (h1 pins s σ H _ I h) fun u1 s1 ⟨y, H1, I1, r1, q1⟩ => ?_)
  obtain ⟨a, ns, rfl, h64, hT, capV, hcv, sg, gd, key, q1⟩ := q1
  obtain rfl : u1 = .ref a := r1
  refine Calls.spliced_nil ?_
  show wpAny _ _ (evalAll ((do let v ← eval (.Lambda params body sc lpos) X.env; standAt pos; pure v) :: [])) _ _ s1
  refine wpAny_evalAll_cons (wpAny_bind (lam_new I1 hB hC hcode hT hcl hdef fun g c' ctv oc cvs t u H2 s2 I2 eT eF hd hvq sm => wpAny_bind (wpAny_standAt (wpAny_pure (wpAny_evalAll_nil ?_)))))
  obtain ⟨hs2, hkey, qf⟩ := q1 g H2 (I2.pin _ (List.mem_append_right _ (.head _))).2.1 sm ⟨c', oc, cvs, t, u, eT, eF, hd, hvq⟩
  show wpAny _ _ (call (.builtin "sorted") [.ref a] [("key", .ref g)]) _ _ s2
  obtain ⟨its, rv, hl, _⟩ := I2.list hs2
  have hi := rv.ints
  have ll : its.length < 64 := by rw [hi.length]; exact h64
  refine PyProof.Rows.call_function_entry_kw kind_sorted plain_sorted entry_sorted (ksk_s1 _ _) ?_
  unfold Builtin.«sorted»
  refine wpAny_bind (m := checkCount "sorted" 1 1 _) (wpAny_pure ?_)
  refine wpAny_bind (PyProof.Rows.collect_list hl.isList ?_ (by rw [sizeLine_eq]; omega))
  refine wpAny_bind (wpAny_newList ?_ (by rw [sizeLine_eq]; omega))
  have kp1 : ∀ b u, s2.heap.get? b = some u → ((s2.heap.push (seqObj "list" #[] 0)).update s2.heap.objs.size (Obj.mapSeq fun x => x ++ its.toArray)).get? b = some u := fun b u hb => (Heap.get?_update_other _ _ (Nat.ne_of_gt (Heap.lt_size hb))).trans (Heap.get?_push_of_some _ hb)
  have gr1 : s2.heap.objs.size ≤ ((s2.heap.push (seqObj "list" #[] 0)).update s2.heap.objs.size (Obj.mapSeq fun x => x ++ its.toArray)).objs.size := by rw [Heap.size_update, Heap.size_push]; exact Nat.le_succ _
  generalize ((s2.heap.push (seqObj "list" #[] 0)).update s2.heap.objs.size (Obj.mapSeq fun x => x ++ its.toArray)) = hA at kp1 gr1 ⊢
  have eD : (hA.push (seqObj "list" its.toArray 0)).get? hA.objs.size = some (seqObj "list" its.toArray 0) := Heap.get?_push_size _ rfl
  have kp2 : ∀ b u, s2.heap.get? b = some u → (hA.push (seqObj "list" its.toArray 0)).get? b = some u := fun b u e => Heap.get?_push_of_some _ (kp1 b u e)
  have ltD : hA.objs.size < (hA.push (seqObj "list" its.toArray 0)).objs.size := Heap.lt_size eD
  generalize hA.objs.size = D at eD gr1 ltD ⊢
  generalize hA.push (seqObj "list" its.toArray 0) = hB' at eD kp2 ltD ⊢
  clear kp1
  refine wpAny_bind (wpAny_holding (wpAny_call_entry_kw slot_list_sort ⟨_, eD, rfl⟩ entry_list_sort ?_ (ksk_l1 _ _)))
  rw [ksk_t1]
  unfold ksk_tree
  have hz : its.length ≤ sizeLine := by rw [sizeLine_eq]; omega
  refine wpAny_bind (listItems_at eD rfl ?_)
  refine wpAny_bind (listUpdate_at eD rfl ?_ (by simpa using hz) (by simp))
  have eD2 := get?_update_seq eD (fun _ => #[])
  generalize (if ((#[] : Array Value).size == its.toArray.size) = true then 0 else 0 + 1) = ep at eD2
  refine wpAny_bind (seqEpoch_at eD2 rfl ?_)
  refine wpAny_bind (wpAny_newTuple ?_ (by simpa using hz))
  refine wpAny_bind (wpAny_newList ?_ (by decide))
  refine wpAny_holding ?_
  have nD2 : ∀ b u, s2.heap.get? b = some u → b ≠ D := fun b u e => Nat.ne_of_lt (Nat.lt_of_lt_of_le (Heap.lt_size e) gr1)
  have kp3 : ∀ b u, s2.heap.get? b = some u → (hB'.update D (Obj.mapSeq fun _ => #[])).get? b = some u := fun b u e => (Heap.get?_update_other _ _ (Ne.symm (nD2 b u e))).trans (kp2 b u e)
  have ltD3 : D < (hB'.update D (Obj.mapSeq fun _ => #[])).objs.size := Heap.lt_size eD2
  generalize (hB'.update D (Obj.mapSeq fun _ => #[])) = hC' at eD2 kp3 ltD3 ⊢
  clear kp2 eD ltD
  have kp4 : ∀ b u, hC'.get? b = some u → (hC'.push { cls := Value.type "tuple", data := Data.seq its.toArray.toList.toArray }).get? b = some u := fun b u e => Heap.get?_push_of_some _ e
  have ltD4 : D < (hC'.push { cls := Value.type "tuple", data := Data.seq its.toArray.toList.toArray }).objs.size := by rw [Heap.size_push]; exact Nat.lt_succ_of_lt ltD3
  generalize (hC'.push { cls := Value.type "tuple", data := Data.seq its.toArray.toList.toArray }) = hE at kp4 ltD4 ⊢
  have kp5 : ∀ b u, hE.get? b = some u → (hE.push { cls := Value.type "list", data := Data.seq ([] : List Value).toArray }).get? b = some u := fun b u e => Heap.get?_push_of_some _ e
  have eS5 : (hE.push { cls := Value.type "list", data := Data.seq ([] : List Value).toArray }).get? hE.objs.size = some (seqObj "list" #[] 0) := Heap.get?_push_size _ rfl
  have nDS : D ≠ hE.objs.size := Nat.ne_of_lt ltD4
  have geS : s2.heap.objs.size ≤ hE.objs.size := Nat.le_of_lt (Nat.lt_of_le_of_lt gr1 ltD4)
  generalize hE.objs.size = kS at eS5 nDS geS ⊢
  have kpF : ∀ b u, s2.heap.get? b = some u → (hE.push { cls := Value.type "list", data := Data.seq ([] : List Value).toArray }).get? b = some u := fun b u e => kp5 _ _ (kp4 _ _ (kp3 b u e))
  have eD5 := kp5 _ _ (kp4 _ _ eD2)
  generalize (hE.push { cls := Value.type "list", data := Data.seq ([] : List Value).toArray }) = hF at eS5 eD5 kpF ⊢
  clear kp3 kp4 kp5 eD2 ltD3 ltD4 nD2
  obtain ⟨nD, D1, D2, D3, D4, D5⟩ := I2.newA gr1
  obtain ⟨nS, S1, S2, S3, S4, S5⟩ := I2.newA geS
  have I5 : Inv X ((g, lamO (X.env.qual ++ "<lambda>") params body sc clos X.mg c' ctv) :: pins) σ H2 { s2 with heap := hF } := I2.kept (t' := s2.toks) kpF
  unfold ksk_rest
  refine wpAny_bind (wpAny_rule ?_)
  rw [List.forIn_toArray]
  refine wpAny_bind (ksk_fold (fun i s' => ∃ (keys : Array Value) (e : Nat) (H' : Hp), Inv X ((g, lamO (X.env.qual ++ "<lambda>") params body sc clos X.mg c' ctv) :: pins) σ H' s' ∧ Same H2 H' ∧ H' kS = none ∧ H' D = none ∧ s'.heap.get? kS = some (seqObj "list" keys e) ∧ s'.heap.get? D = some (seqObj "list" #[] ep) ∧ IntsAre keys.toList ((ns.take i).map key)) its 0 _ ⟨#[], 0, H2, I5, Same.refl _, nS, nD, eS5, eD5, by simpa using IntsAre.nil⟩ ?_ ?_)
  · rintro j x s' hx ⟨keys, e, H', I', sm', nS', nD', eS', eD', ik⟩
    obtain ⟨n, t', rfl, hn⟩ := ints_getE hi hx
    rw [Nat.zero_add] at ik ⊢
    have Ip : Inv X ((D, seqObj "list" #[] ep) :: (kS, seqObj "list" keys e) :: (g, lamO (X.env.qual ++ "<lambda>") params body sc clos X.mg c' ctv) :: pins) σ H' s' := I'.pins_of fun p hp => by
      rcases List.mem_cons.mp hp with rfl | hp
      · exact ⟨eD', nD', D1, D2, fun v z => by cases z⟩
      · rcases List.mem_cons.mp hp with rfl | hp
        · exact ⟨eS', nS', S1, S2, fun v z => by cases z⟩
        · exact I'.pin p (List.mem_append_right _ hp)
    obtain ⟨cs, cons, FC⟩ := lam_fc (k := k) (good := good) I' (sm' _ _ eF) hd hvq hcv hix hce S hfn gd glen (hbind _ _ _) (hlam g c')
    have env0 : Env0 X.prog X.w X.K X.mg X.base X.A.in1.in1 X.stack s' H' := { I'.env0 with frames := I'.env0.frames }
    refine wpAny_bind (wpAny_attempt (wpAny_call (codeAny_mono (FC.run X.A.in1.in1 X.stack s' H' [.int n t'] [.int n] (fun v H4 => v = .int (key n) ∧ Same H' H4) E0 hr.in1.in1 env0 cons (.cons ⟨_, rfl⟩ .nil) (hkey n (List.mem_of_getElem? hn) H' sm' _ fun H4 s4 => ⟨rfl, s4⟩)) fun r s'' hq => ?_)))
    cases r with
    | error e => exact hq.elim
    | ok fl =>
      cases fl with
      | next => exact False.elim hq
      | brk => exact False.elim hq
      | cont => exact False.elim hq
      | ret u =>
        obtain ⟨v, H'', I'', ru, rfl, sm''⟩ := Ip.after hq
        obtain ⟨tu, rfl⟩ : ∃ tu, u = .int (key n) tu := ru
        obtain ⟨eD2, nD2, _⟩ := I''.pin _ (List.mem_append_right _ (.head _))
        obtain ⟨eS2, nS2, _⟩ := I''.pin _ (List.mem_append_right _ (.tail _ (.head _)))
        have I3 : Inv X ((g, lamO (X.env.qual ++ "<lambda>") params body sc clos X.mg c' ctv) :: pins) σ H'' s'' := I''.pins_of fun p hp => I''.pin p (List.mem_append_right _ (.tail _ (.tail _ hp)))
        have lk : keys.size ≤ 64 := by
          have := ik.length
          rw [List.length_map, List.length_take] at this
          have e1 : keys.toList.length = keys.size := Array.length_toList
          omega
        show wpAny _ _ (Builtin.List.listUpdate (.ref kS) (fun xs => xs.push (.int (key n) tu)) >>= fun _ => pure (ForInStep.yield PUnit.unit)) _ _ s''
        refine wpAny_bind (listUpdate_at eS2 rfl ?_ (by rw [sizeLine_eq]; omega) (by rw [Array.size_push, sizeLine_eq]; omega))
        have nL : kS ≠ X.env.locals := S1
        refine wpAny_pure ⟨rfl, keys.push (.int (key n) tu), _, H'', Inv.offs [kS] I3 (fun b hb => by rw [List.mem_singleton.mp hb]; exact nS2) (fun b hb => by rw [List.mem_singleton.mp hb]; exact S4) (fun b hb => by rw [List.mem_singleton.mp hb]; exact S1) (fun b hb => by rw [List.mem_singleton.mp hb]; exact S3) (fun b hb => by rw [List.mem_singleton.mp hb]; exact S5) (fun b u hb _ e => (Heap.get?_update_other _ _ (fun z : kS = b => hb (by rw [z]; exact List.mem_singleton.mpr rfl))).trans e) (fun m ⟨o, es, ep, e, r⟩ => ⟨o, es, ep, (Heap.get?_update_other _ _ nL).trans e, r⟩), sm'.trans sm'', nS2, nD2, get?_update_seq eS2 _, (Heap.get?_update_other _ _ nDS.symm).trans eD2, ?_⟩
        rw [Array.toList_push, List.take_add_one, hn, Option.toList_some, List.map_append]
        exact ksk_snoc ik
  rintro s' ⟨keys, e, H', I', sm', nS', nD', eS', eD', ik⟩
  rw [Nat.zero_add, hi.length, List.take_length] at ik
  refine wpAny_bind (listItems_at eS' rfl ?_)
  obtain ⟨m, hm, _⟩ := I'.loc
  refine ksk_end_ (h₀ := ({ s.heap with objs := #[] } : Heap)) (L := X.env.locals) (m := m) (news := othersL s'.heap [D, kS, X.env.locals]) (vs := its) (kz := ns.map key) (e := e) ⟨hm, fun b o z => (nomatch z), Nat.zero_le _⟩ (fun p hp => ?_) nDS.symm (fun p hp z => ?_) (fun p hp z => ?_) ik (by rw [List.length_map, hi.length]) ll fun h' tk out cc F N KO => ?_
  · rcases List.mem_append.mp hp with hp | hp
    · obtain ⟨n1, n2⟩ := mem_othersL hp
      exact ⟨n2, fun z => n1 (by rw [z]; simp), rfl⟩
    · simp only [List.mem_cons, List.not_mem_nil, or_false] at hp
      rcases hp with rfl | rfl
      · exact ⟨eS', S1, rfl⟩
      · exact ⟨eD', D1, rfl⟩
  · exact (mem_othersL hp).1 (by rw [z]; simp)
  · exact (mem_othersL hp).1 (by rw [z]; simp)
  obtain ⟨o1, o2, o3⟩ := out_keys hi KO
  have lo : (out.toList.map toI).length ≤ sizeLine := by rw [o2.length_eq, sizeLine_eq]; omega
  have eDo := (N _ (.head _)).1
  refine ⟨_, rfl, wpAny_pure ⟨_, rfl, .ref D, upd H' D (.lst ((out.toList.map toI).map V.int)), ?_, rfl, qf _ D H' sm' nD' o2 o3⟩⟩
  have IT : Inv X ((g, lamO (X.env.qual ++ "<lambda>") params body sc clos X.mg c' ctv) :: pins) σ (upd H' D (.lst ((out.toList.map toI).map V.int))) { s' with heap := h', toks := tk } := Inv.offsT [D, kS] I' (.head _) (fun b hb => by
      simp only [List.mem_cons, List.not_mem_nil, or_false] at hb
      rcases hb with rfl | rfl
      · exact nD'
      · exact nS') (fun b hb => by
      simp only [List.mem_cons, List.not_mem_nil, or_false] at hb
      rcases hb with rfl | rfl
      · exact D4
      · exact S4) (fun b hb => by
      simp only [List.mem_cons, List.not_mem_nil, or_false] at hb
      rcases hb with rfl | rfl
      · exact D1
      · exact S1) (fun b hb => by
      simp only [List.mem_cons, List.not_mem_nil, or_false] at hb
      rcases hb with rfl | rfl
      · exact D3
      · exact S3) (fun b hb => by
      simp only [List.mem_cons, List.not_mem_nil, or_false] at hb
      rcases hb with rfl | rfl
      · exact D5
      · exact S5) (fun b u hb hL e => (N (b, u) (.tail _ (mem_othersL_of (fun z => by
      simp only [List.mem_cons, List.not_mem_nil, or_false] at z hb
      rcases z with z | z | z
      · exact hb (.inl z)
      · exact hb (.inr z)
      · exact hL z) e))).1) (fun m' ⟨o, es, ep, e, d, k1, k2⟩ => by
      obtain ⟨o', es', ep', e', d', _, k2'⟩ := hm
      rw [e] at e'
      cases e'
      rw [d] at d'
      cases d'
      have : m' = m := funext fun x => (k2 x).symm.trans (k2' x)
      rw [this]
      exact F.ns) ⟨by rw [List.length_map]; exact lo, out.toList, cc, vals_of_ints o1, eDo⟩
  exact IT.pins_of fun p hp => IT.pin p (List.mem_append_right _ (.tail _ hp))
end
end L2

set_option Elab.async false
set_option maxRecDepth 100000
set_option linter.all false
set_option maxHeartbeats 4000000
namespace SS
open PySem L2
/-! ### who comes and what is reached, together -/
end SS

set_option Elab.async false
set_option maxRecDepth 100000
set_option linter.all false
set_option maxHeartbeats 4000000
namespace SS
open PySem L2
/-! ### the way along a tree -/
/-- from x by y to q -/
def HopTo (rs : List Road) (q x y : Int) : Prop := ∃ e ∈ rs, ((x = e.1 ∧ y = e.2.1) ∨ (x = e.2.1 ∧ y = e.1)) ∧ ∃ c : Int → Bool, c x ≠ c y ∧ c q = c y ∧ ∀ e' ∈ rs, e' ≠ e → c e'.1 = c e'.2.1
section
variable {m : Nat} {rs : List Road}
theorem bool_or {a b c : Bool} (h : a ≠ b) : c = a ∨ c = b := by cases a <;> cases b <;> cases c <;> simp_all
/-- a walk over to the other side crosses the road -/
theorem cross_walk (ok : RoadsOk m rs) (hg : Hang m rs) {e : Road} (he : e ∈ rs) {c : Int → Bool} (hc : ∀ e' ∈ rs, e' ≠ e → c e'.1 = c e'.2.1) {x y s : Nat} (hx : x < m) (hy : y < m) (hs : s < m) (pq : ((x : Int) = e.1 ∧ (y : Int) = e.2.1) ∨ ((x : Int) = e.2.1 ∧ (y : Int) = e.1)) (nxy : c x ≠ c y) (cs : c s = c x)
    {z d : Int} (w : Walk rs (s : Int) z d) : (0 ≤ z ∧ z < m ∧ waysG m rs s z.toNat ≤ d) ∧ (c z = c y → waysG m rs s x + e.2.2 + waysG m rs y z.toNat ≤ d) := by
  have er := ok.rng e he
  induction w with
  | refl => exact ⟨⟨by omega, by omega, by have := (ways_zero ok hg hs hs).mpr rfl; rw [Int.toNat_natCast]; omega⟩, fun h => absurd (cs.symm.trans h) nxy⟩
  | @fwd a b l d' wk hm ih =>
    obtain ⟨⟨a0, a1, ad⟩, ih⟩ := ih
    have rg := ok.rng _ hm
    simp only at rg
    have w1 := ways_road ok hg hs hm
    simp only at w1
    refine ⟨⟨by omega, by omega, by have := w1.1; omega⟩, fun hz => ?_⟩
    by_cases ee : ((a, b, l) : Road) = e
    · subst ee
      rcases pq with ⟨h1, h2⟩ | ⟨h1, h2⟩
      · simp only at h1 h2
        have ea : a.toNat = x := by omega
        have eb : b.toNat = y := by omega
        have := (ways_zero ok hg hy hy).mpr rfl
        rw [ea] at ad
        rw [eb]
        simp only
        omega
      · simp only at h1
        exact absurd (h1 ▸ hz : c (x : Int) = c y) nxy
    · have cc := hc _ hm ee
      simp only at cc
      have i1 := ih (by rw [cc]; exact hz)
      have w2 := (ways_road ok hg hy hm).1
      simp only at w2
      omega
  | @bwd a b l d' wk hm ih =>
    obtain ⟨⟨a0, a1, ad⟩, ih⟩ := ih
    have rg := ok.rng _ hm
    simp only at rg
    have w1 := ways_road ok hg hs hm
    simp only at w1
    refine ⟨⟨by omega, by omega, by have := w1.2; omega⟩, fun hz => ?_⟩
    by_cases ee : ((a, b, l) : Road) = e
    · subst ee
      rcases pq with ⟨h1, h2⟩ | ⟨h1, h2⟩
      · simp only at h1
        exact absurd (h1 ▸ hz : c (x : Int) = c y) nxy
      · simp only at h1 h2
        have ea : b.toNat = x := by omega
        have eb : a.toNat = y := by omega
        have := (ways_zero ok hg hy hy).mpr rfl
        rw [ea] at ad
        rw [eb]
        simp only
        omega
    · have cc := hc _ hm ee
      simp only at cc
      have i1 := ih (by rw [← cc]; exact hz)
      have w2 := (ways_road ok hg hy hm).2
      simp only at w2
      omega
theorem cross_way (ok : RoadsOk m rs) (hg : Hang m rs) {e : Road} (he : e ∈ rs) {c : Int → Bool} (hc : ∀ e' ∈ rs, e' ≠ e → c e'.1 = c e'.2.1) {x y s t : Nat} (hx : x < m) (hy : y < m) (hs : s < m) (ht : t < m) (pq : ((x : Int) = e.1 ∧ (y : Int) = e.2.1) ∨ ((x : Int) = e.2.1 ∧ (y : Int) = e.1)) (nxy : c x ≠ c y) (cs : c s = c x) (ct : c t = c y) :
    waysG m rs s t = waysG m rs s x + e.2.2 + waysG m rs y t := by
  have h1 := (cross_walk ok hg he hc hx hy hs pq nxy cs (ways_walk ok hg hs ht)).2 ct
  rw [Int.toNat_natCast] at h1
  have h2 := ways_tri ok hg hs ht hy
  have h3 := ways_road ok hg hs he
  have e3 : waysG m rs s y ≤ waysG m rs s x + e.2.2 := by
    rcases pq with ⟨a, b⟩ | ⟨a, b⟩
    · have ea : e.1.toNat = x := by omega
      have eb : e.2.1.toNat = y := by omega
      rw [ea, eb] at h3; exact h3.1
    · have ea : e.2.1.toNat = x := by omega
      have eb : e.1.toNat = y := by omega
      rw [ea, eb] at h3; exact h3.2
  omega
theorem hop_way (ok : RoadsOk m rs) (hg : Hang m rs) {q x y : Nat} (hq : q < m) (hx : x < m) (hy : y < m) (h : HopTo rs q x y) : ∃ l : Int, 1 ≤ l ∧ waysG m rs x q = l + waysG m rs y q ∧ (∀ s, s < m → waysG m rs s y ≤ waysG m rs s x + l) ∧
    ∀ p, p < m → waysG m rs x p + waysG m rs p q = waysG m rs x q → p = x ∨ waysG m rs y p + waysG m rs p q = waysG m rs y q := by
  obtain ⟨e, he, pq, c, nxy, cq, hc⟩ := h
  have er := ok.rng e he
  have zx := (ways_zero ok hg hx hx).mpr rfl
  have e1 := cross_way ok hg he hc hx hy hx hq pq nxy rfl cq
  refine ⟨e.2.2, by omega, by omega, fun s hs => ?_, fun p hp hpe => ?_⟩
  · have h3 := ways_road ok hg hs he
    rcases pq with ⟨a, b⟩ | ⟨a, b⟩
    · have ea : e.1.toNat = x := by omega
      have eb : e.2.1.toNat = y := by omega
      rw [ea, eb] at h3; exact h3.1
    · have ea : e.2.1.toNat = x := by omega
      have eb : e.1.toNat = y := by omega
      rw [ea, eb] at h3; exact h3.2
  · rcases bool_or nxy (c := c p) with cp | cp
    · have e2 := cross_way ok hg he hc hx hy hp hq pq nxy cp cq
      have sy := ways_symm ok hg hx hp
      have := ways_nn ok hg hx hp
      exact .inl ((ways_zero ok hg hx hp).mp (by omega)).symm
    · have e2 := cross_way ok hg he hc hx hy hx hp pq nxy rfl cp
      exact .inr (by omega)
theorem keys_eq {key : Int → Int} : ∀ {l₂ l₁ : List Int}, l₁.Perm l₂ → l₁.Pairwise (fun x y => key x ≤ key y) → l₂.Pairwise (fun x y => key x < key y) → l₁ = l₂
  | [], l₁, p, _, _ => List.Perm.eq_nil p
  | y :: r, l₁, p, h1, h2 => by
    cases l₁ with
    | nil => exact absurd p.length_eq (by simp)
    | cons x s =>
      have hy : y ∈ x :: s := p.mem_iff.mpr (.head _)
      have hx : x ∈ y :: r := p.mem_iff.mp (.head _)
      have e : x = y := by
        rcases List.mem_cons.mp hy with e | ys
        · exact e.symm
        · rcases List.mem_cons.mp hx with e | xr
          · exact e
          · have a := (List.pairwise_cons.mp h1).1 y ys
            have b := (List.pairwise_cons.mp h2).1 x xr
            omega
      subst e
      rw [keys_eq (List.Perm.cons_inv p) (List.pairwise_cons.mp h1).2 (List.pairwise_cons.mp h2).2]
/-- the path that goes by hops is the sorted list of the places that make the way no longer -/
theorem path_is (ok : RoadsOk m rs) (hg : Hang m rs) {p q : Nat} (hp : p < m) (hq : q < m) {xs : List Int} (h0 : xs[0]? = some (p : Int)) (hl : xs[xs.length - 1]? = some (q : Int)) (step : ∀ (k : Nat) (x y : Int), xs[k]? = some x → xs[k + 1]? = some y → HopTo rs q x y) (rng : ∀ x ∈ xs, 0 ≤ x ∧ x < m)
    {ns : List Int} (pm : ns.Perm (((List.range m).filter fun i => decide (waysG m rs p i + waysG m rs i q = waysG m rs p q)).map fun i : Nat => (i : Int))) (pw : ns.Pairwise (fun x y => waysG m rs p x.toNat ≤ waysG m rs p y.toNat)) : ns = xs := by
  have nat : ∀ {k : Nat} {x : Int}, xs[k]? = some x → ∃ n : Nat, x = (n : Int) ∧ n < m := fun {k x} h => by
    have := rng x (List.mem_of_getElem? h)
    exact ⟨x.toNat, by omega, by omega⟩
  have hop : ∀ (k : Nat) (x y : Nat), xs[k]? = some (x : Int) → xs[k + 1]? = some (y : Int) → ∃ l : Int, 1 ≤ l ∧ waysG m rs x q = l + waysG m rs y q ∧ (∀ s, s < m → waysG m rs s y ≤ waysG m rs s x + l) ∧ ∀ p, p < m → waysG m rs x p + waysG m rs p q = waysG m rs x q → p = x ∨ waysG m rs y p + waysG m rs p q = waysG m rs y q := fun k x y hx hy => by
    have a := rng _ (List.mem_of_getElem? hx)
    have b := rng _ (List.mem_of_getElem? hy)
    exact hop_way ok hg hq (by omega) (by omega) (step k x y hx hy)
  have A : ∀ (k x : Nat), xs[k]? = some (x : Int) → waysG m rs p x + waysG m rs x q = waysG m rs p q := fun k => by
    induction k with
    | zero =>
      intro x hx
      rw [h0] at hx
      have e : p = x := by have := Option.some.inj hx; omega
      subst e
      have := (ways_zero ok hg hp hp).mpr rfl
      omega
    | succ k ih =>
      intro y hy
      have hk : k < xs.length := by have := (List.getElem?_eq_some_iff.mp hy).1; omega
      obtain ⟨x, ex, xm⟩ := nat (List.getElem?_eq_getElem hk)
      have hx : xs[k]? = some (x : Int) := by rw [List.getElem?_eq_getElem hk, ex]
      obtain ⟨l, l1, e1, le, _⟩ := hop k x y hx hy
      have i1 := ih x hx
      have ym := (rng _ (List.mem_of_getElem? hy)).2
      have t1 := ways_tri ok hg hp hq (k := y) (by omega)
      have t2 := le p hp
      omega
  have lt1 : ∀ (k x y : Nat), xs[k]? = some (x : Int) → xs[k + 1]? = some (y : Int) → waysG m rs p x < waysG m rs p y := fun k x y hx hy => by
    obtain ⟨l, l1, e1, _, _⟩ := hop k x y hx hy
    have := A k x hx
    have := A (k + 1) y hy
    omega
  have lts : ∀ (d k x y : Nat), xs[k]? = some (x : Int) → xs[k + d + 1]? = some (y : Int) → waysG m rs p x < waysG m rs p y := fun d => by
    induction d with
    | zero => exact fun k x y hx hy => lt1 k x y hx hy
    | succ d ih =>
      intro k x y hx hy
      have hk : k + d + 1 < xs.length := by have := (List.getElem?_eq_some_iff.mp hy).1; omega
      obtain ⟨z, ez, zm⟩ := nat (List.getElem?_eq_getElem hk)
      have hz : xs[k + d + 1]? = some (z : Int) := by rw [List.getElem?_eq_getElem hk, ez]
      have := ih k x z hx hz
      have := lt1 (k + d + 1) z y hz hy
      omega
  have pwx : xs.Pairwise (fun x y => waysG m rs p x.toNat < waysG m rs p y.toNat) := List.pairwise_iff_getElem.mpr fun i j hi hj hij => by
    obtain ⟨x, ex, _⟩ := nat (List.getElem?_eq_getElem hi)
    obtain ⟨y, ey, _⟩ := nat (List.getElem?_eq_getElem hj)
    rw [ex, ey, Int.toNat_natCast, Int.toNat_natCast]
    refine lts (j - i - 1) i x y (by rw [List.getElem?_eq_getElem hi, ex]) ?_
    rw [show i + (j - i - 1) + 1 = j by omega, List.getElem?_eq_getElem hj, ey]
  have lpos : 0 < xs.length := (List.getElem?_eq_some_iff.mp h0).1
  have Bk : ∀ t : Nat, t < m → waysG m rs p t + waysG m rs t q = waysG m rs p q → ∀ k : Nat, (t : Int) ∈ xs ∨ ∀ x : Nat, xs[k]? = some (x : Int) → waysG m rs x t + waysG m rs t q = waysG m rs x q := fun t ht et k => by
    induction k with
    | zero =>
      refine .inr fun x hx => ?_
      rw [h0] at hx
      have e : p = x := by have := Option.some.inj hx; omega
      rw [← e]; exact et
    | succ k ih =>
      rcases ih with h | h
      · exact .inl h
      · by_cases hk : k + 1 < xs.length
        · obtain ⟨x, ex, xm⟩ := nat (List.getElem?_eq_getElem (show k < xs.length by omega))
          obtain ⟨y, ey, ym⟩ := nat (List.getElem?_eq_getElem hk)
          have hx : xs[k]? = some (x : Int) := by rw [List.getElem?_eq_getElem (show k < xs.length by omega), ex]
          have hy : xs[k + 1]? = some (y : Int) := by rw [List.getElem?_eq_getElem hk, ey]
          obtain ⟨l, l1, e1, le, cv⟩ := hop k x y hx hy
          rcases cv t ht (h x hx) with e | e
          · exact .inl (by rw [e]; exact List.mem_of_getElem? hx)
          · refine .inr fun y' hy' => ?_
            rw [hy] at hy'
            have e' : y = y' := by have := Option.some.inj hy'; omega
            rw [← e']; exact e
        · refine .inr fun y hy => ?_
          exact absurd (List.getElem?_eq_some_iff.mp hy).1 hk
  have mem : ∀ x : Int, x ∈ ns ↔ x ∈ xs := fun x => by
    rw [pm.mem_iff]
    constructor
    · intro h
      obtain ⟨t, ht, rfl⟩ := List.mem_map.mp h
      obtain ⟨h1, h2⟩ := List.mem_filter.mp ht
      have tm := List.mem_range.mp h1
      rcases Bk t tm (of_decide_eq_true h2) (xs.length - 1) with z | z
      · exact z
      · have e := z q hl
        have := (ways_zero ok hg hq hq).mpr rfl
        have a := ways_nn ok hg hq tm
        have b := ways_nn ok hg tm hq
        have e2 := (ways_zero ok hg hq tm).mp (by omega)
        rw [← e2]
        exact List.mem_of_getElem? hl
    · intro h
      obtain ⟨k, hk⟩ := List.mem_iff_getElem?.mp h
      obtain ⟨n, rfl, nm⟩ := nat hk
      exact List.mem_map.mpr ⟨n, List.mem_filter.mpr ⟨List.mem_range.mpr nm, decide_eq_true (A k n hk)⟩, rfl⟩
  have ndn : ns.Nodup := by
    refine pm.nodup_iff.mpr ?_
    refine List.Pairwise.map _ (fun a b h z => h (Int.ofNat.inj z)) ((List.nodup_range).sublist List.filter_sublist)
  have ndx : xs.Nodup := pwx.imp fun {a b} h z => by rw [z] at h; exact absurd h (by omega)
  exact keys_eq ((List.perm_ext_iff_of_nodup ndn ndx).mpr mem) pw pwx
/-! the places as the law finds them, from q on -/
structure Bfs (m : Nat) (rs : List Road) (q : Int) (L : List Int) (A : Int → Int) : Prop where
  nd : L.Nodup
  rng : ∀ x ∈ L, 0 ≤ x ∧ x < m
  q0 : L[0]? = some q
  aq : A q = q
  hop : ∀ (k : Nat) (x : Int), L[k]? = some x → x ≠ q → HopTo rs q x (A x) ∧ ∃ j, j < k ∧ L[j]? = some (A x)
  col : ∀ c : Int → Bool, (∀ e ∈ rs, e.1 ∈ L → e.2.1 ∈ L → c e.1 = c e.2.1) → ∀ x ∈ L, c x = c q
def setA (A : Int → Int) (y x : Int) : Int → Int := fun z => if z = y then x else A z
theorem Bfs.start {q : Int} (q0 : 0 ≤ q) (q1 : q < m) : Bfs m rs q [q] (fun _ => q) :=
  ⟨by simp, fun x hx => by rw [List.mem_singleton.mp hx]; exact ⟨q0, q1⟩, rfl, rfl, fun k x hx n => by
    have hm := List.mem_of_getElem? hx
    exact absurd (List.mem_singleton.mp hm) n, fun c _ x hx => by rw [List.mem_singleton.mp hx]⟩
theorem Bfs.add (tr : TreeB rs) {q : Int} {L : List Int} {A : Int → Int} (b : Bfs m rs q L A) {x y : Int} {e : Road} (he : e ∈ rs) (xy : (x = e.1 ∧ y = e.2.1) ∨ (x = e.2.1 ∧ y = e.1)) (hx : x ∈ L) (hy : y ∉ L) (y0 : 0 ≤ y ∧ y < m) : Bfs m rs q (L ++ [y]) (setA A y x) := by
  have hq : q ∈ L := List.mem_of_getElem? b.q0
  have nyq : y ≠ q := fun z => hy (z ▸ hq)
  have kp : ∀ {z : Int}, z ∈ L → setA A y x z = A z := fun {z} hz => by unfold setA; rw [if_neg (fun w : z = y => hy (w ▸ hz))]
  refine ⟨nd_snoc b.nd hy, fun z hz => ?_, ?_, by rw [kp hq]; exact b.aq, fun k z hz nz => ?_, fun c hc z hz => ?_⟩
  · rcases List.mem_append.mp hz with h | h
    · exact b.rng z h
    · rw [List.mem_singleton.mp h]; exact y0
  · rw [List.getElem?_append_left (List.getElem?_eq_some_iff.mp b.q0).1]; exact b.q0
  · by_cases hk : k < L.length
    · rw [List.getElem?_append_left hk] at hz
      obtain ⟨h1, j, hj, ej⟩ := b.hop k z hz nz
      rw [kp (List.mem_of_getElem? hz)]
      exact ⟨h1, j, hj, by rw [List.getElem?_append_left (by omega)]; exact ej⟩
    · rw [List.getElem?_append_right (by omega)] at hz
      have ek : k - L.length = 0 := by
        have := (List.getElem?_eq_some_iff.mp hz).1
        simp at this
        omega
      rw [ek] at hz
      have ez : y = z := by simpa using hz
      subst ez
      have ea : setA A y x y = x := by unfold setA; rw [if_pos rfl]
      rw [ea]
      obtain ⟨c, h1, h2⟩ := tr e he
      have cc : ∀ e' ∈ rs, e'.1 ∈ L → e'.2.1 ∈ L → c e'.1 = c e'.2.1 := fun e' h' a1 a2 => h2 e' h' fun z => by
        subst z
        rcases xy with ⟨_, h⟩ | ⟨_, h⟩
        · exact hy (h ▸ a2)
        · exact hy (h ▸ a1)
      have cq := b.col c cc x hx
      obtain ⟨j, hj⟩ := List.mem_iff_getElem?.mp hx
      have hjl := (List.getElem?_eq_some_iff.mp hj).1
      refine ⟨⟨e, he, xy.elim (fun ⟨a, b⟩ => .inr ⟨b, a⟩) (fun ⟨a, b⟩ => .inl ⟨b, a⟩), c, ?_, cq.symm, h2⟩, j, by omega, by rw [List.getElem?_append_left hjl]; exact hj⟩
      rcases xy with ⟨a, b⟩ | ⟨a, b⟩
      · rw [a, b]; exact h1.symm
      · rw [a, b]; exact h1
  · have cL : ∀ z ∈ L, c z = c q := b.col c fun e' h' a1 a2 => hc e' h' (List.mem_append_left _ a1) (List.mem_append_left _ a2)
    rcases List.mem_append.mp hz with h | h
    · exact cL z h
    · rw [List.mem_singleton.mp h]
      have hyA : y ∈ L ++ [y] := List.mem_append_right _ (List.mem_singleton.mpr rfl)
      have hxA : x ∈ L ++ [y] := List.mem_append_left _ hx
      rw [← cL x hx]
      rcases xy with ⟨a, b⟩ | ⟨a, b⟩
      · rw [a, b]; exact (hc e he (by rw [← a]; exact hxA) (by rw [← b]; exact hyA)).symm
      · rw [a, b]; exact hc e he (by rw [← b]; exact hyA) (by rw [← a]; exact hxA)
theorem Bfs.len {q : Int} {L : List Int} {A : Int → Int} (b : Bfs m rs q L A) : L.length ≤ m := by
  have := nodup_len L (rgI m) b.nd fun x hx => by
    have := b.rng x hx
    exact List.mem_map.mpr ⟨x.toNat, List.mem_range.mpr (by omega), by omega⟩
  rwa [rgI_len] at this
/-- where all roads of what is found have been gone, all is found -/
theorem Bfs.all {q : Int} {L : List Int} {A : Int → Int} (b : Bfs m rs q L A) (hg : Hang m rs) (cl : ∀ e ∈ rs, (e.1 ∈ L → e.2.1 ∈ L) ∧ (e.2.1 ∈ L → e.1 ∈ L)) {x : Int} (x0 : 0 ≤ x) (x1 : x < m) : x ∈ L := by
  have hq : q ∈ L := List.mem_of_getElem? b.q0
  have rq := b.rng q hq
  have key : ∀ y, Reach rs q y → y ∈ L := fun y r => by
    induction r with
    | refl => exact hq
    | fwd _ h ih => exact (cl _ h).1 ih
    | bwd _ h ih => exact (cl _ h).2 ih
  exact key x (hg q x rq.1 rq.2 x0 x1)
end
end SS

namespace SS
open PySem L2
def top (i : Nat) : Stmt := PySem.Challenge.pw_standsellers_k61_ways_along_trees.main.body.getD i (.Pass ⟨0, 0, 0, 0⟩)
abbrev sAllWays : Stmt := top 5
abbrev sStraightWays : Stmt := top 6
abbrev sRowOver : Stmt := top 7
abbrev sIsPlace : Stmt := top 8
abbrev sCheckPlace : Stmt := top 9
abbrev sIsTree : Stmt := top 11
abbrev sWayBetween : Stmt := top 12
abbrev sCheckTree : Stmt := top 13
abbrev sLawNext : Stmt := top 15
abbrev sLawPots : Stmt := top 16
abbrev sLawOrder : Stmt := top 17
abbrev sLawLength : Stmt := top 18
abbrev sLawRoadsSorted : Stmt := top 19
abbrev sLawTree : Stmt := top 20
abbrev sLawCopy : Stmt := top 21
abbrev sLawSame : Stmt := top 22
abbrev sLawWay : Stmt := top 23
abbrev sLawRight : Stmt := top 24
abbrev sLaw : Stmt := top 25
end SS

namespace SS
open PySem L2
def GPot (xs : List V) : Prop := ∃ x y : Int, xs = [.int x, .int y]
theorem mods {r n : Int} (h : 0 < n) : 0 ≤ r % n ∧ r % n < n := ⟨Int.emod_nonneg _ (by omega), Int.emod_lt_of_pos _ h⟩
theorem menu4s {r a b c d : Int} (h0 : 0 ≤ r) (h1 : r < 4) : ∃ n : Int, atI [V.int a, V.int b, V.int c, V.int d] r = some (.int n) ∧ (n = a ∨ n = b ∨ n = c ∨ n = d) := by
  have : r = 0 ∨ r = 1 ∨ r = 2 ∨ r = 3 := by omega
  rcases this with rfl | rfl | rfl | rfl
  · exact ⟨a, rfl, .inl rfl⟩
  · exact ⟨b, rfl, .inr (.inl rfl)⟩
  · exact ⟨c, rfl, .inr (.inr (.inl rfl))⟩
  · exact ⟨d, rfl, .inr (.inr (.inr rfl))⟩
theorem menu2s {r a b : Int} (h0 : 0 ≤ r) (h1 : r < 2) : ∃ n : Int, atI [V.int a, V.int b] r = some (.int n) ∧ (n = a ∨ n = b) := by
  have : r = 0 ∨ r = 1 := by omega
  rcases this with rfl | rfl
  · exact ⟨a, rfl, .inl rfl⟩
  · exact ⟨b, rfl, .inr rfl⟩
def spOrderG (G : List V → Prop) : Sp := fun vs H Q _ => ∃ (h : Addr) (m : Nat), vs = [.ref h, .int m] ∧ HdAt G H h ∧ m ≤ 1000 ∧
  ∀ (r : Addr) (order : List Int) (H' : Hp), H r = none → H' r = some (.lst (intsV order)) → order.Perm (rgI m) → Keep h H H' → HdAt G H' h → Q (.ref r) H'
def spLengthG (G : List V → Prop) : Sp := fun vs H Q _ => ∃ (h : Addr), vs = [.ref h] ∧ HdAt G H h ∧ ∀ (n : Int) (H' : Hp), 1 ≤ n → n ≤ 1000 → Keep h H H' → HdAt G H' h → Q (.int n) H'
/-- a hand for each cell -/
def spPots : Sp := fun vs H Q _ => ∃ (a : Addr) (ns : List Int), vs = [.ref a] ∧ H a = some (.lst (intsV ns)) ∧ ns.length ≤ 63 ∧
  ∀ (r : Addr) (ps : List Addr) (H' : Hp), Same H H' → H r = none → H' r = some (.lst (ps.map V.ref)) → (∀ p ∈ ps, HdAt GPot H' p) → ps.Nodup → (∀ p ∈ ps, H p = none) → r ∉ ps → Q (.ref r) H'
def spSortR : Sp := fun vs H Q _ => ∃ (ra : Addr) (rs : List Road), vs = [.ref ra] ∧ RoadsAt H ra rs ∧ rs.length ≤ 40 ∧
  ∀ (r : Addr) (rs' : List Road) (H' : Hp), Same H H' → H r = none → RoadsAt H' r rs' → rs'.Perm (rs.map rise) → Srt rs' → Q (.ref r) H'
/-- a drawn tree -/
def spTree : Sp := fun vs H Q _ => ∃ (h : Addr) (mx : Nat), vs = [.ref h, .int mx] ∧ HdAt GPot H h ∧ 1 ≤ mx ∧ mx ≤ 12 ∧
  ∀ (r fa ra : Addr) (folk : List Int) (rs : List Road) (H' : Hp), H r = none → H fa = none → H ra = none → fa ≠ ra → H' r = some (.tup [.ref fa, .ref ra]) → H' fa = some (.lst (intsV folk)) → RoadsAt H' ra rs → 1 ≤ folk.length → folk.length ≤ mx → FolkOk folk.length folk → TreeOk folk.length rs → Keep h H H' → HdAt GPot H' h → Q (.ref r) H'
section
variable {P : Program} {w : World} {K : PySem.W.Frag} {mg : Str → Option Value} {base : Heap} {f : Addr} {fd : FuncData}
theorem scLawNext : FnScope ["pot", "many", "cell", "stir"] ["pot", "many"] (defScope sLawNext) := ⟨rfl, rfl, rfl, by decide +kernel, rfl, by decide +kernel, by decide +kernel⟩
theorem ok_next (F : Fun K "_law_next" "_law_next" sLawNext f fd) : FnOk P w K mg base CX0 1 f fd ["pot", "many"] (spTakeG GPot) := by
  have sc := scLawNext
  refine F.ok sc (fun vs H Q E h => ?_) (fun cdv A outer s H vs Q E hr h => ?_)
  · obtain ⟨h, m, rfl, _⟩ := h; rfl
  obtain ⟨h, m, rfl, ⟨xs, hh, x, y, rfl⟩, m0, m1, q⟩ := h
  refine ⟨_, (pss_cons (ps_asg (pe_op op_add (pe_ix (kix_list (K := K) rfl) (pv 0) pe_int (fun _ _ => rfl)) pe_int) (pg_sub (pv 0) pe_int set_list))
  (pss_cons (ps_set (i := 2) sc.nd rfl (Or.inl rfl) (pe_ix (kix_list (K := K) rfl) (pv 0) pe_int (fun _ _ => rfl)))
  (pss_cons (ps_if (pt_cmpR op_ge (pv 2) (pe_op op_pow pe_int pe_int) (nomark _)) (pss_cons (ps_asg (pe_op op_fdivB (pv 2) (pv 1)) (pg_sub (pv 0) pe_int set_list))
  (pss_one (ps_ret (pe_op op_mod (pv 2) (pv 1))))) pss_nil)
  (pss_cons (ps_set (i := 3) sc.nd rfl (Or.inl rfl) (pe_op op_mod (pe_op op_add (pe_op op_add (pe_op op_mul (pv 2) pe_int) (pe_op op_mul (pe_ix (kix_list (K := K) rfl) (pv 0) pe_int (fun _ _ => rfl)) pe_int)) pe_int) pe_int))
  (pss_cons (ps_set (i := 3) sc.nd rfl (Or.inl rfl) (pe_op op_mod (pe_op op_mul (pv 3) (pv 3)) pe_int))
  (pss_one (ps_ret (pe_op op_mod (pe_op op_fdiv (pe_op op_mod (pe_op op_add (pe_op op_mul (pv 3) pe_int) (pe_op op_mul (pe_ix (kix_list (K := K) rfl) (pv 0) pe_int (fun _ _ => rfl)) pe_int)) pe_int) pe_int) (pv 1))))))))), ?_⟩
  have a0 : ∀ u v : V, atI [u, v] 0 = some u := fun _ _ => rfl
  have a1 : ∀ u v : V, atI [u, v] 1 = some v := fun _ _ => rfl
  refine ⟨_, rfl, h, _, _, _, rfl, rfl, SqL.of hh, a1 _ _, _, _, rfl, rfl, _, rfl, h, _, _, 1, rfl, rfl, hh, rfl, ?_⟩
  have hh1 : (upd H h (.lst [.int x, .int (y + 1)])) h = some (.lst [.int x, .int (y + 1)]) := upd_same
  refine ⟨_, rfl, h, _, _, _, rfl, rfl, SqL.of hh1, a0 _ _, ?_⟩
  refine ⟨_, rfl, _, _, rfl, rfl, ⟨by decide, by decide, by decide⟩, _, _, rfl, rfl, _, rfl, ?_⟩
  refine ite2 (fun c => ?_) (fun c => ?_)
  · refine ⟨_, rfl, _, rfl, _, _, rfl, rfl, ⟨m0, m1⟩, _, rfl, h, _, _, 0, rfl, rfl, hh1, rfl, ?_⟩
    refine ⟨_, rfl, _, rfl, _, _, rfl, rfl, m0, ?_⟩
    have q' := q (x % m) [.int (x / m), .int (y + 1)] (Int.emod_nonneg _ (by omega)) (Int.emod_lt_of_pos _ m0) ⟨_, _, rfl⟩
    rw [← upd_upd (o := .lst [.int x, .int (y + 1)])] at q'
    exact q'
  · have b := mods (r := x * 69621 + (y + 1) * 7919 + 13) (n := 2147483647) (by decide)
    have b2 := mods (r := (x * 69621 + (y + 1) * 7919 + 13) % 2147483647 * ((x * 69621 + (y + 1) * 7919 + 13) % 2147483647)) (n := 2147483629) (by decide)
    refine ⟨_, rfl, _, _, rfl, rfl, .inr ⟨by decide, by decide⟩, _, rfl, h, _, _, _, rfl, rfl, SqL.of hh1, a1 _ _, _, _, rfl, rfl, .inr ⟨by decide, by decide⟩, _, _, rfl, rfl, _, _, rfl, rfl, _, _, rfl, rfl, (by show (0 : Int) < 2147483647; decide), ?_⟩
    refine ⟨_, rfl, _, rfl, _, _, rfl, rfl, .inl ⟨by omega, by omega⟩, _, _, rfl, rfl, (by show (0 : Int) < 2147483629; decide), ?_⟩
    refine ⟨_, rfl, _, _, rfl, rfl, .inr ⟨by decide, by decide⟩, _, rfl, h, _, _, _, rfl, rfl, SqL.of hh1, a1 _ _, _, _, rfl, rfl, .inr ⟨by decide, by decide⟩, _, _, rfl, rfl, _, _, rfl, rfl, (by show (0 : Int) < 2147483587; decide), _, _, rfl, rfl, ⟨by decide, by decide⟩, _, rfl, _, _, rfl, rfl, m0, ?_⟩
    exact q _ _ (Int.emod_nonneg _ (by omega)) (Int.emod_lt_of_pos _ m0) ⟨_, _, rfl⟩
theorem scLawPots : FnScope ["script", "cell"] ["script"] (defScope sLawPots) := ⟨rfl, rfl, rfl, by decide +kernel, rfl, by decide +kernel, by decide +kernel⟩
theorem ok_pots (F : Fun K "_law_pots" "_law_pots" sLawPots f fd) (B : Blt mg) : FnOk P w K mg base CX0 1 f fd ["script"] spPots := by
  have sc := scLawPots
  refine F.ok sc (fun vs H Q E h => ?_) (fun cdv A outer s H vs Q E hr h => ?_)
  · obtain ⟨a, ns, rfl, _⟩ := h; rfl
  obtain ⟨a, ns, rfl, ea, l63, q⟩ := h
  refine ⟨_, (pss_cons (ps_if (pt_cmpR op_eq (pe_callB (kcall_len (K := K) rfl) (by rfl) B.len (by decide +kernel) (pa_cons (pv 0) pa_nil)) pe_int (nomark _)) (pss_one (ps_ret (pe_lst (pa_cons (pe_lst (pa_cons pe_int (pa_cons pe_int pa_nil))) pa_nil)))) pss_nil)
  (pss_one (ps_ret (pe_lc (own := [("cell", 1)]) (by rfl) sc.nd (kpi_list (K := K) rfl (pe_slice (ksl_list (K := K) rfl) (pv 0) po_none (po_some pe_int)))
    (blkOk_by (own := [("cell", 1)]) (N := ["script", "cell"]) (sc := defScope sLawPots) (by decide +kernel))
    (fun _ _ _ _ _ => (pg_name (i := 1) sc.nd rfl (Or.inl rfl)))
    (fun _ _ _ _ _ => pts_nil)
    (fun _ _ _ _ _ => (pe_lst (pa_cons (pv 1) (pa_cons pe_int pa_nil)))))))), ?_⟩
  refine ⟨_, rfl, a, _, rfl, .inl (SqL.of ea), rfl, _, rfl, ?_⟩
  refine ite2 (fun c => ?_) (fun c => ?_)
  · refine ⟨by show 2 ≤ sizeLine; decide, fun p hp => ⟨by show 1 ≤ sizeLine; decide, fun r hr' => ?_⟩⟩
    have n1 := same_new hp (.lst [V.int 0, V.int 0])
    have n2 := n1.trans (same_new hr' (.lst [V.ref p]))
    have npr : p ≠ r := ne_of_none upd_same hr'
    refine q r [p] _ n2 (n1.free hr') upd_same (fun p' hp' => ?_) (by simp) (fun p' hp' => ?_) (by simp [npr.symm])
    · rw [List.mem_singleton.mp hp']
      exact ⟨_, by rw [upd_ne npr]; exact upd_same, _, _, rfl⟩
    · rw [List.mem_singleton.mp hp']; exact hp
  · obtain ⟨ns', ec, lc⟩ := cut_ints ns none (some 63)
    refine ⟨_, rfl, _, rfl, a, _, rfl, SqL.of ea, fun p1 hp1 => ?_⟩
    rw [ec]
    have n1 := same_new hp1 (.lst (intsV ns'))
    have e1 : (upd H p1 (.lst (intsV ns'))) p1 = some (.lst (intsV ns')) := upd_same
    generalize upd H p1 (.lst (intsV ns')) = H1 at n1 e1
    refine ⟨p1, rfl, ⟨_, SqL.of e1⟩, fun D hD => ?_⟩
    refine lc_list (a := p1) (xs := intsV ns') (fun i H2 => Same H1 H2 ∧ ∃ ps : List Addr, H2 D = some (.lst (ps.map V.ref)) ∧ ps.length = i ∧ (∀ p ∈ ps, HdAt GPot H2 p) ∧ ps.Nodup ∧ (∀ p ∈ ps, H1 p = none) ∧ D ∉ ps) ⟨same_new hD _, [], upd_same, rfl, fun p h => by simp at h, by simp, fun p h => by simp at h, by simp⟩ (fun i H2 _ ⟨s2, _⟩ => SqL.of (s2 _ _ e1)) ?_ ?_
    · rintro i x H2 hx ⟨s2, ps, eD, lp, hps, nd, fr, nD⟩
      obtain ⟨hi, rfl⟩ := ints_get hx
      refine ⟨rfl, _, rfl, by show 2 ≤ sizeLine; decide, fun p hp => ?_⟩
      have np := same_new hp (.lst [V.int ns'[i], V.int 0])
      have npD : p ≠ D := (ne_of_none eD hp).symm
      refine ⟨_, np _ _ eD, by rw [List.length_map, lp]; exact small1000 (by omega), Same.own (s2.trans np) hD _, ps ++ [p], by rw [upd_same, List.map_append]; rfl, by rw [List.length_append, lp]; rfl, fun p' h' => ?_, ?_, fun p' h' => ?_, ?_⟩
      · rcases List.mem_append.mp h' with z | z
        · exact ((hps p' z).same np).upd _ (fun w => nD (w ▸ z))
        · rw [List.mem_singleton.mp z]
          exact ⟨_, by rw [upd_ne npD]; exact upd_same, _, _, rfl⟩
      · refine List.nodup_append.mpr ⟨nd, by simp, fun a ha b hb z => ?_⟩
        rw [List.mem_singleton.mp hb] at z
        obtain ⟨xs, ex, _⟩ := hps a ha
        rw [z, hp] at ex; cases ex
      · rcases List.mem_append.mp h' with z | z
        · exact fr p' z
        · rw [List.mem_singleton.mp z]; exact s2.free hp
      · intro h'
        rcases List.mem_append.mp h' with z | z
        · exact nD z
        · exact npD (List.mem_singleton.mp z).symm
    rintro H2 ⟨s2, ps, eD, lp, hps, nd, fr, nD⟩
    exact q D ps H2 (n1.trans s2) (n1.free hD) eD hps nd (fun p hp => n1.free (fr p hp)) nD
theorem scLawOrder : FnScope ["pot", "many", "left", "k"] ["pot", "many"] (defScope sLawOrder) := ⟨rfl, rfl, rfl, by decide +kernel, rfl, by decide +kernel, by decide +kernel⟩
theorem ok_order (F : Fun K "_law_order" "_law_order" sLawOrder f fd) (B : Blt mg) (D_law_next : Def P w K mg base 1 "_law_next" ["pot", "many"] (spTakeG GPot)) : FnOk P w K mg base CX0 2 f fd ["pot", "many"] (spOrderG GPot) := by
  have sc := scLawOrder
  refine F.ok sc (fun vs H Q E h => ?_) (fun cdv A outer s H vs Q E hr h => ?_)
  · obtain ⟨h, m, rfl, _⟩ := h; rfl
  obtain ⟨h, m, rfl, hh, hm, q⟩ := h
  refine ⟨_, (pss_cons (ps_set (i := 2) sc.nd rfl (Or.inr rfl) (pe_callTy (call_list_rng rfl) (by rfl) B.list (by decide +kernel) (pa_cons (pe_callTy call_range1 (by rfl) B.range (by decide +kernel) (pa_cons (pv 1) pa_nil)) pa_nil)))
  (pss_one (ps_ret (pe_lc (own := [("k", 3)]) (by rfl) sc.nd (pi_range1 (by rfl) B.range (pa_cons (pv 1) pa_nil))
    (blkOk_by (own := [("k", 3)]) (N := ["pot", "many", "left", "k"]) (sc := defScope sLawOrder) (by decide +kernel))
    (fun _ _ _ _ _ => (pg_name (i := 3) sc.nd rfl (Or.inl rfl)))
    (fun _ _ _ _ _ => pts_nil)
    (fun _ _ _ _ _ => (kpe_bm (K := K) rfl PySem.F.plainAttrs_list PySem.F.slot_list_pop PySem.F.type_list_pop mt_popAt (pv 2) (pa_cons (pe_def D_law_next (hr.mono (by first | decide | exact Nat.le_refl _)) (by rfl) (pa_cons (pv 0) (pa_cons (pe_callB (kcall_len (K := K) rfl) (by rfl) B.len (by decide +kernel) (pa_cons (pv 2) pa_nil)) pa_nil))) pa_nil))))))), ?_⟩
  refine ⟨_, rfl, _, rfl, fun p hp => ?_⟩
  refine ⟨p, 0, _, rfl, upd_same, ⟨by decide, by decide, by omega, by omega⟩, by omega, fun l hl => ?_⟩
  have em : ((m : Int) - 0).toNat = m := by omega
  have hl0 : H l = none := (same_new hp _).free hl
  have hh1 : HdAt GPot (upd (upd H p (.rng 0 m)) l (.lst (rngV 0 ((m : Int) - 0).toNat))) h := (hh.new hp _).new hl _
  have k1 : Keep h H (upd (upd H p (.rng 0 m)) l (.lst (rngV 0 ((m : Int) - 0).toNat))) := (Keep.new hp _).own hl0 _
  generalize eH1 : upd (upd H p (.rng 0 m)) l (.lst (rngV 0 ((m : Int) - 0).toNat)) = H1 at hh1 k1 ⊢
  have el : H1 l = some (.lst (intsV (rgI m))) := by rw [← eH1, em, upd_same, rngV_rgI]
  refine ⟨_, rfl, _, rfl, by omega, by omega, fun D hD => ?_⟩
  have nDl : D ≠ l := (ne_of_none el hD).symm
  have nDh : D ≠ h := hh1.ne hD
  have nlh : l ≠ h := hh.ne hl0
  have hD0 : H D = none := k1.freeG hh1 hD
  refine lc_range (lo := 0) (n := m) (fun i H2 => ∃ acc rest, H2 D = some (.lst (intsV acc)) ∧ H2 l = some (.lst (intsV rest)) ∧ acc.length = i ∧ (acc ++ rest).Perm (rgI m) ∧ Keep h H H2 ∧ HdAt GPot H2 h) ?_ ?_ ?_
  · exact ⟨[], _, upd_same, by rw [upd_ne nDl.symm, el]; rfl, rfl, List.Perm.refl _, k1.own hD0 _, hh1.new hD _⟩
  · rintro i H2 hi ⟨acc, rest, eD, eL, ea, pm, k2, hh2⟩
    have lr : rest.length = m - i := by
      have := pm.length_eq
      rw [List.length_append, rgI_len] at this
      omega
    refine ⟨rfl, ⟨_, rfl, .inl ⟨rfl, _, SqL.of eL⟩, _, rfl, _, rfl, l, _, rfl, .inl (SqL.of eL), h, _, rfl, hh2, ?_, ?_, fun r xs r0 r1 ok => ?_⟩⟩
    · rw [List.length_map]; omega
    · rw [List.length_map]; omega
    rw [List.length_map] at r1
    have hrl : r.toNat < rest.length := by omega
    have ey : (intsV rest)[r.toNat]? = some (.int rest[r.toNat]) := by simp [hrl]
    have six : seqIndex? r (intsV rest).length = some r.toNat := by
      rw [List.length_map]
      exact seqIx r0 (by omega)
    refine ⟨l, _, r, r.toNat, _, rfl, rfl, by rw [upd_ne nlh]; exact eL, by omega, by omega, six, ey, ?_⟩
    refine ⟨_, by rw [upd_ne nDl, upd_ne nDh]; exact eD, ?_, ?_⟩
    · rw [List.length_map]; exact small1000 (by omega)
    refine ⟨acc ++ [rest[r.toNat]], rest.eraseIdx r.toNat, ?_, ?_, ?_, ?_, ((k2.hnd _).own hl0 _).own hD0 _, ?_⟩
    · rw [upd_same]; simp
    · rw [upd_ne nDl.symm, upd_same, eraseIdx_map]
    · rw [List.length_append, ea]; rfl
    · refine List.Perm.trans ?_ pm
      rw [List.append_assoc]
      refine List.Perm.append_left acc ?_
      exact perm_erase rest r.toNat hrl
    · exact ((HdAt.set ok).upd _ nlh).upd _ nDh
  · rintro H2 ⟨acc, rest, eD, eL, ea, pm, k2, hh2⟩
    have lr : rest = [] := by
      have := pm.length_eq
      rw [List.length_append, rgI_len] at this
      exact List.eq_nil_of_length_eq_zero (by omega)
    subst lr
    rw [List.append_nil] at pm
    exact q D acc H2 hD0 eD pm k2 hh2
theorem scLawLength : FnScope ["pot"] ["pot"] (defScope sLawLength) := ⟨rfl, rfl, rfl, by decide +kernel, rfl, by decide +kernel, by decide +kernel⟩
theorem ok_length (F : Fun K "_law_length" "_law_length" sLawLength f fd) (D_law_next : Def P w K mg base 1 "_law_next" ["pot", "many"] (spTakeG GPot)) : FnOk P w K mg base CX0 2 f fd ["pot"] (spLengthG GPot) := by
  have sc := scLawLength
  refine F.ok sc (fun vs H Q E h => ?_) (fun cdv A outer s H vs Q E hr h => ?_)
  · obtain ⟨h, rfl, _⟩ := h; rfl
  obtain ⟨h, rfl, hh, q⟩ := h
  refine ⟨_, (pss_one (ps_ret (pe_op op_add pe_int (pe_def D_law_next (hr.mono (by first | decide | exact Nat.le_refl _)) (by rfl) (pa_cons (pv 0) (pa_cons (pe_ix (kix_list (K := K) rfl) (pe_lst (pa_cons pe_int (pa_cons pe_int (pa_cons pe_int (pa_cons pe_int pa_nil))))) (pe_def D_law_next (hr.mono (by first | decide | exact Nat.le_refl _)) (by rfl) (pa_cons (pv 0) (pa_cons pe_int pa_nil))) (fun _ _ => rfl)) pa_nil)))))), ?_⟩
  refine ⟨_, rfl, (by show 4 ≤ sizeLine; decide), fun p hp => ?_⟩
  have hh1 := hh.new hp (.lst [V.int 1, V.int 3, V.int 9, V.int 1000])
  have nph := hh.ne hp
  refine ⟨_, rfl, h, 4, rfl, hh1, by decide, by decide, fun r xs r0 r1 ok => ?_⟩
  obtain ⟨n, en, no⟩ := menu4s (a := 1) (b := 3) (c := 9) (d := 1000) r0 r1
  refine ⟨p, _, _, _, rfl, rfl, SqL.of (by rw [upd_ne nph]; exact upd_same), en, h, n, rfl, .set ok, by omega, by omega, fun v ys v0 v1 ok2 => ⟨_, _, rfl, rfl, ?_⟩⟩
  exact q (1 + v) _ (by omega) (by omega) (((Keep.new hp _).hnd _).hnd _) (.set ok2)
theorem scLawRoadsSorted : FnScope ["roads", "a", "b", "length"] ["roads"] (defScope sLawRoadsSorted) := ⟨rfl, rfl, rfl, by decide +kernel, rfl, by decide +kernel, by decide +kernel⟩
theorem ok_roads_sorted (F : Fun K "_law_roads_sorted" "_law_roads_sorted" sLawRoadsSorted f fd) (B : Blt mg) : FnOk P w K mg base CX0 1 f fd ["roads"] spSortR := by
  have sc := scLawRoadsSorted
  refine F.ok sc (fun vs H Q E h => ?_) (fun cdv A outer s H vs Q E hr h => ?_)
  · obtain ⟨ra, rs, rfl, _⟩ := h; rfl
  obtain ⟨ra, rs, rfl, ⟨ts, er, pr⟩, l40, q⟩ := h
  have lts : ts.length = rs.length := Paired.length pr
  refine ⟨_, (pss_one (ps_ret (pe_callB (kcr_sortedT (K := K) rfl) (by rfl) B.sorted (by decide +kernel) (pa_cons (pe_lc (own := [("a", 1), ("b", 2), ("length", 3)]) (by rfl) sc.nd (kpi_list (K := K) rfl (pv 0))
    (blkOk_by (own := [("a", 1), ("b", 2), ("length", 3)]) (N := ["roads", "a", "b", "length"]) (sc := defScope sLawRoadsSorted) (by decide +kernel))
    (fun _ _ _ _ _ => (kpg_tup (K := K) (n := 3) rfl (by rfl) (pgs_cons (pg_name (i := 1) sc.nd rfl (Or.inl rfl)) (pgs_cons (pg_name (i := 2) sc.nd rfl (Or.inl rfl)) (pgs_cons (pg_name (i := 3) sc.nd rfl (Or.inl rfl)) pgs_nil)))))
    (fun _ _ _ _ _ => pts_nil)
    (fun _ _ _ _ _ => (pe_tup (pa_cons (pe_callB (call_min2 rfl) (by rfl) B.min (by decide +kernel) (pa_cons (pv 1) (pa_cons (pv 2) pa_nil))) (pa_cons (pe_callB (call_max2 rfl) (by rfl) B.max (by decide +kernel) (pa_cons (pv 1) (pa_cons (pv 2) pa_nil))) (pa_cons (pv 3) pa_nil)))))) pa_nil)))), ?_⟩
  refine ⟨_, rfl, ra, rfl, ⟨_, SqL.of er⟩, fun D hD => ?_⟩
  refine lc_list (a := ra) (xs := ts.map V.ref) (fun i H3 => Same H H3 ∧ ∃ new : List Addr, H3 D = some (.lst (new.map V.ref)) ∧ new.length = i ∧ Paired (fun t e => H3 t = some (tupR e)) new ((rs.take i).map rise)) ⟨same_new hD _, [], upd_same, rfl, .nil⟩ (fun i H3 _ ⟨s3, _⟩ => SqL.of (s3 _ _ er)) ?_ ?_
  · rintro i x H3 hx ⟨s3, new, eD, ln, pn⟩
    rw [List.getElem?_map] at hx
    obtain ⟨t, ht, rfl⟩ := Option.map_eq_some_iff.mp hx
    obtain ⟨e, he, et⟩ := paired_get pr ht
    have hi : i < rs.length := (List.getElem?_eq_some_iff.mp he).1
    refine ⟨t, _, rfl, SqT.of (s3 _ _ et), rfl, _, _, rfl, _, _, rfl, _, _, rfl, rfl, ⟨rfl, _, rfl, _, rfl, _, _, rfl, _, rfl, _, rfl, _, _, rfl, _, rfl, by show 3 ≤ sizeLine; decide, fun p hp => ?_⟩⟩
    have np := same_new hp (tupR (rise e))
    have npD : p ≠ D := (ne_of_none eD hp).symm
    refine ⟨_, np _ _ eD, by rw [List.length_map, ln]; exact small1000 (by omega), Same.own (s3.trans np) hD _, new ++ [p], ?_, by rw [List.length_append, ln]; rfl, ?_⟩
    · rw [upd_same, List.map_append]; rfl
    · have tk : (rs.take (i + 1)).map rise = (rs.take i).map rise ++ [rise e] := by rw [List.take_add_one, he, List.map_append]; rfl
      rw [tk]
      refine Paired.snoc (Paired.mapP pn fun t e' z => ?_) ?_
      · have nt : t ≠ D := ne_of z eD (fun z => nomatch z)
        rw [upd_ne nt]; exact np _ _ z
      · rw [upd_ne npD]; exact upd_same
  rintro H3 ⟨s3, new, eD, ln, pn⟩
  rw [List.length_map, lts, List.take_length] at pn
  refine ⟨D, new, keyAt H3, rfl, SqL.of eD, fun t ht => ?_, fun ts' r pm pw hr' => ?_⟩
  · obtain ⟨e, _, he⟩ := paired_mem pn t ht
    rw [keyAt_of he]
    exact ⟨by simp, he⟩
  obtain ⟨rs', prr, prm, srt⟩ := sorted_roads pn pm pw
  exact q r rs' _ (s3.trans (same_new hr' _)) (s3.free hr') ⟨ts', upd_same, Paired.mapP prr fun t e z => (same_new hr' _) _ _ z⟩ prm srt
theorem scLawTree : FnScope ["pot", "most", "many", "shape", "order", "roads", "k", "near", "ahead", "folk", "place"] ["pot", "most"] (defScope sLawTree) := ⟨rfl, rfl, rfl, by decide +kernel, rfl, by decide +kernel, by decide +kernel⟩
theorem ok_tree (F : Fun K "_law_tree" "_law_tree" sLawTree f fd) (B : Blt mg) (D_law_next : Def P w K mg base 1 "_law_next" ["pot", "many"] (spTakeG GPot)) (D_law_order : Def P w K mg base 2 "_law_order" ["pot", "many"] (spOrderG GPot)) (D_law_length : Def P w K mg base 2 "_law_length" ["pot"] (spLengthG GPot)) (D_law_roads_sorted : Def P w K mg base 1 "_law_roads_sorted" ["roads"] spSortR) : FnOk P w K mg base CX0 3 f fd ["pot", "most"] spTree := by
  have sc := scLawTree
  refine F.ok sc (fun vs H Q E h => ?_) (fun cdv A outer s H vs Q E hr h => ?_)
  · obtain ⟨h, mx, rfl, _⟩ := h; rfl
  obtain ⟨h, mx, rfl, hh, mx1, mx12, q⟩ := h
  refine ⟨_, (pss_cons (ps_set (i := 2) sc.nd rfl (Or.inl rfl) (pe_op op_add pe_int (pe_def D_law_next (hr.mono (by first | decide | exact Nat.le_refl _)) (by rfl) (pa_cons (pv 0) (pa_cons (pe_ix (kix_list (K := K) rfl) (pe_lst (pa_cons (pe_callB (call_min2 rfl) (by rfl) B.min (by decide +kernel) (pa_cons pe_int (pa_cons (pv 1) pa_nil))) (pa_cons (pv 1) pa_nil))) (pe_def D_law_next (hr.mono (by first | decide | exact Nat.le_refl _)) (by rfl) (pa_cons (pv 0) (pa_cons pe_int pa_nil))) (fun _ _ => rfl)) pa_nil)))))
  (pss_cons (ps_set (i := 3) sc.nd rfl (Or.inl rfl) (pe_def D_law_next (hr.mono (by first | decide | exact Nat.le_refl _)) (by rfl) (pa_cons (pv 0) (pa_cons pe_int pa_nil))))
  (pss_cons (ps_set (i := 4) sc.nd rfl (Or.inl rfl) (pe_def D_law_order (hr.mono (by first | decide | exact Nat.le_refl _)) (by rfl) (pa_cons (pv 0) (pa_cons (pv 2) pa_nil))))
  (pss_cons (ps_set (i := 5) sc.nd rfl (Or.inl rfl) (pe_lst pa_nil))
  (pss_cons (ps_for PassesOwn.never rfl (pi_range2 (by rfl) B.range (pa_cons pe_int (pa_cons (pv 2) pa_nil))) (pg_name (i := 6) sc.nd rfl (Or.inl rfl))
  (pss_cons (ps_set (i := 7) sc.nd rfl (Or.inl rfl) (pe_op op_sub (pe_op op_sub (pv 6) pe_int) (pe_def D_law_next (hr.mono (by first | decide | exact Nat.le_refl _)) (by rfl) (pa_cons (pv 0) (pa_cons (pe_callB (call_min2 rfl) (by rfl) B.min (by decide +kernel) (pa_cons (pv 6) (pa_cons pe_int pa_nil))) pa_nil)))))
  (pss_cons (ps_set (i := 8) sc.nd rfl (Or.inl rfl) (pe_ix (kix_list (K := K) rfl) (pe_lst (pa_cons (pe_op op_sub (pv 6) pe_int) (pa_cons pe_int (pa_cons (pe_def D_law_next (hr.mono (by first | decide | exact Nat.le_refl _)) (by rfl) (pa_cons (pv 0) (pa_cons (pv 6) pa_nil))) (pa_cons (pv 7) pa_nil))))) (pv 3) (fun _ _ => rfl)))
  (pss_one (ps_expr (kpe_bm (K := K) rfl PySem.F.plainAttrs_list PySem.F.slot_list_append PySem.F.type_list_append mt_append (pv 5) (pa_cons (pe_tup (pa_cons (pe_ix (kix_list (K := K) rfl) (pv 4) (pv 8) (fun _ _ => rfl)) (pa_cons (pe_ix (kix_list (K := K) rfl) (pv 4) (pv 6) (fun _ _ => rfl)) (pa_cons (pe_def D_law_length (hr.mono (by first | decide | exact Nat.le_refl _)) (by rfl) (pa_cons (pv 0) pa_nil)) pa_nil)))) pa_nil)))))))
  (pss_cons (ps_set (i := 9) sc.nd rfl (Or.inr rfl) (pe_ix (kix_list (K := K) rfl) (pe_lst (pa_cons pe_int (pa_cons pe_int (pa_cons pe_int (pa_cons pe_int pa_nil))))) (pe_def D_law_next (hr.mono (by first | decide | exact Nat.le_refl _)) (by rfl) (pa_cons (pv 0) (pa_cons pe_int pa_nil))) (fun _ _ => rfl)))
  (pss_one (ps_ret (pe_tup (pa_cons (pe_lc (own := [("place", 10)]) (by rfl) sc.nd (pi_range1 (by rfl) B.range (pa_cons (pv 2) pa_nil))
    (blkOk_by (own := [("place", 10)]) (N := ["pot", "most", "many", "shape", "order", "roads", "k", "near", "ahead", "folk", "place"]) (sc := defScope sLawTree) (by decide +kernel))
    (fun _ _ _ _ _ => (pg_name (i := 10) sc.nd rfl (Or.inl rfl)))
    (fun _ _ _ _ _ => pts_nil)
    (fun _ _ _ _ _ => (pe_def D_law_next (hr.mono (by first | decide | exact Nat.le_refl _)) (by rfl) (pa_cons (pv 0) (pa_cons (pv 9) pa_nil))))) (pa_cons (pe_def D_law_roads_sorted (hr.mono (by first | decide | exact Nat.le_refl _)) (by rfl) (pa_cons (pv 5) pa_nil)) pa_nil))))))))))), ?_⟩
  refine ⟨_, rfl, _, rfl, _, _, rfl, _, rfl, by show 2 ≤ sizeLine; decide, fun p hp => ?_⟩
  have nph := hh.ne hp
  refine ⟨_, rfl, h, 2, rfl, hh.new hp _, by decide, by decide, fun r xs r0 r1 ok => ?_⟩
  obtain ⟨n, en, no⟩ := menu2s (a := if (mx : Int) < 3 then (mx : Int) else 3) (b := (mx : Int)) r0 r1
  have nb : 1 ≤ n ∧ n ≤ mx := by
    rcases no with z | z
    · rw [z]; split <;> omega
    · omega
  refine ⟨p, _, _, _, rfl, rfl, SqL.of (by rw [upd_ne nph]; exact upd_same), en, h, n, rfl, .set ok, by omega, by omega, fun t ys t0 t1 ok2 => ⟨_, _, rfl, rfl, ?_⟩⟩
  have k1 : Keep h H (upd (upd (upd H p (.lst [V.int (if (mx : Int) < 3 then (mx : Int) else 3), V.int (mx : Int)])) h (.lst xs)) h (.lst ys)) := ((Keep.new hp _).hnd _).hnd _
  have hh1 : HdAt GPot (upd (upd (upd H p (.lst [V.int (if (mx : Int) < 3 then (mx : Int) else 3), V.int (mx : Int)])) h (.lst xs)) h (.lst ys)) h := .set ok2
  refine set_seq ?_
  generalize upd (upd (upd H p (.lst [V.int (if (mx : Int) < 3 then (mx : Int) else 3), V.int (mx : Int)])) h (.lst xs)) h (.lst ys) = H1 at k1 hh1
  obtain ⟨m, em⟩ : ∃ m : Nat, 1 + t = (m : Int) := ⟨(1 + t).toNat, by omega⟩
  have em' : (fun i j => V.int (i + j)) 1 t = V.int m := congrArg V.int em
  rw [em']
  have m1 : 1 ≤ m := by omega
  have mm : m ≤ mx := by omega
  -- shape, order, roads
  refine ⟨_, rfl, h, 4, rfl, hh1, by decide, by decide, fun shape zs s0 s1 ok3 => ?_⟩
  have k2 : Keep h H (upd H1 h (.lst zs)) := k1.hnd _
  have hh2 : HdAt GPot (upd H1 h (.lst zs)) h := .set ok3
  refine set_seq ?_
  generalize upd H1 h (.lst zs) = H2 at k2 hh2
  refine ⟨_, rfl, _, rfl, h, m, rfl, hh2, by omega, fun ro order H3 fo eo pm k3 hh3 => ?_⟩
  obtain ⟨ol, orng, ond, oall⟩ := perm_rng pm
  have nro : ro ≠ h := hh2.ne fo
  refine set_seq ?_
  refine ⟨by show 0 ≤ sizeLine; decide, fun D hD => ?_⟩
  have k4 : Keep h H (upd H3 D (.lst [])) := (k2.trans k3).trans (Keep.new hD _)
  have fD : H D = none := (k2.trans k3).freeG hh3 hD
  have nDh : D ≠ h := hh3.ne hD
  have nDo : ro ≠ D := ne_of_none eo hD
  have eo4 : (upd H3 D (.lst [])) ro = some (.lst (intsV order)) := by rw [upd_ne nDo]; exact eo
  have eD4 : (upd H3 D (.lst [])) D = some (.lst (([] : List Addr).map V.ref)) := upd_same
  have hh4 := hh3.new hD (.lst [])
  refine set_seq ?_
  generalize upd H3 D (.lst []) = H4 at k4 eo4 eD4 hh4
  have o0 : 0 < order.length := by omega
  refine ⟨_, rfl, _, _, rfl, ⟨by decide, by decide, by omega, by omega⟩, for_range (lo := 1) (n := ((m : Int) - 1).toNat) (fun i σ H5 => ∃ (v6 v7 v8 : Option V) (new : List Addr) (es : List Road), σ = [some (.ref h), some (.int (mx : Int)), some (.int (m : Int)), some (.int shape), some (.ref ro), some (.ref D), v6, v7, v8, none, none] ∧ Keep h H H5 ∧ HdAt GPot H5 h ∧ H5 ro = some (.lst (intsV order)) ∧ H5 D = some (.lst (new.map V.ref)) ∧ Paired (fun t e => H5 t = some (tupR e)) new es ∧ es.length = i ∧ TreeTo m order[0] (order.take (i + 1)) es) ?_ ?_ ?_⟩
  · refine ⟨none, none, none, [], [], rfl, k4, hh4, eo4, eD4, .nil, rfl, ?_⟩
    have e : order.take (0 + 1) = [order[0]] := by
      rw [List.take_add_one]; simp [o0]
    rw [e]; exact TreeTo.start m _
  · rintro i σ H5 hi ⟨v6, v7, v8, new, es, rfl, k5, hh5, eo5, eD5, pn, le, tr⟩
    refine ⟨_, rfl, _, _, rfl, rfl, _, rfl, _, rfl, _, _, rfl, h, _, rfl, hh5, ?_, ?_, fun r xs r0 r1 oka => ⟨_, _, rfl, rfl, ?_⟩⟩
    · show 0 < (if (3 : Int) < 1 + (i : Int) then (3 : Int) else 1 + (i : Int)); split <;> omega
    · show (if (3 : Int) < 1 + (i : Int) then (3 : Int) else 1 + (i : Int)) < 2 ^ 100; split <;> omega
    have r2 : r ≤ i := by
      have r1 : r < (if (3 : Int) < 1 + (i : Int) then (3 : Int) else 1 + (i : Int)) := r1
      split at r1 <;> omega
    have k6 : Keep h H5 (upd H5 h (.lst xs)) := Keep.hand _
    have hh6 : HdAt GPot (upd H5 h (.lst xs)) h := .set oka
    refine set_seq ?_
    generalize upd H5 h (.lst xs) = H6 at k6 hh6
    refine ⟨_, rfl, _, _, rfl, rfl, _, rfl, _, rfl, h, _, rfl, hh6, by omega, by omega, fun v ys v0 v1 okb => ⟨_, rfl, by show 4 ≤ sizeLine; decide, fun p hp => ?_⟩⟩
    obtain ⟨ah, eah, hah⟩ := menu4s (a := 1 + (i : Int) - 1) (b := 0) (c := v) (d := 1 + (i : Int) - 1 - r) s0 s1
    have ah0 : 0 ≤ ah ∧ ah ≤ i := by omega
    refine ⟨_, rfl, p, _, _, _, rfl, rfl, SqL.of upd_same, eah, ?_⟩
    have k7 : Keep h H5 (upd (upd H6 h (.lst ys)) p (.lst [V.int (1 + (i : Int) - 1), V.int 0, V.int v, V.int (1 + (i : Int) - 1 - r)])) := (k6.hnd _).trans (Keep.new hp _)
    have hh7 : HdAt GPot (upd (upd H6 h (.lst ys)) p (.lst [V.int (1 + (i : Int) - 1), V.int 0, V.int v, V.int (1 + (i : Int) - 1 - r)])) h := (HdAt.set okb).new hp _
    refine set_then ?_
    generalize upd (upd H6 h (.lst ys)) p (.lst [V.int (1 + (i : Int) - 1), V.int 0, V.int v, V.int (1 + (i : Int) - 1 - r)]) = H7 at k7 hh7
    have eo7 := k7 _ _ eo5 nro
    have eD7 := k7 _ _ eD5 nDh
    have hah1 : ah.toNat < order.length := by omega
    have hk1 : i + 1 < order.length := by omega
    have eat : atI (intsV order) ah = some (.int order[ah.toNat]) := atI_of (by omega) (by simp [hah1])
    have ekt : atI (intsV order) (1 + (i : Int)) = some (.int order[i + 1]) := by rw [show (1 : Int) + (i : Int) = ((i + 1 : Nat) : Int) by omega]; exact atI_nat (by simp [hk1])
    refine ⟨_, rfl, .inl ⟨rfl, _, SqL.of eD7⟩, _, rfl, _, rfl, ro, _, _, _, rfl, rfl, SqL.of eo7, eat, _, rfl, _, rfl, ro, _, _, _, rfl, rfl, SqL.of eo7, ekt, _, rfl, h, rfl, hh7, fun ln H8 l1 l2 k8 hh8 => ⟨by show 3 ≤ sizeLine; decide, fun tp htp => ?_⟩⟩
    have n9 := same_new htp (tupR (order[ah.toNat], order[i + 1], ln))
    have k59 : Keep h H5 (upd H8 tp (tupR (order[ah.toNat], order[i + 1], ln))) := (k7.trans k8).trans (Keep.same n9)
    have eD9 := k59 _ _ eD5 nDh
    have lnw : new.length = es.length := Paired.length pn
    refine ⟨D, _, _, rfl, rfl, eD9, by rw [List.length_map, lnw, le]; exact small1000 (by omega), ?_⟩
    have ntD : tp ≠ D := (ne_of_none (k8 _ _ eD7 nDh) htp).symm
    refine ⟨_, _, _, new ++ [tp], es ++ [(order[ah.toNat], order[i + 1], ln)], rfl, (k5.trans k59).own fD _, (hh8.same n9).upd _ nDh, ?_, ?_, ?_, by rw [List.length_append, le]; rfl, ?_⟩
    · rw [upd_ne nDo]; exact k59 _ _ eo5 nro
    · rw [upd_same, List.map_append]; rfl
    · refine Paired.snoc (Paired.mapP pn fun t e' z => ?_) ?_
      · have nt : t ≠ D := ne_of z eD5 (fun z => nomatch z)
        rw [upd_ne nt]; exact k59 _ _ z (hh5.neT z)
      · rw [upd_ne ntD]; exact upd_same
    · have tk : order.take (i + 1 + 1) = order.take (i + 1) ++ [order[i + 1]] := by
        rw [List.take_add_one]; simp [hk1]
      rw [tk]
      have ba := orng _ (List.getElem_mem hah1)
      have bk := orng _ (List.getElem_mem hk1)
      refine tr.leaf ?_ ?_ ba.1 ba.2 bk.1 bk.2 l1 l2
      · have hl : ah.toNat < (order.take (i + 1)).length := by rw [List.length_take]; omega
        have e : (order.take (i + 1))[ah.toNat] = order[ah.toNat] := List.getElem_take
        rw [← e]; exact List.getElem_mem hl
      · intro z
        obtain ⟨j, hj, ej⟩ := List.getElem_of_mem z
        rw [List.length_take] at hj
        rw [List.getElem_take] at ej
        exact nodup_ne ond (by omega) hk1 (by omega) ej
  rintro σ H5 ⟨v6, v7, v8, new, es, rfl, k5, hh5, eo5, eD5, pn, le, tr⟩
  -- folk
  refine ⟨by show 4 ≤ sizeLine; decide, fun p hp => ⟨_, rfl, h, 4, rfl, hh5.new hp _, by decide, by decide, fun r xs r0 r1 oka => ?_⟩⟩
  obtain ⟨fk, efk, hfk⟩ := menu4s (a := 1) (b := 2) (c := 10) (d := 1001) r0 r1
  have nph5 := hh5.ne hp
  refine ⟨p, _, _, _, rfl, rfl, SqL.of (by rw [upd_ne nph5]; exact upd_same), efk, ?_⟩
  have k6 : Keep h H5 (upd (upd H5 p (.lst [V.int 1, V.int 2, V.int 10, V.int 1001])) h (.lst xs)) := (Keep.new hp _).hnd _
  have hh6 : HdAt GPot (upd (upd H5 p (.lst [V.int 1, V.int 2, V.int 10, V.int 1001])) h (.lst xs)) h := .set oka
  refine set_then ?_
  generalize upd (upd H5 p (.lst [V.int 1, V.int 2, V.int 10, V.int 1001])) h (.lst xs) = H6 at k6 hh6
  have k06 := k5.trans k6
  refine ⟨_, rfl, _, rfl, by omega, by omega, fun E hE => ?_⟩
  rw [Int.toNat_natCast]
  have nEh := hh6.ne hE
  have fE := k06.freeG hh6 hE
  have eD6 := k6 _ _ eD5 nDh
  have nED : E ≠ D := (ne_of_none eD6 hE).symm
  refine lc_range (lo := 0) (n := m) (fun i H7 => ∃ folk, H7 E = some (.lst (intsV folk)) ∧ FolkOk i folk ∧ Keep h H6 H7 ∧ HdAt GPot H7 h) ⟨[], upd_same, ⟨rfl, fun n hn => by simp at hn⟩, Keep.new hE _, hh6.new hE _⟩ ?_ ?_
  · rintro i H7 hi ⟨folk, eE, ⟨lf, af⟩, k7, hh7⟩
    refine ⟨rfl, ⟨_, rfl, _, rfl, h, fk, rfl, hh7, by omega, by omega, fun v ys v0 v1 okd => ?_⟩⟩
    refine ⟨_, by rw [upd_ne nEh]; exact eE, by rw [List.length_map]; exact small1000 (by omega), folk ++ [v], by rw [upd_same]; simp [intsV], ⟨by rw [List.length_append, lf]; rfl, fun z hz => ?_⟩, (k7.hnd _).own hE _, (HdAt.set okd).upd _ nEh⟩
    rcases List.mem_append.mp hz with hz | hz
    · exact af z hz
    · have : z = v := List.mem_singleton.mp hz
      omega
  rintro H7 ⟨folk, eE, fok, k7, hh7⟩
  have lf := fok.1
  subst lf
  have eD7 := k7 _ _ eD6 nDh
  have pn7 : Paired (fun t e => H7 t = some (tupR e)) new es := Paired.mapP pn fun t e z => (k6.trans k7) _ _ z (hh5.neT z)
  refine ⟨_, rfl, D, es, rfl, ⟨new, eD7, pn7⟩, by omega, fun r2 rs H8 s8 fr2 eR prm srt => ⟨by show 2 ≤ sizeLine; decide, fun w2 hw2 => ?_⟩⟩
  have n9 := same_new hw2 (.tup [.ref E, .ref r2])
  have k08 : Keep h H H8 := (k06.trans k7).trans (Keep.same s8)
  have hh8 := hh7.same s8
  have tk : order.take (((folk.length : Int) - 1).toNat + 1) = order := by rw [List.take_of_length_le (by omega)]
  rw [tk] at tr
  have tro : TreeOk folk.length rs := tr.all (by omega) (by omega) oall (by omega) prm srt
  have eRn : RoadsAt (upd H8 w2 (.tup [.ref E, .ref r2])) r2 rs := by
    obtain ⟨ts, et, pt⟩ := eR
    exact ⟨ts, n9 _ _ et, Paired.mapP pt fun t e z => n9 _ _ z⟩
  refine q w2 E r2 folk rs _ (k08.freeG hh8 hw2) fE ((k06.trans k7).freeG hh7 fr2) (fun z => ?_) upd_same ((s8.trans n9) _ _ eE) eRn (by omega) (by omega) fok tro (k08.trans (Keep.same n9)) (hh8.same n9)
  rw [z, fr2] at eE; cases eE
end
end SS

namespace SS
open PySem L2
section
variable {P : Program} {w : World} {K : PySem.W.Frag} {mg : Str → Option Value} {base : Heap} {f : Addr} {fd : FuncData}
theorem scLawCopy : FnScope ["web"] ["web"] (defScope sLawCopy) := ⟨rfl, rfl, rfl, by decide +kernel, rfl, by decide +kernel, by decide +kernel⟩
theorem ok_copy (F : Fun K "_law_copy" "_law_copy" sLawCopy f fd) (B : Blt mg) : FnOk P w K mg base CX0 1 f fd ["web"] spCopyS := by
  have sc := scLawCopy
  refine F.ok sc (fun vs H Q E h => ?_) (fun cdv A outer s H vs Q E hr h => ?_)
  · obtain ⟨a, folk, rs, rfl, _⟩ := h; rfl
  obtain ⟨a, folk, rs, rfl, ⟨fa, ra, ea, ef, ts, er, pr⟩, q⟩ := h
  refine ⟨_, (pss_one (ps_ret (pe_tup (pa_cons (pe_callTy (kcall_list (K := K) rfl) (by rfl) B.list (by decide +kernel) (pa_cons (pe_ix (kix_tup (K := K) rfl) (pv 0) pe_int (fun _ _ => rfl)) pa_nil)) (pa_cons (pe_callTy (kcall_list (K := K) rfl) (by rfl) B.list (by decide +kernel) (pa_cons (pe_ix (kix_tup (K := K) rfl) (pv 0) pe_int (fun _ _ => rfl)) pa_nil)) pa_nil))))), ?_⟩
  refine ⟨_, rfl, a, _, _, _, rfl, rfl, SqT.of ea, rfl, fa, _, rfl, .inl (SqL.of ef), fun l1 hl1 => ?_⟩
  have n1 := same_new hl1 (.lst (intsV folk))
  refine ⟨_, rfl, a, _, _, _, rfl, rfl, SqT.of (n1 _ _ ea), rfl, ra, _, rfl, .inl (SqL.of (n1 _ _ er)), fun l2 hl2 => ⟨by show 2 ≤ sizeLine; decide, fun r hr' => ?_⟩⟩
  have n2 := same_new hl2 (.lst (ts.map V.ref))
  have n3 := same_new hr' (.tup [.ref l1, .ref l2])
  have n12 : l1 ≠ l2 := ne_of_none (upd_same : upd H l1 (.lst (intsV folk)) l1 = _) hl2
  exact q r l1 l2 _ ((n1.trans n2).trans n3) ((n1.trans n2).free hr') hl1 (n1.free hl2) n12 upd_same ((n2.trans n3) _ _ upd_same) ⟨ts, n3 _ _ upd_same, Paired.mapP pr fun t e z => ((n1.trans n2).trans n3) _ _ z⟩
end
end SS

namespace SS
open PySem L2
def spIsPlace : Sp := fun vs H Q _ => ∃ (m p : Int), vs = [.int m, .int p] ∧ Q (.bl (decide (0 ≤ p ∧ p < m))) H
section
variable {P : Program} {w : World} {K : PySem.W.Frag} {mg : Str → Option Value} {base : Heap} {f : Addr} {fd : FuncData}
theorem scIsPlace : FnScope ["many", "place"] ["many", "place"] (defScope sIsPlace) := ⟨rfl, rfl, rfl, by decide +kernel, rfl, by decide +kernel, by decide +kernel⟩
theorem ok_is_place (F : Fun K "is_place" "is_place" sIsPlace f fd) : FnOk P w K mg base CX0 1 f fd ["many", "place"] spIsPlace := by
  have sc := scIsPlace
  refine F.ok sc (fun vs H Q E h => ?_) (fun cdv A outer s H vs Q E hr h => ?_)
  · obtain ⟨m, p, rfl, _⟩ := h; rfl
  obtain ⟨m, p, rfl, q⟩ := h
  refine ⟨_, (pss_one (ps_ret (pe_chain op_le op_lt pe_int (pv 1) (pv 0)))), ?_⟩
  refine ⟨_, rfl, _, _, rfl, rfl, _, rfl, ?_⟩
  by_cases c : 0 ≤ p
  · rw [if_pos (decide_eq_true c)]
    refine ⟨_, rfl, _, _, rfl, rfl, ?_⟩
    have e : decide (0 ≤ p ∧ p < m) = decide (p < m) := by simp [c]
    rw [e] at q
    exact q
  · rw [if_neg (by simp [c])]
    have e : decide (0 ≤ p ∧ p < m) = false := by simp [c]
    rw [e] at q
    exact q
end
end SS

namespace SS
open PySem L2
section
variable {P : Program} {w : World} {K : PySem.W.Frag} {mg : Str → Option Value} {base : Heap} {f : Addr} {fd : FuncData}
theorem scCheckPlace : FnScope ["web", "place"] ["web", "place"] (defScope sCheckPlace) := ⟨rfl, rfl, rfl, by decide +kernel, rfl, by decide +kernel, by decide +kernel⟩
theorem ok_check_place (F : Fun K "check_place" "check_place" sCheckPlace f fd) (B : Blt mg) (D_is_place : Def P w K mg base 1 "is_place" ["many", "place"] spIsPlace) : FnOk P w K mg base CX0 2 f fd ["web", "place"] spCheckPlace := by
  have sc := scCheckPlace
  refine F.ok sc (fun vs H Q E h => ?_) (fun cdv A outer s H vs Q E hr h => ?_)
  · obtain ⟨a, fa, ra, folk, p, rfl, _⟩ := h; rfl
  obtain ⟨a, fa, ra, folk, p, rfl, ea, ef, p0, p1, q⟩ := h
  refine ⟨_, (pss_one (ps_if (pt_not (pt_val (pe_def D_is_place (hr.mono (by first | decide | exact Nat.le_refl _)) (by rfl) (pa_cons (pe_callB (kcall_len (K := K) rfl) (by rfl) B.len (by decide +kernel) (pa_cons (pe_ix (kix_tup (K := K) rfl) (pv 0) pe_int (fun _ _ => rfl)) pa_nil)) (pa_cons (pv 1) pa_nil))))) (pss_one ps_never) pss_nil)), ?_⟩
  refine ⟨_, rfl, a, _, _, _, rfl, rfl, SqT.of ea, rfl, fa, _, rfl, .inl (SqL.of ef), _, rfl, _, _, rfl, _, rfl, ?_⟩
  rw [decide_eq_true ⟨p0, p1⟩]
  exact iteF q
end
end SS

namespace SS
open PySem L2
section
variable {P : Program} {w : World} {K : PySem.W.Frag} {mg : Str → Option Value} {base : Heap} {f : Addr} {fd : FuncData}
theorem scRowOver : FnScope ["row", "lead", "onward", "now", "beyond"] ["row", "lead", "onward"] (defScope sRowOver) := ⟨rfl, rfl, rfl, by decide +kernel, rfl, by decide +kernel, by decide +kernel⟩
theorem ok_row_over (F : Fun K "row_over" "row_over" sRowOver f fd) (B : Blt mg) : FnOk P w K mg base CX0 1 f fd ["row", "lead", "onward"] spRowOver := by
  have sc := scRowOver
  refine F.ok sc (fun vs H Q E h => ?_) (fun cdv A outer s H vs Q E hr h => ?_)
  · obtain ⟨a, b, lead, m, x, y, rfl, _⟩ := h; rfl
  obtain ⟨a, b, lead, m, x, y, rfl, hm, ea, eb, q⟩ := h
  refine ⟨_, (pss_one (ps_ret (pe_lc (own := [("now", 3), ("beyond", 4)]) (by rfl) sc.nd (kpi_zip (K := K) rfl (by rfl) B.zip (pa_cons (pv 0) (pa_cons (pv 2) pa_nil)))
    (blkOk_by (own := [("now", 3), ("beyond", 4)]) (N := ["row", "lead", "onward", "now", "beyond"]) (sc := defScope sRowOver) (by decide +kernel))
    (fun _ _ _ _ _ => (kpg_tup (K := K) (n := 2) rfl (by rfl) (pgs_cons (pg_name (i := 3) sc.nd rfl (Or.inl rfl)) (pgs_cons (pg_name (i := 4) sc.nd rfl (Or.inl rfl)) pgs_nil))))
    (fun _ _ _ _ _ => pts_nil)
    (fun _ _ _ _ _ => (pe_callB (call_min2 rfl) (by rfl) B.min (by decide +kernel) (pa_cons (pv 3) (pa_cons (pe_op op_add (pv 1) (pv 4)) pa_nil))))))), ?_⟩
  refine ⟨_, rfl, _, rfl, a, b, _, _, rfl, SqL.of ea, SqL.of eb, fun D hD => ?_⟩
  refine lc_zip (fun i H2 => Same H H2 ∧ H2 D = some (.lst (rowV i fun j => .int (mn (x j) (lead + y j))))) (by rw [rowV_len, rowV_len]) ⟨same_new hD _, upd_same⟩ (fun i H2 _ ⟨s2, _⟩ => ⟨SqL.of (s2 _ _ ea), SqL.of (s2 _ _ eb)⟩) ?_ ?_
  · rintro i u v H2 T hu hv ⟨s2, eD⟩ hT
    have hi : i < m := by have := (List.getElem?_eq_some_iff.mp hu).1; rw [rowV_len] at this; exact this
    rw [rowV_get hi] at hu hv
    cases hu; cases hv
    have eD2 : (upd H2 T (.tup [.int (x i), .int (y i)])) D = some (.lst (rowV i fun j => .int (mn (x j) (lead + y j)))) := by rw [upd_ne (ne_of_none eD hT)]; exact eD
    refine ⟨T, _, rfl, SqT.of upd_same, rfl, _, _, rfl, _, _, rfl, rfl, ⟨rfl, _, rfl, _, rfl, _, rfl, _, _, rfl, rfl, _, _, rfl, _, eD2, by rw [rowV_len]; exact small1000 (by omega), ?_, ?_⟩⟩
    · exact Same.own (s2.trans (same_new hT _)) hD _
    · rw [upd_same]
      refine congrArg (fun l => some (HO.lst l)) ?_
      unfold rowV
      rw [List.range_succ, List.map_append]; rfl
  · rintro H2 ⟨s2, eD⟩
    rw [rowV_len] at eD
    exact q D H2 s2 hD eD
theorem scStraightWays : FnScope ["web", "folk", "roads", "far", "rows", "place", "a", "b", "length"] ["web"] (defScope sStraightWays) := ⟨rfl, rfl, rfl, by decide +kernel, rfl, by decide +kernel, by decide +kernel⟩
theorem ok_straight (F : Fun K "straight_ways" "straight_ways" sStraightWays f fd) (B : Blt mg) : FnOk P w K mg base CX0 1 f fd ["web"] spStraight := by
  have sc := scStraightWays
  refine F.ok sc (fun vs H Q E h => ?_) (fun cdv A outer s H vs Q E hr h => ?_)
  · obtain ⟨a, folk, rs, rfl, _⟩ := h; rfl
  obtain ⟨a, folk, rs, rfl, ⟨fa, ra, ea, efa, ts, era, prt⟩, lf, lr, rr, q⟩ := h
  refine ⟨_, (pss_cons (ps_asg (pv 0) (kpg_tup (K := K) (n := 2) rfl (by rfl) (pgs_cons (pg_name (i := 1) sc.nd rfl (Or.inr rfl)) (pgs_cons (pg_name (i := 2) sc.nd rfl (Or.inl rfl)) pgs_nil))))
  (pss_cons (ps_set (i := 3) sc.nd rfl (Or.inr rfl) (pe_op op_add pe_int (pe_callB (kcr_sum (K := K) rfl rfl) (by rfl) B.sum (by decide +kernel) (pa_cons (pe_lc (own := [("a", 6), ("b", 7), ("length", 8)]) (by rfl) sc.nd (kpi_list (K := K) rfl (pv 2))
    (blkOk_by (own := [("a", 6), ("b", 7), ("length", 8)]) (N := ["web", "folk", "roads", "far", "rows", "place", "a", "b", "length"]) (sc := defScope sStraightWays) (by decide +kernel))
    (fun _ _ _ _ _ => (kpg_tup (K := K) (n := 3) rfl (by rfl) (pgs_cons (pg_name (i := 6) sc.nd rfl (Or.inl rfl)) (pgs_cons (pg_name (i := 7) sc.nd rfl (Or.inl rfl)) (pgs_cons (pg_name (i := 8) sc.nd rfl (Or.inl rfl)) pgs_nil)))))
    (fun _ _ _ _ _ => pts_nil)
    (fun _ _ _ _ _ => (pv 8))) pa_nil))))
  (pss_cons (ps_setLc (i := 4) (own := [("place", 5)]) (by rfl) sc.nd rfl rfl (sw_true rfl rfl rfl (by decide +kernel)) (kpi_list (K := K) rfl (pv 1))
    (blkOk_by (own := [("place", 5)]) (N := ["web", "folk", "roads", "far", "rows", "place", "a", "b", "length"]) (sc := defScope sStraightWays) (by decide +kernel))
    (fun _ _ _ _ _ => (pg_name (i := 5) sc.nd rfl (Or.inl rfl)))
    (fun _ _ _ _ _ => pts_nil)
    (fun _ _ _ _ _ => (pe_op op_rep (pe_lst (pa_cons (pv 3) pa_nil)) (pe_callB (kcall_len (K := K) rfl) (by rfl) B.len (by decide +kernel) (pa_cons (pv 1) pa_nil)))))
  (pss_cons (ps_for PassesOwn.never rfl (pi_range1 (by rfl) B.range (pa_cons (pe_callB (kcall_len (K := K) rfl) (by rfl) B.len (by decide +kernel) (pa_cons (pv 1) pa_nil)) pa_nil)) (pg_name (i := 5) sc.nd rfl (Or.inl rfl))
  (pss_one (ps_asg pe_int (pg_sub (pe_ix (kix_list (K := K) rfl) (pv 4) (pv 5) (fun _ _ => rfl)) (pv 5) set_list))))
  (pss_cons (ps_for PassesOwn.never rfl (kpi_list (K := K) rfl (pv 2)) (kpg_tup (K := K) (n := 3) rfl (by rfl) (pgs_cons (pg_name (i := 6) sc.nd rfl (Or.inl rfl)) (pgs_cons (pg_name (i := 7) sc.nd rfl (Or.inl rfl)) (pgs_cons (pg_name (i := 8) sc.nd rfl (Or.inl rfl)) pgs_nil))))
  (pss_cons (ps_asg (pv 8) (pg_sub (pe_ix (kix_list (K := K) rfl) (pv 4) (pv 6) (fun _ _ => rfl)) (pv 7) set_list))
  (pss_one (ps_asg (pv 8) (pg_sub (pe_ix (kix_list (K := K) rfl) (pv 4) (pv 7) (fun _ _ => rfl)) (pv 6) set_list)))))
  (pss_one (ps_ret (pv 4)))))))), ?_⟩
  refine ⟨_, rfl, a, _, rfl, SqT.of ea, rfl, _, _, rfl, _, _, rfl, rfl, ?_⟩
  -- far
  have lts : ts.length = rs.length := Paired.length prt
  refine ⟨_, rfl, ra, rfl, ⟨_, SqL.of era⟩, fun D hD => ?_⟩
  refine lc_list (a := ra) (xs := ts.map V.ref) (fun i H2 => Same H H2 ∧ H2 D = some (.lst (intsV ((rs.take i).map (·.2.2))))) ⟨same_new hD _, upd_same⟩ (fun i H2 _ ⟨s2, _⟩ => SqL.of (s2 _ _ era)) ?_ ?_
  · rintro i x H2 hx ⟨s2, eD⟩
    rw [List.getElem?_map] at hx
    obtain ⟨t, ht, rfl⟩ := Option.map_eq_some_iff.mp hx
    obtain ⟨e, he, et⟩ := paired_get prt ht
    refine ⟨t, _, rfl, SqT.of (s2 _ _ et), rfl, _, _, rfl, _, _, rfl, _, _, rfl, rfl, ⟨rfl, _, rfl, _, eD, ?_, Same.own s2 hD _, ?_⟩⟩
    · rw [List.length_map, List.length_map, List.length_take]; exact small1000 (by omega)
    · rw [upd_same, List.take_add_one, he]
      simp [intsV]
  rintro H2 ⟨s2, eD⟩
  rw [List.length_map, lts, List.take_length] at eD
  refine ⟨D, _, rfl, SqL.of eD, _, _, rfl, rfl, ?_⟩
  show tSeq _ _ _ [some (.ref a), some (.ref fa), some (.ref ra), some (.int (farOf rs)), none, none, none, none, none] H2
  -- rows
  refine ⟨_, rfl, fa, rfl, ⟨_, SqL.of (s2 _ _ efa)⟩, fun R hR => ?_⟩
  have fR : H R = none := s2.free hR
  refine lc_list (a := fa) (xs := intsV folk) (fun i H3 => Same H H3 ∧ ∃ rows : List Addr, H3 R = some (.lst (rows.map V.ref)) ∧ rows.length = i ∧ rows.Nodup ∧ (∀ x ∈ rows, H x = none ∧ x ≠ R) ∧ ∀ (j : Nat) (hj : j < rows.length), H3 rows[j] = some (.lst (rowV folk.length fun _ => .int (farOf rs)))) ⟨Same.own s2 fR _, [], upd_same, rfl, List.nodup_nil, fun x hx => by simp at hx, fun j hj => by simp at hj⟩ (fun i H3 _ ⟨s3, _⟩ => SqL.of (s3 _ _ efa)) ?_ ?_
  · rintro i x H3 hx ⟨s3, rows, eR, lrw, nd, new, at_⟩
    have hi : i < folk.length := by have := (List.getElem?_eq_some_iff.mp hx).1; rw [List.length_map] at this; exact this
    refine ⟨rfl, _, rfl, by show 1 ≤ sizeLine; decide, fun p hp => ⟨_, rfl, fa, _, rfl, .inl (SqL.of ((same_new hp _) _ _ (s3 _ _ efa))), p, _, _, rfl, rfl, upd_same, by rw [List.length_map]; omega, by rw [List.length_map]; omega, ?_, fun p2 hp2 => ?_⟩⟩
    · rw [List.length_map]
      show 1 * _ ≤ _
      exact small1 (by omega)
    have s4 : Same H3 (upd (upd H3 p (.lst [.int (farOf rs)])) p2 (.lst (List.replicate ((((intsV folk).length : Nat) : Int)).toNat [.int (farOf rs)]).flatten)) := (same_new hp _).trans (same_new hp2 _)
    have n2 : p2 ≠ R := fun z => by
      have := (same_new hp (.lst [.int (farOf rs)])) _ _ eR
      rw [← z, hp2] at this; cases this
    refine ⟨_, s4 _ _ eR, by rw [List.length_map, lrw]; exact small1000 (by omega), Same.own (s3.trans s4) fR _, rows ++ [p2], ?_, ?_, ?_, ?_, ?_⟩
    · rw [upd_same, List.map_append]; rfl
    · rw [List.length_append, lrw]; rfl
    · refine List.nodup_append.mpr ⟨nd, by simp, fun y hy z hz => ?_⟩
      have : z = p2 := List.mem_singleton.mp hz
      subst this
      intro e
      subst e
      obtain ⟨j, hj, ej⟩ := List.getElem_of_mem hy
      have := (same_new hp (.lst [.int (farOf rs)])) _ _ (at_ j hj)
      rw [ej, hp2] at this; cases this
    · intro y hy
      rcases List.mem_append.mp hy with hy | hy
      · exact new y hy
      · have : y = p2 := List.mem_singleton.mp hy
        subst this
        exact ⟨(s3.trans (same_new hp _)).free hp2, n2⟩
    · intro j hj
      by_cases hj2 : j < rows.length
      · rw [List.getElem_append_left hj2, upd_ne (new _ (List.getElem_mem hj2)).2]
        exact s4 _ _ (at_ j hj2)
      · have : j = rows.length := by rw [List.length_append] at hj; simp at hj; omega
        subst this
        rw [List.getElem_append_right (Nat.le_refl _)]
        simp only [Nat.sub_self, List.getElem_cons_zero]
        rw [upd_ne n2, upd_same, List.length_map, Int.toNat_natCast]
        refine congrArg (fun l => some (HO.lst l)) ?_
        unfold rowV
        refine List.ext_getElem? fun k => ?_
        rw [flat_one]
        by_cases hk : k < folk.length
        · simp [hk]
        · simp [hk]
  rintro H3 ⟨s3, rows, eR, lrw, nd, new, at_⟩
  rw [List.length_map] at lrw
  have M0 : MatAt H H3 R folk.length (gV fun _ _ => farOf rs) rows := ⟨eR, fR, fun z => (new R z).2 rfl, lrw, nd, fun x hx => (new x hx).1, at_⟩
  clear at_ new nd eR
  -- the diagonal
  refine ⟨_, rfl, fa, _, rfl, .inl (SqL.of (s3 _ _ efa)), _, rfl, by rw [List.length_map]; omega, by rw [List.length_map]; omega, ?_⟩
  rw [List.length_map, Int.toNat_natCast]
  refine for_range (lo := 0) (n := folk.length) (fun i σ H4 => ∃ v5, σ = [some (.ref a), some (.ref fa), some (.ref ra), some (.int (farOf rs)), some (.ref R), v5, none, none, none] ∧ Same H H4 ∧ MatAt H H4 R folk.length (gV (diagG (farOf rs) i)) rows) ?_ ?_ ?_
  · exact ⟨none, rfl, s3, M0.congr fun i j _ _ => diag_zero _ _ _⟩
  · rintro i σ H4 hi ⟨v5, rfl, s4, M⟩
    obtain ⟨x, ex, eX, _, hl, rfl⟩ := M.row (i := 0 + (i : Int)) (by omega) (by omega)
    have ei : (0 + (i : Int)).toNat = i := by omega
    have ixs : ixN (rowV folk.length (gV (diagG (farOf rs) i) (0 + (i : Int)).toNat)).length (0 + (i : Int)) = some i := by
      unfold ixN
      rw [rowV_len, if_pos (by omega), if_pos (by omega), ei]
    refine ⟨_, rfl, _, rfl, R, _, _, _, rfl, rfl, SqL.of M.lst, ex, _, rfl, _, _, _, _, rfl, rfl, eX, ixs, ?_⟩
    refine ⟨_, rfl, M.own s4 hl _, (M.store hl _).congr fun a b ha hb => ?_⟩
    rw [ei]
    exact diag_succ _ _ _ _
  rintro σ H4 ⟨v5, rfl, s4, M⟩
  -- the roads
  have M1 : MatAt H H4 R folk.length (gV (strG (farOf rs) (rs.take 0))) rows := M.congr fun i j hi hj => diag_full hi
  refine ⟨_, rfl, ra, rfl, ⟨_, SqL.of (s4 _ _ era)⟩, for_list (a := ra) (xs := ts.map V.ref) (fun i σ H5 => ∃ v5 v6 v7 v8, σ = [some (.ref a), some (.ref fa), some (.ref ra), some (.int (farOf rs)), some (.ref R), v5, v6, v7, v8] ∧ Same H H5 ∧ MatAt H H5 R folk.length (gV (strG (farOf rs) (rs.take i))) rows) ?_ (fun i σ H5 _ ⟨_, _, _, _, _, s5, _⟩ => SqL.of (s5 _ _ era)) ?_ ?_⟩
  · exact ⟨_, _, _, _, rfl, s4, M1⟩
  · rintro i x σ H5 hx ⟨v5, v6, v7, v8, rfl, s5, M5⟩
    rw [List.getElem?_map] at hx
    obtain ⟨t, ht, rfl⟩ := Option.map_eq_some_iff.mp hx
    obtain ⟨e, he, et⟩ := paired_get prt ht
    have be := rr e (List.mem_of_getElem? he)
    refine ⟨t, _, rfl, SqT.of (s5 _ _ et), rfl, _, _, rfl, _, _, rfl, _, _, rfl, rfl, ?_⟩
    obtain ⟨x, ex, eX, _, hl, rfl⟩ := M5.row (i := e.1) be.1 be.2.1
    have ixs : ∀ (r : Nat → V) (b : Int), 0 ≤ b → b < folk.length → ixN (rowV folk.length r).length b = some b.toNat := fun r b b0 b1 => by
      unfold ixN
      rw [rowV_len, if_pos b0, if_pos b1]
    refine ⟨_, rfl, _, rfl, _, rfl, R, _, _, _, rfl, rfl, SqL.of M5.lst, ex, _, rfl, _, _, _, _, rfl, rfl, eX, ixs _ _ be.2.2.1 be.2.2.2, ?_⟩
    have M6 := M5.store (b := e.2.1.toNat) hl (.int e.2.2)
    have s6 := M5.own s5 hl (.lst ((rowV folk.length (gV (strG (farOf rs) (rs.take i)) e.1.toNat)).set e.2.1.toNat (.int e.2.2)))
    obtain ⟨x2, ex2, eX2, _, hl2, rfl⟩ := M6.row (i := e.2.1) be.2.2.1 be.2.2.2
    refine ⟨_, rfl, _, rfl, _, rfl, R, _, _, _, rfl, rfl, SqL.of M6.lst, ex2, _, rfl, _, _, _, _, rfl, rfl, eX2, ixs _ _ be.1 be.2.1, ?_⟩
    refine ⟨_, _, _, _, rfl, M6.own s6 hl2 _, (M6.store hl2 _).congr fun a b _ _ => ?_⟩
    have tk : rs.take (i + 1) = rs.take i ++ [e] := by rw [List.take_add_one, he]; rfl
    rw [tk, strG_snoc]
    exact road_gV _ _ _ _
  · rintro σ H5 ⟨v5, v6, v7, v8, rfl, s5, M5⟩
    rw [List.length_map, lts, List.take_length] at M5
    exact ⟨_, rfl, q R rows H5 s5 M5⟩
end
end SS

namespace SS
open PySem L2
section
variable {P : Program} {w : World} {K : PySem.W.Frag} {mg : Str → Option Value} {base : Heap} {f : Addr} {fd : FuncData}
theorem scAllWays : FnScope ["web", "ways", "middle", "row"] ["web"] (defScope sAllWays) := ⟨rfl, rfl, rfl, by decide +kernel, rfl, by decide +kernel, by decide +kernel⟩
theorem ok_all_ways (F : Fun K "all_ways" "all_ways" sAllWays f fd) (B : Blt mg) (D_straight_ways : Def P w K mg base 1 "straight_ways" ["web"] spStraight) (D_row_over : Def P w K mg base 1 "row_over" ["row", "lead", "onward"] spRowOver) : FnOk P w K mg base CX0 2 f fd ["web"] spAllWays := by
  have sc := scAllWays
  refine F.ok sc (fun vs H Q E h => ?_) (fun cdv A outer s H vs Q E hr h => ?_)
  · obtain ⟨a, folk, rs, rfl, _⟩ := h; rfl
  obtain ⟨a, folk, rs, rfl, wi, lf, lr, rr, q⟩ := h
  refine ⟨_, (pss_cons (ps_set (i := 1) sc.nd rfl (Or.inr rfl) (pe_def D_straight_ways (hr.mono (by first | decide | exact Nat.le_refl _)) (by rfl) (pa_cons (pv 0) pa_nil)))
  (pss_cons (ps_for PassesOwn.never rfl (pi_range1 (by rfl) B.range (pa_cons (pe_callB (kcall_len (K := K) rfl) (by rfl) B.len (by decide +kernel) (pa_cons (pv 1) pa_nil)) pa_nil)) (pg_name (i := 2) sc.nd rfl (Or.inr rfl))
  (pss_one (ps_set (i := 1) sc.nd rfl (Or.inr rfl) (pe_lc (own := [("row", 3)]) (by rfl) sc.nd (kpi_list (K := K) rfl (pv 1))
    (blkOk_by (own := [("row", 3)]) (N := ["web", "ways", "middle", "row"]) (sc := defScope sAllWays) (by decide +kernel))
    (fun _ _ _ _ _ => (pg_name (i := 3) sc.nd rfl (Or.inl rfl)))
    (fun _ _ _ _ _ => pts_nil)
    (fun _ _ _ _ _ => (pe_def D_row_over (hr.mono (by first | decide | exact Nat.le_refl _)) (by rfl) (pa_cons (pv 3) (pa_cons (pe_ix (kix_list (K := K) rfl) (pv 3) (pv 2) (fun _ _ => rfl)) (pa_cons (pe_ix (kix_list (K := K) rfl) (pv 1) (pv 2) (fun _ _ => rfl)) pa_nil)))))))))
  (pss_one (ps_ret (pv 1))))), ?_⟩
  refine ⟨_, rfl, a, folk, rs, rfl, wi, lf, lr, rr, fun r0 rows0 H1 s1 M1 => ?_⟩
  refine ⟨_, rfl, r0, _, rfl, .inl (SqL.of M1.lst), _, rfl, by rw [List.length_map, M1.rws.len]; omega, by rw [List.length_map, M1.rws.len]; omega, ?_⟩
  rw [List.length_map, M1.rws.len, Int.toNat_natCast]
  refine for_range (lo := 0) (n := folk.length) (fun i σ H2 => ∃ r v2 rows, σ = [some (.ref a), some (.ref r), v2, none] ∧ Same H H2 ∧ MatAt H H2 r folk.length (gV (fw (strG (farOf rs) rs) i)) rows) ⟨r0, none, rows0, rfl, s1, M1⟩ ?_ ?_
  · rintro i σ H2 hi ⟨r, v2, rows, rfl, s2, M⟩
    refine ⟨_, rfl, r, rfl, ⟨_, SqL.of M.lst⟩, fun D hD => ?_⟩
    refine lc_list (a := r) (xs := rows.map V.ref) (fun j H3 => Same H2 H3 ∧ ∃ new : List Addr, H3 D = some (.lst (new.map V.ref)) ∧ new.length = j ∧ new.Nodup ∧ (∀ x ∈ new, H2 x = none ∧ x ≠ D) ∧ ∀ (k : Nat) (hk : k < new.length), H3 new[k] = some (.lst (rowV folk.length (gV (fw (strG (farOf rs) rs) (i + 1)) k)))) ⟨same_new hD _, [], upd_same, rfl, List.nodup_nil, fun x hx => by simp at hx, fun j hj => by simp at hj⟩ (fun j H3 _ ⟨s3, _⟩ => SqL.of (s3 _ _ M.lst)) ?_ ?_
    · rintro j x H3 hx ⟨s3, new, eD, ln, nd, nw, at_⟩
      rw [List.getElem?_map] at hx
      obtain ⟨t, ht, rfl⟩ := Option.map_eq_some_iff.mp hx
      have hj : j < rows.length := (List.getElem?_eq_some_iff.mp ht).1
      have et : rows[j] = t := (List.getElem?_eq_some_iff.mp ht).2
      have hjm : j < folk.length := by have := M.rws.len; omega
      have eT := M.rws.at_ j hj
      rw [et] at eT
      have M3 := M.same s3
      obtain ⟨x, ex, eX, _, hl, rfl⟩ := M3.row (i := 0 + (i : Int)) (by omega) (by omega)
      have ei : (0 + (i : Int)).toNat = i := by omega
      have ec := rowV_at (m := folk.length) (r := gV (fw (strG (farOf rs) rs) i) j) (j := 0 + (i : Int)) (by omega) (by omega)
      refine ⟨rfl, _, rfl, _, rfl, _, rfl, t, _, _, _, rfl, rfl, SqL.of (s3 _ _ eT), ec, _, rfl, _, rfl, r, _, _, _, rfl, rfl, SqL.of M3.lst, ex, ?_⟩
      refine ⟨t, _, _, folk.length, fw (strG (farOf rs) rs) i j, fw (strG (farOf rs) rs) i (0 + (i : Int)).toNat, rfl, lf, s3 _ _ eT, eX, fun p H4 s4 fp ep => ?_⟩
      have npD : p ≠ D := (ne_of_none eD fp).symm
      refine ⟨_, s4 _ _ eD, by rw [List.length_map, ln]; exact small1000 (by omega), Same.own (s3.trans s4) hD _, new ++ [p], ?_, ?_, ?_, ?_, ?_⟩
      · rw [upd_same, List.map_append]; rfl
      · rw [List.length_append, ln]; rfl
      · refine List.nodup_append.mpr ⟨nd, by simp, fun y hy z hz => ?_⟩
        have : z = p := List.mem_singleton.mp hz
        subst this
        intro e
        subst e
        obtain ⟨k, hk, ek⟩ := List.getElem_of_mem hy
        have := at_ k hk
        rw [ek, fp] at this; cases this
      · intro y hy
        rcases List.mem_append.mp hy with hy | hy
        · exact nw y hy
        · have : y = p := List.mem_singleton.mp hy
          subst this
          exact ⟨s3.free fp, npD⟩
      · intro k hk
        by_cases hk2 : k < new.length
        · rw [List.getElem_append_left hk2, upd_ne (nw _ (List.getElem_mem hk2)).2]
          exact s4 _ _ (at_ k hk2)
        · have : k = new.length := by rw [List.length_append] at hk; simp at hk; omega
          subst this
          rw [List.getElem_append_right (Nat.le_refl _)]
          simp only [Nat.sub_self, List.getElem_cons_zero]
          rw [upd_ne npD, ep, ln]
          refine congrArg (fun l => some (HO.lst l)) (rowV_congr fun c _ => ?_)
          rw [ei]
          rfl
    · rintro H3 ⟨s3, new, eD, ln, nd, nw, at_⟩
      rw [List.length_map, M.rws.len] at ln
      exact ⟨D, _, new, rfl, s2.trans s3, eD, s2.free hD, fun z => (nw D z).2 rfl, ln, nd, fun x hx => s2.free (nw x hx).1, at_⟩
  · rintro σ H2 ⟨r, v2, rows, rfl, s2, M⟩
    exact ⟨_, rfl, q r rows H2 s2 M⟩
end
end SS

namespace SS
open PySem L2
def spIsTree : Sp := fun vs H Q _ => ∃ (a : Addr) (folk : List Int) (rs : List Road), vs = [.ref a] ∧ WebIs H a folk rs ∧ Q (.bl (decide (rs.length + 1 = folk.length))) H
def spCheckTree : Sp := fun vs H Q _ => ∃ (a : Addr) (folk : List Int) (rs : List Road), vs = [.ref a] ∧ WebIs H a folk rs ∧ rs.length + 1 = folk.length ∧ Q .non H
theorem iteT2 {b : Bool} {p q : Prop} (e : b = true) (h : p) : (if b = true then p else q) := by rw [if_pos e]; exact h
theorem iteF2 {b : Bool} {p q : Prop} (e : b = false) (h : q) : (if b = true then p else q) := by rw [if_neg (by rw [e]; decide)]; exact h
section
variable {P : Program} {w : World} {K : PySem.W.Frag} {mg : Str → Option Value} {base : Heap} {f : Addr} {fd : FuncData}
theorem scIsTree : FnScope ["web", "folk", "roads"] ["web"] (defScope sIsTree) := ⟨rfl, rfl, rfl, by decide +kernel, rfl, by decide +kernel, by decide +kernel⟩
theorem ok_is_tree (F : Fun K "is_tree" "is_tree" sIsTree f fd) (B : Blt mg) : FnOk P w K mg base CX0 1 f fd ["web"] spIsTree := by
  have sc := scIsTree
  refine F.ok sc (fun vs H Q E h => ?_) (fun cdv A outer s H vs Q E hr h => ?_)
  · obtain ⟨a, folk, rs, rfl, _⟩ := h; rfl
  obtain ⟨a, folk, rs, rfl, ⟨fa, ra, ea, ef, ts, er, pr⟩, q⟩ := h
  have lts : ts.length = rs.length := Paired.length pr
  refine ⟨_, (pss_cons (ps_asg (pv 0) (kpg_tup (K := K) (n := 2) rfl (by rfl) (pgs_cons (pg_name (i := 1) sc.nd rfl (Or.inl rfl)) (pgs_cons (pg_name (i := 2) sc.nd rfl (Or.inl rfl)) pgs_nil))))
  (pss_one (ps_ret (pe_cmpR op_eq (pe_callB (kcall_len (K := K) rfl) (by rfl) B.len (by decide +kernel) (pa_cons (pv 2) pa_nil)) (pe_op op_sub (pe_callB (kcall_len (K := K) rfl) (by rfl) B.len (by decide +kernel) (pa_cons (pv 1) pa_nil)) pe_int) (nomark _))))), ?_⟩
  refine ⟨_, rfl, a, _, rfl, SqT.of ea, rfl, _, _, rfl, _, _, rfl, rfl, ?_⟩
  refine ⟨_, rfl, ra, _, rfl, .inl (SqL.of er), _, rfl, fa, _, rfl, .inl (SqL.of ef), _, _, rfl, rfl, rfl, ?_⟩
  have e : decide (V.int (((ts.map V.ref).length : Nat) : Int) = V.int ((((intsV folk).length : Nat) : Int) - 1)) = decide (rs.length + 1 = folk.length) := by
    rw [List.length_map, List.length_map, lts]
    by_cases c : rs.length + 1 = folk.length
    · rw [decide_eq_true c, decide_eq_true (congrArg V.int (by omega))]
    · rw [decide_eq_false c, decide_eq_false (fun z => c (by have := V.int.inj z; omega))]
  show Q (.bl (decide (V.int (((ts.map V.ref).length : Nat) : Int) = V.int ((((intsV folk).length : Nat) : Int) - 1)))) H
  rw [e]; exact q
theorem scCheckTree : FnScope ["web"] ["web"] (defScope sCheckTree) := ⟨rfl, rfl, rfl, by decide +kernel, rfl, by decide +kernel, by decide +kernel⟩
theorem ok_check_tree (F : Fun K "check_tree" "check_tree" sCheckTree f fd) (D_is_tree : Def P w K mg base 1 "is_tree" ["web"] spIsTree) : FnOk P w K mg base CX0 2 f fd ["web"] spCheckTree := by
  have sc := scCheckTree
  refine F.ok sc (fun vs H Q E h => ?_) (fun cdv A outer s H vs Q E hr h => ?_)
  · obtain ⟨a, folk, rs, rfl, _⟩ := h; rfl
  obtain ⟨a, folk, rs, rfl, wi, l1, q⟩ := h
  refine ⟨_, (pss_one (ps_if (pt_not (pt_val (pe_def D_is_tree (hr.mono (by first | decide | exact Nat.le_refl _)) (by rfl) (pa_cons (pv 0) pa_nil)))) (pss_one ps_never) pss_nil)), ?_⟩
  refine ⟨_, rfl, a, folk, rs, rfl, wi, ?_⟩
  rw [decide_eq_true l1]
  exact ⟨_, rfl, iteF q⟩
end
end SS

namespace L2
open PySem PySem.Spec PyProof.Rows
theorem LamScope.of {N ps cap : List Str} {scope : Scope} {clos : List (Str × Addr)} (hc : clos.map (·.1) = cap) (k : scope.kind = .function) (co : scope.isCoroutine = false) (gen : scope.isGenerator = false) (nd : N.Nodup) (eq : N = ps ++ cap)
    (par : ∀ x ∈ ps, scope.names.lookup x = some .local) (capf : ∀ x ∈ cap, scope.names.lookup x = some .free) (nc : ∀ x ∈ scope.names, x.2 ≠ .cell) (al : ∀ p ∈ scope.names, p.2 = .free → p.1 ∈ cap) : LamScope N ps scope clos :=
  ⟨k, co, gen, nd, by rw [hc]; exact eq, par, by rw [hc]; exact capf, nc, fun x h => by rw [hc]; exact al _ (PySem.mem_of_lookup h) rfl⟩
end L2
namespace SS
open PySem L2
theorem _root_.L2.TabHas.same {H H' : Hp} {T : Addr} {pos : Pos} {q : Str} (h : TabHas H T pos q) (s : Same H H') : TabHas H' T pos q := by
  obtain ⟨c', oc, vs, t, u, a, b, r⟩ := h
  exact ⟨c', oc, vs, t, u, s _ _ a, s _ _ b, r⟩
theorem _root_.L2.TabOk.same {H H' : Hp} {T : Addr} {pos : Pos} {q : Str} (h : TabOk H T pos q) (s : Same H H') : TabOk H' T pos q := h.elim (fun e => .inl (s _ _ e)) fun e => .inr (e.same s)
theorem _root_.L2.TabOk.tbl {H : Hp} {T : Addr} {pos : Pos} {q : Str} (h : TabOk H T pos q) : ∃ ps, H T = some (.tbl ps) := h.elim (fun e => ⟨_, e⟩) fun ⟨_, _, _, _, _, e, _⟩ => ⟨_, e⟩
theorem _root_.L2.SameP.of {T : Addr} {H H' : Hp} (s : Same H H') : SameP T H H' := fun b o _ e => s b o e
theorem MatAt.lsts {H0 H H' : Hp} {r : Addr} {rows : List Addr} {m : Nat} {g : Nat → Nat → V} (a : MatAt H0 H r m g rows) (s : ∀ b xs, H b = some (.lst xs) → H' b = some (.lst xs)) : MatAt H0 H' r m g rows :=
  ⟨s _ _ a.lst, a.new, a.out, a.rws.len, a.rws.nd, a.rws.new, fun i hi => s _ _ (a.rws.at_ i hi)⟩
/-- the places that make the way no longer -/
def alL (W : Nat → Nat → Int) (p q n : Nat) : List Int := ((List.range n).filter fun i => decide (W p i + W i q = W p q)).map fun i : Nat => (i : Int)
theorem alL_succ (W : Nat → Nat → Int) (p q n : Nat) : alL W p q (n + 1) = alL W p q n ++ if W p n + W n q = W p q then [(n : Int)] else [] := by
  unfold alL
  rw [List.range_succ, List.filter_append, List.map_append]
  congr 1
  rw [List.filter_cons, List.filter_nil]
  by_cases h : W p n + W n q = W p q
  · rw [if_pos (decide_eq_true h), if_pos h]; rfl
  · rw [if_neg (fun z => h (of_decide_eq_true z)), if_neg h]; rfl
theorem alL_len (W : Nat → Nat → Int) (p q n : Nat) : (alL W p q n).length ≤ n := by
  unfold alL
  rw [List.length_map]
  exact Nat.le_trans (List.length_filter_le _ _) (by simp)
theorem alL_rng {W : Nat → Nat → Int} {p q n : Nat} {x : Int} (h : x ∈ alL W p q n) : 0 ≤ x ∧ x < n := by
  obtain ⟨i, hi, rfl⟩ := List.mem_map.mp h
  have := List.mem_range.mp (List.mem_filter.mp hi).1
  omega
def lamPosW : Pos := ⟨41, 29, 41, 59⟩
def lamQW : Str := ("way_between" : Str) ++ ".<locals>." ++ "<lambda>"
/-- a way, by a row of ways -/
def spRowAt (wr : Addr) (p : Nat) : Sp := fun vs H Q _ => ∃ (i m : Nat) (W : Nat → Nat → Int) (rows : List Addr) (H0 : Hp), vs = [.int i] ∧ MatAt H0 H wr m (gV W) rows ∧ p < m ∧ i < m ∧ Q (.int (W p i)) H
def spWayB (T : Addr) : Sp := fun vs H Q _ => ∃ (a : Addr) (folk : List Int) (rs : List Road) (p q : Nat), vs = [.ref a, .int p, .int q] ∧ WebIs H a folk rs ∧ rs.length + 1 = folk.length ∧ folk.length ≤ 30 ∧ p < folk.length ∧ q < folk.length ∧ (∀ e ∈ rs, 0 ≤ e.1 ∧ e.1 < folk.length ∧ 0 ≤ e.2.1 ∧ e.2.1 < folk.length) ∧ TabOk H T lamPosW lamQW ∧
  ∀ (r : Addr) (ns : List Int) (H' : Hp), SameP T H H' → TabHas H' T lamPosW lamQW → H r = none → H' r = some (.lst (intsV ns)) → ns.Perm (alL (waysG folk.length rs) p q folk.length) → ns.Pairwise (fun x y => waysG folk.length rs p x.toNat ≤ waysG folk.length rs p y.toNat) → Q (.ref r) H'
section
variable {P : Program} {w : World} {K : PySem.W.Frag} {mg : Str → Option Value} {base : Heap} {f : Addr} {fd : FuncData}
theorem scWayBetween : FnScope ["web", "one", "other", "ways", "along", "place"] ["web", "one", "other"] (defScope sWayBetween) := ⟨rfl, rfl, rfl, by decide +kernel, rfl, by decide +kernel, by decide +kernel⟩
theorem ok_way_between {c T : Addr} (F : Fun K "way_between" "way_between" sWayBetween f fd) (B : Blt mg) (hcd : fd.code = .ref c) (hB : BMod mg base) (hC : PySem.W.CodeHd base c T) (D_check_tree : Def P w K mg base 2 "check_tree" ["web"] spCheckTree) (D_check_place : Def P w K mg base 2 "check_place" ["web", "place"] spCheckPlace) (D_all_ways : Def P w K mg base 2 "all_ways" ["web"] spAllWays) : FnOk P w K mg base CX0 4 f fd ["web", "one", "other"] (spWayB T) := by
  have sc := scWayBetween
  refine F.okC hcd sc (fun vs H Q E h => ?_) (fun A outer s H vs Q E hr h => ?_)
  · obtain ⟨a, folk, rs, p, q, rfl, _⟩ := h; rfl
  obtain ⟨a, folk, rs, p, q, rfl, wi, l1, l30, hp, hq, rr, tab, qf⟩ := h
  obtain ⟨fa, ra, ea, ef, er⟩ := id wi
  refine ⟨_, (pss_cons (ps_expr (pe_def D_check_tree (hr.mono (by first | decide | exact Nat.le_refl _)) (by rfl) (pa_cons (pv 0) pa_nil)))
  (pss_cons (ps_expr (pe_def D_check_place (hr.mono (by first | decide | exact Nat.le_refl _)) (by rfl) (pa_cons (pv 0) (pa_cons (pv 1) pa_nil))))
  (pss_cons (ps_expr (pe_def D_check_place (hr.mono (by first | decide | exact Nat.le_refl _)) (by rfl) (pa_cons (pv 0) (pa_cons (pv 2) pa_nil))))
  (pss_cons (ps_set (i := 3) sc.nd rfl (Or.inr rfl) (pe_def D_all_ways (hr.mono (by first | decide | exact Nat.le_refl _)) (by rfl) (pa_cons (pv 0) pa_nil)))
  (pss_cons (ps_setLc (i := 4) (own := [("place", 5)]) (by rfl) sc.nd rfl rfl (sw_true rfl rfl rfl (by decide +kernel)) (pi_range1 (by rfl) B.range (pa_cons (pe_callB (kcall_len (K := K) rfl) (by rfl) B.len (by decide +kernel) (pa_cons (pv 3) pa_nil)) pa_nil))
    (blkOk_by (own := [("place", 5)]) (N := ["web", "one", "other", "ways", "along", "place"]) (sc := defScope sWayBetween) (by decide +kernel))
    (fun _ _ _ _ _ => (pg_name (i := 5) sc.nd rfl (Or.inl rfl)))
    (fun _ _ _ _ _ => (pts_one (pt_cmpR op_eq (pe_op op_add (pe_ix (kix_list (K := K) rfl) (pe_ix (kix_list (K := K) rfl) (pv 3) (pv 1) (fun _ _ => rfl)) (pv 5) (fun _ _ => rfl)) (pe_ix (kix_list (K := K) rfl) (pe_ix (kix_list (K := K) rfl) (pv 3) (pv 5) (fun _ _ => rfl)) (pv 2) (fun _ _ => rfl))) (pe_ix (kix_list (K := K) rfl) (pe_ix (kix_list (K := K) rfl) (pv 3) (pv 1) (fun _ _ => rfl)) (pv 2) (fun _ _ => rfl)) (nomark _))))
    (fun _ _ _ _ _ => (pv 5)))
  (pss_one (ps_ret (pe_sortedK (k := 0) (LN := ["place", "ways", "one"]) (lps := ["place"]) (ix := [3, 1]) (clos := [("ways", s.heap.objs.size + 1 + 1 + 1), ("one", s.heap.objs.size + 1)]) (good := fun capV sg => ∃ wr p, capV = [V.ref wr, V.int (p : Nat)] ∧ sg = spRowAt wr p) hr (by rfl) B.sorted hB hC rfl (by rfl) (by rfl) (by rfl) (fun q hq => by rcases List.mem_cons.mp hq with rfl | hq; exact ⟨rfl, rfl⟩; rcases List.mem_cons.mp hq with rfl | hq; exact ⟨rfl, rfl⟩; cases hq) (LamScope.of (cap := ["ways", "one"]) rfl rfl rfl rfl (by decide +kernel) rfl (by decide +kernel) (by decide +kernel) (by decide +kernel) (by decide +kernel)) (fun _ => rfl) (fun capV sg vs H Q E gd hs => by obtain ⟨wr, p, rfl, rfl⟩ := gd; obtain ⟨i, m, W, rows, H0, rfl, _⟩ := hs; rfl) (fun _ _ _ us hl => match us, hl with | [_], _ => rfl) (fun g c' A outer s H vs capV sg Q E hr hl gd hs => by obtain ⟨wr, p, rfl, rfl⟩ := gd; obtain ⟨i, m, W, rows, H0, rfl, M, hp, hi, qq⟩ := hs; obtain ⟨xr, exr, eXr, _⟩ := M.row (i := (p : Int)) (by omega) (by omega); exact ⟨_, pe_ix (kix_list (K := K) rfl) (pe_ix (kix_list (K := K) rfl) (pv 1) (pv 2) (fun _ _ => rfl)) (pv 0) (fun _ _ => rfl), _, rfl, _, rfl, wr, _, _, _, rfl, rfl, SqL.of M.lst, exr, _, rfl, xr, _, _, _, rfl, rfl, SqL.of eXr, atI_nat (rowV_get hi), qq⟩) (pv 4))))))))), ?_⟩
  refine ⟨_, rfl, a, folk, rs, rfl, wi, l1, ?_⟩
  refine ⟨_, rfl, _, rfl, a, fa, ra, _, (p : Int), rfl, ea, ef, by omega, by rw [List.length_map]; omega, ?_⟩
  refine ⟨_, rfl, _, rfl, a, fa, ra, _, (q : Int), rfl, ea, ef, by omega, by rw [List.length_map]; omega, ?_⟩
  refine ⟨_, rfl, a, folk, rs, rfl, wi, by omega, by omega, rr, fun wr rows H1 s1 M => ?_⟩
  have lrw : (((rows.map V.ref).length : Nat) : Int) = (folk.length : Int) := by rw [List.length_map, M.rws.len]
  refine ⟨_, rfl, wr, _, rfl, .inl (SqL.of M.lst), _, rfl, by rw [lrw]; omega, by rw [lrw]; omega, fun D hD => ?_⟩
  rw [lrw, Int.toNat_natCast]
  obtain ⟨xp, exp', eXp, _⟩ := M.row (i := (p : Int)) (by omega) (by omega)
  refine lc_range (lo := 0) (n := folk.length) (fun i H2 => Same H1 H2 ∧ H2 D = some (.lst (intsV (alL (waysG folk.length rs) p q i)))) ⟨same_new hD _, upd_same⟩ ?_ ?_
  · rintro i H2 hi ⟨s2, eD⟩
    have M2 := M.same s2
    obtain ⟨xi, exi, eXi, _⟩ := M2.row (i := (i : Int)) (by omega) (by omega)
    rw [Int.zero_add]
    have eXp2 := s2 _ _ eXp
    refine ⟨rfl, _, rfl, _, rfl, wr, _, _, _, rfl, rfl, SqL.of M2.lst, exp', _, rfl, xp, _, _, _, rfl, rfl, SqL.of eXp2, atI_nat (rowV_get hi), _, rfl, _, rfl, wr, _, _, _, rfl, rfl, SqL.of M2.lst, exi, _, rfl, xi, _, _, _, rfl, rfl, SqL.of eXi, atI_nat (rowV_get hq), _, _, rfl, rfl, _, rfl, _, rfl, wr, _, _, _, rfl, rfl, SqL.of M2.lst, exp', _, rfl, xp, _, _, _, rfl, rfl, SqL.of eXp2, atI_nat (rowV_get hq), rfl, _, rfl, ?_⟩
    have ll := alL_len (waysG folk.length rs) p q i
    by_cases c : waysG folk.length rs p i + waysG folk.length rs i q = waysG folk.length rs p q
    · refine iteT2 (decide_eq_true (congrArg V.int c)) ⟨_, rfl, _, eD, by rw [List.length_map]; exact small1000 (by omega), Same.own s2 hD _, ?_⟩
      rw [upd_same, alL_succ, if_pos c]
      simp [intsV]
    · refine iteF2 (decide_eq_false (fun z => c (V.int.inj z))) ⟨s2, ?_⟩
      rw [eD, alL_succ, if_neg c, List.append_nil]
  rintro H2 ⟨s2, eD⟩
  have s02 := s1.trans s2
  have M2 := M.same s2
  have ll := alL_len (waysG folk.length rs) p q folk.length
  have tab2 := tab.same s02
  obtain ⟨psT, etT⟩ := tab2.tbl
  refine ⟨_, rfl, D, alL (waysG folk.length rs) p q folk.length, rfl, by omega, tab2, [V.ref wr, V.int (p : Nat)], rfl, _, ⟨wr, p, rfl, rfl⟩, fun x => waysG folk.length rs p x.toNat, fun g H3 hg sp th => ?_⟩
  have kl : ∀ b xs, H2 b = some (.lst xs) → H3 b = some (.lst xs) := fun b xs e => sp _ _ (ne_of e etT (by simp)) e
  have M3 := M2.lsts kl
  refine ⟨SqL.of (kl _ _ eD), fun n hn H4 s4 Q' q' => ?_, fun ns' d H4 s4 hd pm pw => ?_⟩
  · have b := alL_rng hn
    obtain ⟨i, rfl⟩ : ∃ i : Nat, n = (i : Int) := ⟨n.toNat, by omega⟩
    exact ⟨i, folk.length, _, rows, _, rfl, M3.same s4, hp, by omega, q' _ (Same.refl _)⟩
  · have s5 := same_new hd (.lst (intsV ns'))
    have s25 : SameP T H2 (upd H4 d (.lst (intsV ns'))) := fun b o n e => s5 _ _ (s4 _ _ (sp b o n e))
    refine qf d ns' _ (fun b o n e => s25 b o n (s02 _ _ e)) ((th.same s4).same s5) ?_ upd_same pm pw
    cases e : H d with
    | none => rfl
    | some o =>
      by_cases c : d = T
      · obtain ⟨c', oc, vs, t, u, z, _⟩ := th
        have := s4 _ _ z
        rw [← c, hd] at this
        cases this
      · have := s4 _ _ (sp _ _ c (s02 _ _ e))
        rw [hd] at this
        cases this
end
end SS

namespace SS
open PySem L2
def PathOk (m : Nat) (rs : List Road) (p q : Int) (xs : List Int) : Prop := xs[0]? = some p ∧ xs[xs.length - 1]? = some q ∧ (∀ (k : Nat) (x y : Int), xs[k]? = some x → xs[k + 1]? = some y → HopTo rs q x y) ∧ (∀ x ∈ xs, 0 ≤ x ∧ x < m) ∧ xs.length ≤ m
/-- what the dict of places ahead knows -/
def DictA (H : Hp) (d : Addr) (L : List Int) (A : Int → Int) : Prop := ∃ kvs : List (Key × V), H d = some (.dK kvs) ∧ kvs.length ≤ L.length ∧ ∀ x, (x ∈ L → valV kvs (Sum.inl x) = some (.int (A x))) ∧ (x ∉ L → valV kvs (Sum.inl x) = none)
theorem DictA.mono {H H' : Hp} {d : Addr} {L : List Int} {A : Int → Int} (h : DictA H d L A) (e : H' d = H d) : DictA H' d L A := by
  obtain ⟨kvs, a, b⟩ := h
  exact ⟨kvs, e.trans a, b⟩
theorem DictA.add {H : Hp} {d : Addr} {L : List Int} {A : Int → Int} {kvs : List (Key × V)} {x y : Int} (hl : kvs.length ≤ L.length) (h : ∀ x, (x ∈ L → valV kvs (Sum.inl x) = some (.int (A x))) ∧ (x ∉ L → valV kvs (Sum.inl x) = none)) (hy : y ∉ L) (e : H d = some (.dK (putK kvs (Sum.inl y) (.int x)))) : DictA H d (L ++ [y]) (setA A y x) := by
  have hn := (h y).2 hy
  refine ⟨_, e, ?_, fun z => ⟨fun hz => ?_, fun hz => ?_⟩⟩
  · rw [put_new hn, List.length_append, List.length_append]; exact Nat.add_le_add_right hl 1
  · rw [valV_put]
    by_cases c : z = y
    · rw [if_pos (by rw [c])]
      unfold setA
      rw [if_pos c]
    · rw [if_neg (fun w => c (Sum.inl.inj w))]
      unfold setA
      rw [if_neg c]
      rcases List.mem_append.mp hz with w | w
      · exact (h z).1 w
      · exact absurd (List.mem_singleton.mp w) c
  · rw [valV_put, if_neg (fun w => hz (List.mem_append_right _ (by rw [Sum.inl.inj w]; exact List.mem_singleton.mpr rfl)))]
    exact (h z).2 fun w => hz (List.mem_append_left _ w)
def spLawWay : Sp := fun vs H Q _ => ∃ (a : Addr) (folk : List Int) (rs : List Road) (p q : Nat), vs = [.ref a, .int p, .int q] ∧ WebIs H a folk rs ∧ TreeOk folk.length rs ∧ folk.length ≤ 12 ∧ p < folk.length ∧ q < folk.length ∧ ∀ (r : Addr) (xs : List Int) (H' : Hp), Same H H' → H r = none → H' r = some (.lst (intsV xs)) → PathOk folk.length rs p q xs → Q (.ref r) H'
section
variable {P : Program} {w : World} {K : PySem.W.Frag} {mg : Str → Option Value} {base : Heap} {f : Addr} {fd : FuncData}
theorem scLawWay : FnScope ["web", "one", "other", "ahead", "line", "at", "a", "b", "length", "here", "there", "found"] ["web", "one", "other"] (defScope sLawWay) := ⟨rfl, rfl, rfl, by decide +kernel, rfl, by decide +kernel, by decide +kernel⟩
theorem ok_law_way (F : Fun K "_law_way" "_law_way" sLawWay f fd) (B : Blt mg) : FnOk P w K mg base CX0 1 f fd ["web", "one", "other"] spLawWay := by
  have sc := scLawWay
  refine F.ok sc (fun vs H Q E h => ?_) (fun cdv A outer s H vs Q E hr h => ?_)
  · obtain ⟨a, folk, rs, p, q, rfl, _⟩ := h; rfl
  obtain ⟨a, folk, rs, p, q, rfl, wi, tr, m12, hp, hq, qf⟩ := h
  obtain ⟨fa, ra, ea, ef, ts, er, pr⟩ := id wi
  have lts : ts.length = rs.length := Paired.length pr
  have ok := tr.web.ok
  have hg := tr.web.hang
  refine ⟨_, (pss_cons (ps_set (i := 3) sc.nd rfl (Or.inl rfl) (pe_disp (pps_cons (pv 2) (pv 2) pps_nil) (by rfl) (by rfl) (fun z => by cases z) (by decide)))
  (pss_cons (ps_set (i := 4) sc.nd rfl (Or.inl rfl) (pe_lst (pa_cons (pv 2) pa_nil)))
  (pss_cons (ps_set (i := 5) sc.nd rfl (Or.inl rfl) pe_int)
  (pss_cons (ps_while PassesOwn.never (pt_cmpR op_lt (pv 5) (pe_callB (kcall_len (K := K) rfl) (by rfl) B.len (by decide +kernel) (pa_cons (pv 4) pa_nil)) (nomark _)) (pss_cons (ps_for PassesOwn.never rfl (kpi_list (K := K) rfl (pe_ix (kix_tup (K := K) rfl) (pv 0) pe_int (fun _ _ => rfl))) (kpg_tup (K := K) (n := 3) rfl (by rfl) (pgs_cons (pg_name (i := 6) sc.nd rfl (Or.inl rfl)) (pgs_cons (pg_name (i := 7) sc.nd rfl (Or.inl rfl)) (pgs_cons (pg_name (i := 8) sc.nd rfl (Or.inl rfl)) pgs_nil))))
  (pss_one (ps_for PassesOwn.never rfl (kpi_list (K := K) rfl (pe_lst (pa_cons (pe_tup (pa_cons (pv 6) (pa_cons (pv 7) pa_nil))) (pa_cons (pe_tup (pa_cons (pv 7) (pa_cons (pv 6) pa_nil))) pa_nil)))) (kpg_tup (K := K) (n := 2) rfl (by rfl) (pgs_cons (pg_name (i := 9) sc.nd rfl (Or.inl rfl)) (pgs_cons (pg_name (i := 10) sc.nd rfl (Or.inl rfl)) pgs_nil)))
  (pss_one (ps_if (PW.pt (pw_and (pt_cmpR op_eq (pv 9) (pe_ix (kix_list (K := K) rfl) (pv 4) (pv 5) (fun _ _ => rfl)) (nomark _)) (pw_and1 (pt_cmp (pc_dnotin (hu_of hr) (pv 10) (pv 3)))))) (pss_cons (ps_dput (hu_of hr) (pv 3) (pv 10) (pv 9) rfl)
  (pss_one (ps_expr (kpe_bm (K := K) rfl PySem.F.plainAttrs_list PySem.F.slot_list_append PySem.F.type_list_append mt_append (pv 4) (pa_cons (pv 10) pa_nil))))) pss_nil)))))
  (pss_one (ps_set (i := 5) sc.nd rfl (Or.inl rfl) (pe_op op_add (pv 5) pe_int)))))
  (pss_cons (ps_set (i := 11) sc.nd rfl (Or.inl rfl) (pe_lst (pa_cons (pv 1) pa_nil)))
  (pss_cons (ps_while PassesOwn.never (pt_cmpR op_ne (pe_ix (kix_list (K := K) rfl) (pv 11) (pe_un un_neg pe_int) (fun _ _ => rfl)) (pv 2) (nomark _)) (pss_one (ps_expr (kpe_bm (K := K) rfl PySem.F.plainAttrs_list PySem.F.slot_list_append PySem.F.type_list_append mt_append (pv 11) (pa_cons (pe_dget (hu_of hr) (pv 3) (pe_ix (kix_list (K := K) rfl) (pv 11) (pe_un un_neg pe_int) (fun _ _ => rfl)) (fun _ _ => rfl)) pa_nil)))))
  (pss_one (ps_ret (pv 11))))))))), ?_⟩
  refine fun d hd => ⟨_, rfl, _, rfl, upd_same, [(Sum.inl (q : Int), .int (q : Nat))], rfl, by show 1 ≤ 15; decide, ?_⟩
  have n1 : Same H (upd (upd H d (.dK [])) d (.dK (mergeK [] [(Sum.inl (q : Int), V.int (q : Nat))]))) := Same.own (same_new hd _) hd _
  have e1 := (upd_same : upd (upd H d (.dK [])) d (.dK (mergeK [] [(Sum.inl (q : Int), V.int (q : Nat))])) d = _)
  refine set_seq ?_
  generalize upd (upd H d (.dK [])) d (.dK (mergeK [] [(Sum.inl (q : Int), V.int (q : Nat))])) = H1 at n1 e1
  refine ⟨_, rfl, by show 1 ≤ sizeLine; decide, fun l hl => ?_⟩
  have hlH : H l = none := n1.free hl
  have ndl : d ≠ l := ne_of_none e1 hl
  have s2 := n1.trans (same_new hl (.lst [V.int (q : Nat)]))
  have dA0 : DictA (upd H1 l (.lst [V.int (q : Nat)])) d [(q : Int)] (fun _ => (q : Int)) := by
    refine ⟨_, by rw [upd_ne ndl]; exact e1, Nat.le_refl _, fun x => ⟨fun hx => ?_, fun hx => ?_⟩⟩
    · rw [List.mem_singleton.mp hx]
      show valV [(Sum.inl (q : Int), V.int (q : Nat))] (Sum.inl (q : Int)) = _
      simp [valV]
    · show valV [(Sum.inl (q : Int), V.int (q : Nat))] (Sum.inl x) = _
      have : ¬ (q : Int) = x := fun z => hx (by rw [← z]; exact List.mem_singleton.mpr rfl)
      simp [valV, this]
  have el0 : (upd H1 l (.lst [V.int (q : Nat)])) l = some (.lst (intsV [(q : Int)])) := upd_same
  refine set_seq ?_
  generalize upd H1 l (.lst [V.int (q : Nat)]) = H2 at s2 dA0 el0
  clear n1 e1 hl
  have st0 : Bfs folk.length rs q [(q : Int)] (fun _ => (q : Int)) := Bfs.start (by omega) (by omega)
  -- the places, one after the other
  refine set_seq ?_
  refine seq_mid (fun σ' H' => ∃ (L : List Int) (A : Int → Int) (v5 v6 v7 v8 v9 va : Option V), σ' = [some (.ref a), some (.int p), some (.int q), some (.ref d), some (.ref l), v5, v6, v7, v8, v9, va, none] ∧ Same H H' ∧ Bfs folk.length rs q L A ∧ DictA H' d L A ∧ ∀ x : Int, 0 ≤ x → x < folk.length → x ∈ L) ?_ (fun kk => ?_)
  rotate_left
  · refine ⟨fun mm σ HB => ∃ (L : List Int) (A : Int → Int) (i : Nat) (v6 v7 v8 v9 va : Option V), mm + i = folk.length + 1 ∧ σ = [some (.ref a), some (.int p), some (.int q), some (.ref d), some (.ref l), some (.int i), v6, v7, v8, v9, va, none] ∧ Same H HB ∧ Bfs folk.length rs q L A ∧ DictA HB d L A ∧ HB l = some (.lst (intsV L)) ∧ i ≤ L.length ∧ ∀ (j : Nat) (x : Int), j < i → L[j]? = some x → ∀ e ∈ rs, (e.1 = x → e.2.1 ∈ L) ∧ (e.2.1 = x → e.1 ∈ L),
      ⟨folk.length + 1, [(q : Int)], _, 0, _, _, _, _, _, rfl, rfl, s2, st0, dA0, el0, Nat.zero_le _, fun j x hj => absurd hj (Nat.not_lt_zero _)⟩, ?_⟩
    rintro mm σ HB ⟨L, A, i, v6, v7, v8, v9, va, hmm, rfl, sB, bf, dA, el, hi, cl⟩
    have lL := bf.len
    refine ⟨_, rfl, _, rfl, l, _, rfl, .inl (SqL.of el), _, _, rfl, rfl, _, rfl, ?_⟩
    have lv : (((intsV L).length : Nat) : Int) = (L.length : Int) := by rw [List.length_map]
    rw [lv]
    by_cases c : i < L.length
    rotate_left
    · rw [decide_eq_false (show ¬ (i : Int) < (L.length : Int) by omega)]
      refine iteF (kk _ _ ⟨L, A, _, _, _, _, _, _, rfl, sB, bf, dA, fun x x0 x1 => bf.all hg (fun e he => ⟨fun h => ?_, fun h => ?_⟩) x0 x1⟩)
      · obtain ⟨j, hj⟩ := List.mem_iff_getElem?.mp h
        exact (cl j _ (by have := (List.getElem?_eq_some_iff.mp hj).1; omega) hj e he).1 rfl
      · obtain ⟨j, hj⟩ := List.mem_iff_getElem?.mp h
        exact (cl j _ (by have := (List.getElem?_eq_some_iff.mp hj).1; omega) hj e he).2 rfl
    rw [decide_eq_true (show (i : Int) < (L.length : Int) by omega)]
    refine iteT ⟨fun σ' H' => ∃ (L' : List Int) (A' : Int → Int) (v6 v7 v8 v9 va : Option V), σ' = [some (.ref a), some (.int p), some (.int q), some (.ref d), some (.ref l), some (.int ((i + 1 : Nat) : Int)), v6, v7, v8, v9, va, none] ∧ Same H H' ∧ Bfs folk.length rs q L' A' ∧ DictA H' d L' A' ∧ H' l = some (.lst (intsV L')) ∧ i + 1 ≤ L'.length ∧ ∀ (j : Nat) (x : Int), j < i + 1 → L'[j]? = some x → ∀ e ∈ rs, (e.1 = x → e.2.1 ∈ L') ∧ (e.2.1 = x → e.1 ∈ L'), fun σ' H' ⟨L', A', w6, w7, w8, w9, wa, z1, z2, z3, z4, z5, z6, z7⟩ => ⟨mm - 1, by omega, L', A', i + 1, w6, w7, w8, w9, wa, by omega, z1, z2, z3, z4, z5, z6, z7⟩, ?_⟩
    -- the roads
    obtain ⟨x0, hx0⟩ : ∃ x0, L[i]? = some x0 := ⟨_, List.getElem?_eq_getElem c⟩
    refine ⟨_, rfl, a, _, _, _, rfl, rfl, SqT.of (sB _ _ ea), rfl, ra, rfl, ⟨_, SqL.of (sB _ _ er)⟩, for_list (a := ra) (xs := ts.map V.ref) (fun k σ HC => ∃ (L' : List Int) (A' : Int → Int) (v6 v7 v8 v9 va : Option V), σ = [some (.ref a), some (.int p), some (.int q), some (.ref d), some (.ref l), some (.int i), v6, v7, v8, v9, va, none] ∧ Same H HC ∧ Bfs folk.length rs q L' A' ∧ DictA HC d L' A' ∧ HC l = some (.lst (intsV L')) ∧ L <+: L' ∧ ∀ e ∈ rs.take k, (e.1 = x0 → e.2.1 ∈ L') ∧ (e.2.1 = x0 → e.1 ∈ L')) ⟨L, A, _, _, _, _, _, rfl, sB, bf, dA, el, List.prefix_refl _, fun e he => by simp at he⟩ (fun k σ HC _ ⟨_, _, _, _, _, _, _, _, z, _⟩ => SqL.of (z _ _ er)) ?_ ?_⟩
    rotate_left
    · rintro σ HC ⟨L', A', w6, w7, w8, w9, wa, rfl, sC, bf', dA', el', pre, cl'⟩
      rw [List.length_map, lts, List.take_length] at cl'
      refine ⟨_, rfl, _, _, rfl, rfl, L', A', _, _, _, _, _, rfl, sC, bf', dA', el', by have := pre.length_le; omega, fun j x hj hx e he => ?_⟩
      have hj' : j < L.length := by omega
      have ex : L[j]? = some x := by
        obtain ⟨t, rfl⟩ := pre
        rw [List.getElem?_append_left hj'] at hx
        exact hx
      have sub : ∀ {z : Int}, z ∈ L → z ∈ L' := fun hz => pre.subset hz
      by_cases e' : j = i
      · subst e'
        rw [ex] at hx0
        have : x = x0 := Option.some.inj hx0
        rw [this]
        exact cl' e he
      · obtain ⟨h1, h2⟩ := cl j x (by omega) ex e he
        exact ⟨fun z => sub (h1 z), fun z => sub (h2 z)⟩
    rintro k y σ HC hy ⟨L', A', w6, w7, w8, w9, wa, rfl, sC, bf', dA', el', pre, cl'⟩
    rw [List.getElem?_map] at hy
    obtain ⟨t, ht, rfl⟩ := Option.map_eq_some_iff.mp hy
    obtain ⟨e, he, et⟩ := paired_get pr ht
    have hem := List.mem_of_getElem? he
    have rg := ok.rng e hem
    refine ⟨t, _, rfl, SqT.of (sC _ _ et), rfl, _, _, rfl, _, _, rfl, _, _, rfl, rfl, ?_⟩
    -- both ways about
    refine ⟨_, rfl, _, rfl, by show 2 ≤ sizeLine; decide, fun t1 ht1 => ⟨_, rfl, _, rfl, by show 2 ≤ sizeLine; decide, fun t2 ht2 => ⟨by show 2 ≤ sizeLine; decide, fun M hM => ?_⟩⟩⟩
    have b1 := same_new ht1 (.tup [V.int e.1, V.int e.2.1])
    have b2 := same_new ht2 (.tup [V.int e.2.1, V.int e.1])
    have b3 := same_new hM (.lst [V.ref t1, V.ref t2])
    have bA := b1.trans (b2.trans b3)
    have hdC : HC d ≠ none := by
      obtain ⟨kvs, z, _⟩ := dA'
      rw [z]; simp
    have dA3 : DictA (upd (upd (upd HC t1 (.tup [V.int e.1, V.int e.2.1])) t2 (.tup [V.int e.2.1, V.int e.1])) M (.lst [V.ref t1, V.ref t2])) d L' A' := by
      obtain ⟨kvs, z, r⟩ := dA'
      exact ⟨kvs, bA _ _ z, r⟩
    refine ⟨M, rfl, ⟨_, SqL.of upd_same⟩, for_list (a := M) (xs := [V.ref t1, V.ref t2]) (fun j σ HD => ∃ (L'' : List Int) (A'' : Int → Int) (v9 va : Option V), σ = [some (.ref a), some (.int p), some (.int q), some (.ref d), some (.ref l), some (.int i), some (.int e.1), some (.int e.2.1), some (.int e.2.2), v9, va, none] ∧ Same H HD ∧ Bfs folk.length rs q L'' A'' ∧ DictA HD d L'' A'' ∧ HD l = some (.lst (intsV L'')) ∧ L' <+: L'' ∧ (HD M = some (.lst [V.ref t1, V.ref t2]) ∧ HD t1 = some (.tup [V.int e.1, V.int e.2.1]) ∧ HD t2 = some (.tup [V.int e.2.1, V.int e.1])) ∧ (1 ≤ j → e.1 = x0 → e.2.1 ∈ L'') ∧ (2 ≤ j → e.2.1 = x0 → e.1 ∈ L'')) ⟨L', A', _, _, rfl, sC.trans bA, bf', dA3, bA _ _ el', List.prefix_refl _, ⟨upd_same, (b2.trans b3) _ _ upd_same, b3 _ _ upd_same⟩, fun z => by omega, fun z => by omega⟩ (fun j σ HD _ ⟨_, _, _, _, _, _, _, _, _, _, z, _⟩ => SqL.of z.1) ?_ ?_⟩
    rotate_left
    · rintro σ HD ⟨L'', A'', v9, va, rfl, sD, bf'', dA'', el'', pre'', _, c1, c2⟩
      refine ⟨L'', A'', _, _, _, _, _, rfl, sD, bf'', dA'', el'', pre.trans pre'', fun e' he' => ?_⟩
      rw [List.take_add_one, he] at he'
      rcases List.mem_append.mp he' with z | z
      · obtain ⟨h1, h2⟩ := cl' e' z
        exact ⟨fun w => pre''.subset (h1 w), fun w => pre''.subset (h2 w)⟩
      · obtain rfl : e' = e := by simpa using z
        exact ⟨c1 (by show 1 ≤ 2; decide), c2 (by show 2 ≤ 2; decide)⟩
    rintro j y σ HD hy ⟨L'', A'', v9, va, rfl, sD, bf'', dA'', el'', pre'', ⟨eM, eu1, eu2⟩, c1, c2⟩
    obtain ⟨t', x, z, rfl, et', hxz, hj⟩ : ∃ (t' : Addr) (x z : Int), y = .ref t' ∧ HD t' = some (.tup [V.int x, V.int z]) ∧ ((x = e.1 ∧ z = e.2.1) ∨ (x = e.2.1 ∧ z = e.1)) ∧ ((j = 0 ∧ x = e.1 ∧ z = e.2.1) ∨ (j = 1 ∧ x = e.2.1 ∧ z = e.1)) := by
      have hj2 : j = 0 ∨ j = 1 := by
        have := (List.getElem?_eq_some_iff.mp hy).1
        have : j < 2 := this
        omega
      rcases hj2 with rfl | rfl
      · exact ⟨t1, _, _, (Option.some.inj hy).symm, eu1, .inl ⟨rfl, rfl⟩, .inl ⟨rfl, rfl, rfl⟩⟩
      · exact ⟨t2, _, _, (Option.some.inj hy).symm, eu2, .inr ⟨rfl, rfl⟩, .inr ⟨rfl, rfl, rfl⟩⟩
    have hil : i < L''.length := by have := (pre.trans pre'').length_le; omega
    have ex0 : L''[i]? = some x0 := by
      obtain ⟨t, rfl⟩ := pre.trans pre''
      rw [List.getElem?_append_left c]
      exact hx0
    have ati : atI (intsV L'') (i : Int) = some (.int x0) := atI_nat (by rw [List.getElem?_map, ex0]; rfl)
    have lL2 := bf''.len
    refine ⟨t', _, rfl, SqT.of et', rfl, _, _, rfl, _, _, rfl, rfl, ?_⟩
    refine ⟨_, rfl, _, rfl, _, rfl, l, _, _, _, rfl, rfl, SqL.of el'', ati, rfl, _, rfl, ?_⟩
    -- what the next turn wants
    have nxt : ∀ (L3 : List Int), L'' <+: L3 → (x = x0 → z ∈ L3) → (1 ≤ j + 1 → e.1 = x0 → e.2.1 ∈ L3) ∧ (2 ≤ j + 1 → e.2.1 = x0 → e.1 ∈ L3) := fun L3 pr3 hz => by
      rcases hj with ⟨rfl, hx, hz'⟩ | ⟨rfl, hx, hz'⟩
      · exact ⟨fun _ h => by rw [← hz']; exact hz (by rw [hx]; exact h), fun h => by omega⟩
      · exact ⟨fun _ h => pr3.subset (c1 (by decide) h), fun _ h => by rw [← hz']; exact hz (by rw [hx]; exact h)⟩
    by_cases cx : x = x0
    rotate_left
    · rw [decide_eq_false (fun w => cx (V.int.inj w))]
      refine iteF (iteF ?_)
      obtain ⟨h1, h2⟩ := nxt L'' (List.prefix_refl _) fun w => absurd w cx
      exact ⟨L'', A'', _, _, rfl, sD, bf'', dA'', el'', pre'', ⟨eM, eu1, eu2⟩, h1, h2⟩
    rw [decide_eq_true (congrArg V.int cx)]
    obtain ⟨kvs, ed, lk, hk⟩ := id dA''
    refine iteT ⟨_, rfl, _, rfl, d, _, rfl, DGet.k (k := Sum.inl z) ed, ?_⟩
    by_cases cz : z ∈ L''
    · rw [(hk z).1 cz]
      refine ⟨_, rfl, iteF ?_⟩
      obtain ⟨h1, h2⟩ := nxt L'' (List.prefix_refl _) fun _ => cz
      exact ⟨L'', A'', _, _, rfl, sD, bf'', dA'', el'', pre'', ⟨eM, eu1, eu2⟩, h1, h2⟩
    rw [(hk z).2 cz]
    refine ⟨_, rfl, iteT ?_⟩
    have zr : 0 ≤ z ∧ z < folk.length := by rcases hxz with ⟨_, w⟩ | ⟨_, w⟩ <;> omega
    have bf3 := bf''.add tr.tree hem hxz (by rw [cx]; exact List.mem_of_getElem? ex0) cz zr
    have l3 := bf3.len
    refine ⟨_, rfl, _, rfl, _, rfl, d, _, rfl, DPut.k (k := Sum.inl z) ed (Nat.lt_of_le_of_lt (show kvs.length ≤ 1000 by omega) (by decide)), ?_⟩
    have dl : d ≠ l := ndl
    have eD3 := (upd_same : upd HD d (.dK (putK kvs (Sum.inl z) (V.int x))) d = _)
    refine ⟨_, rfl, .inl ⟨rfl, _, SqL.of (by rw [upd_ne dl.symm]; exact el'')⟩, _, rfl, l, _, _, rfl, rfl, by rw [upd_ne dl.symm]; exact el'', by rw [List.length_map]; exact small1000 (by omega), ?_⟩
    have nMd : M ≠ d := ne_of eM ed (by simp)
    have nMl : M ≠ l := fun w => by
      have := eM.symm.trans (w ▸ el'')
      have := HO.lst.inj (Option.some.inj this)
      cases hL : L'' with
      | nil => rw [hL] at ex0; simp at ex0
      | cons u v => rw [hL] at this; simp [intsV] at this
    have tk : ∀ {b : Addr} {ys : List V}, HD b = some (.tup ys) → (upd (upd HD d (.dK (putK kvs (Sum.inl z) (V.int x)))) l (.lst (intsV L'' ++ [V.int z]))) b = some (.tup ys) := fun w => by rw [upd_ne (ne_of w el'' (by simp)), upd_ne (ne_of w ed (by simp))]; exact w
    obtain ⟨h1, h2⟩ := nxt (L'' ++ [z]) (List.prefix_append _ _) fun _ => List.mem_append_right _ (List.mem_singleton.mpr rfl)
    refine ⟨L'' ++ [z], setA A'' z x, _, _, rfl, Same.own (Same.own sD hd _) hlH _, bf3, DictA.add lk hk cz (by rw [upd_ne dl]; exact upd_same), ?_, pre''.trans (List.prefix_append _ _), ⟨by rw [upd_ne nMl, upd_ne nMd]; exact eM, tk eu1, tk eu2⟩, h1, h2⟩
    rw [upd_same]
    unfold intsV
    rw [List.map_append]
    rfl
  rintro σ' H3 ⟨L, A, v5, v6, v7, v8, v9, va, rfl, s3, bf, dA, all⟩
  -- from one on, by what is ahead
  obtain ⟨kvs, ed, lk, hk⟩ := id dA
  have lL := bf.len
  refine ⟨_, rfl, by show 1 ≤ sizeLine; decide, fun r hr' => ?_⟩
  have fr := s3.free hr'
  have ndr : d ≠ r := ne_of_none ed hr'
  have sR := s3.trans (same_new hr' (.lst [V.int (p : Nat)]))
  have edR : (upd H3 r (.lst [V.int (p : Nat)])) d = some (.dK kvs) := by rw [upd_ne ndr]; exact ed
  have erR : (upd H3 r (.lst [V.int (p : Nat)])) r = some (.lst (intsV [(p : Int)])) := upd_same
  refine set_seq ?_
  generalize upd H3 r (.lst [V.int (p : Nat)]) = H4 at sR edR erR
  obtain ⟨kp, hkp⟩ := List.mem_iff_getElem?.mp (all (p : Int) (by omega) (by omega))
  have kpl := (List.getElem?_eq_some_iff.mp hkp).1
  refine ⟨fun mm σ HB => ∃ (xs : List Int) (x : Int), σ = [some (.ref a), some (.int p), some (.int q), some (.ref d), some (.ref l), v5, v6, v7, v8, v9, va, some (.ref r)] ∧ Same H HB ∧ HB d = some (.dK kvs) ∧ HB r = some (.lst (intsV xs)) ∧ L[mm]? = some x ∧ xs[0]? = some (p : Int) ∧ xs[xs.length - 1]? = some x ∧ (∀ (k : Nat) (x y : Int), xs[k]? = some x → xs[k + 1]? = some y → HopTo rs q x y) ∧ (∀ x ∈ xs, x ∈ L) ∧ xs.length + mm ≤ folk.length,
    ⟨kp, [(p : Int)], (p : Int), rfl, sR, edR, erR, hkp, rfl, rfl, fun k x y h1 h2 => ?_, fun x hx => ?_, by show 1 + kp ≤ _; omega⟩, ?_⟩
  · have := (List.getElem?_eq_some_iff.mp h2).1
    simp at this
  · rw [List.mem_singleton.mp hx]; exact List.mem_of_getElem? hkp
  rintro mm σ HB ⟨xs, x, rfl, sB, ed', er', hmm, h0, hlast, hst, hin, hlen⟩
  have lpos : 0 < xs.length := (List.getElem?_eq_some_iff.mp h0).1
  have atl : atI (intsV xs) (-1) = some (.int x) := by
    obtain ⟨ys, rfl⟩ : ∃ ys, xs = ys ++ [x] := by
      refine ⟨xs.dropLast, ?_⟩
      have hne : xs ≠ [] := fun z => by rw [z] at lpos; simp at lpos
      have e1 := List.dropLast_concat_getLast hne
      have e2 : xs.getLast hne = x := by
        have h5 := List.getLast_eq_getElem hne
        rw [List.getElem?_eq_getElem (by omega)] at hlast
        rw [h5]; exact Option.some.inj hlast
      rw [e2] at e1
      exact e1.symm
    unfold intsV
    rw [List.map_append]
    exact atI_last _ _
  refine ⟨_, rfl, _, rfl, r, _, _, _, rfl, rfl, SqL.of er', atl, _, rfl, rfl, _, rfl, ?_⟩
  by_cases cx : x = (q : Int)
  · show if (!decide (V.int x = V.int (q : Nat))) = true then _ else _
    rw [decide_eq_true (congrArg V.int cx)]
    refine iteF ⟨_, rfl, qf r xs HB sB fr er' ⟨h0, by rw [hlast, cx], hst, fun z hz => bf.rng z (hin z hz), by omega⟩⟩
  show if (!decide (V.int x = V.int (q : Nat))) = true then _ else _
  rw [decide_eq_false (fun z => cx (V.int.inj z))]
  obtain ⟨hop, j, hj, ej⟩ := bf.hop mm x hmm cx
  refine iteT ⟨fun σ' H' => ∃ (xs : List Int) (x : Int), σ' = [some (.ref a), some (.int p), some (.int q), some (.ref d), some (.ref l), v5, v6, v7, v8, v9, va, some (.ref r)] ∧ Same H H' ∧ H' d = some (.dK kvs) ∧ H' r = some (.lst (intsV xs)) ∧ L[j]? = some x ∧ xs[0]? = some (p : Int) ∧ xs[xs.length - 1]? = some x ∧ (∀ (k : Nat) (x y : Int), xs[k]? = some x → xs[k + 1]? = some y → HopTo rs q x y) ∧ (∀ x ∈ xs, x ∈ L) ∧ xs.length + j ≤ folk.length, fun σ' H' h => ⟨j, hj, h⟩, ?_⟩
  have hx : x ∈ L := List.mem_of_getElem? hmm
  have dg : DGet HB d (.int x) (some (.int (A x))) := by
    have := DGet.k (k := Sum.inl x) ed'
    rwa [(hk x).1 hx] at this
  refine ⟨_, rfl, .inl ⟨rfl, _, SqL.of er'⟩, _, rfl, _, rfl, _, rfl, r, _, _, _, rfl, rfl, SqL.of er', atl, d, _, rfl, dg, r, _, _, rfl, rfl, er', by rw [List.length_map]; exact small1000 (by omega), ?_⟩
  refine ⟨xs ++ [A x], A x, rfl, Same.own sB fr _, by rw [upd_ne ndr]; exact ed', ?_, ej, ?_, ?_, fun k y z h1 h2 => ?_, fun y hy => ?_, by rw [List.length_append]; show xs.length + 1 + j ≤ _; omega⟩
  · rw [upd_same]
    unfold intsV
    rw [List.map_append]
    rfl
  · rw [List.getElem?_append_left lpos]; exact h0
  · rw [List.length_append]
    show (xs ++ [A x])[xs.length + 1 - 1]? = _
    rw [Nat.add_sub_cancel, List.getElem?_append_right (Nat.le_refl _), Nat.sub_self]
    rfl
  · by_cases c : k + 1 < xs.length
    · rw [List.getElem?_append_left (by omega)] at h1
      rw [List.getElem?_append_left c] at h2
      exact hst k y z h1 h2
    · have lz := (List.getElem?_eq_some_iff.mp h2).1
      rw [List.length_append] at lz
      have lz : k + 1 < xs.length + 1 := lz
      have ek : k + 1 = xs.length := by omega
      rw [List.getElem?_append_left (by omega)] at h1
      rw [ek, List.getElem?_append_right (Nat.le_refl _), Nat.sub_self] at h2
      have e1 : A x = z := by simpa using h2
      rw [show k = xs.length - 1 by omega, hlast] at h1
      have e2 : x = y := Option.some.inj h1
      rw [← e1, ← e2]
      exact hop
  · rcases List.mem_append.mp hy with z | z
    · exact hin y z
    · rw [List.mem_singleton.mp z]; exact List.mem_of_getElem? ej
end
end SS

namespace SS
open PySem L2
theorem _root_.L2.TabOk.upd {H : Hp} {T : Addr} {pos : Pos} {q : Str} (h : TabOk H T pos q) {l : Addr} {xs : List V} (e : H l = some (.lst xs)) (o : HO) : TabOk (upd H l o) T pos q := by
  rcases h with h | ⟨c', oc, vs, t, u, a, b, r⟩
  · exact .inl (by rw [upd_ne (ne_of h e (by simp))]; exact h)
  · exact .inr ⟨c', oc, vs, t, u, by rw [upd_ne (ne_of a e (by simp))]; exact a, by rw [upd_ne (ne_of b e (by simp))]; exact b, r⟩
/-- lists and tuples are kept, but the list h -/
structure KL (h : Addr) (H H' : Hp) : Prop where
  l : ∀ b xs, b ≠ h → H b = some (.lst xs) → H' b = some (.lst xs)
  t : ∀ b xs, H b = some (.tup xs) → H' b = some (.tup xs)
theorem KL.refl {h : Addr} {H : Hp} : KL h H H := ⟨fun _ _ _ e => e, fun _ _ e => e⟩
theorem KL.trans {h : Addr} {H H1 H2 : Hp} (a : KL h H H1) (b : KL h H1 H2) : KL h H H2 := ⟨fun c xs n e => b.l _ _ n (a.l _ _ n e), fun c xs e => b.t _ _ (a.t _ _ e)⟩
theorem KL.keep {G : List V → Prop} {h : Addr} {H H' : Hp} (k : Keep h H H') (hh : HdAt G H h) : KL h H H' := ⟨fun _ _ n e => k _ _ e n, fun _ _ e => k _ _ e (hh.neT e)⟩
theorem KL.same {h : Addr} {H H' : Hp} (s : Same H H') : KL h H H' := ⟨fun _ _ _ e => s _ _ e, fun _ _ e => s _ _ e⟩
theorem KL.sameP {h T : Addr} {H H' : Hp} {pos : Pos} {q : Str} (s : SameP T H H') (tab : TabOk H T pos q) : KL h H H' := by
  obtain ⟨ps, e⟩ := tab.tbl
  exact ⟨fun b xs _ z => s _ _ (ne_of z e (by simp)) z, fun b xs z => s _ _ (ne_of z e (by simp)) z⟩
theorem _root_.L2.TabOk.keepL {G : List V → Prop} {H H' : Hp} {T h : Addr} {pos : Pos} {q : Str} (t : TabOk H T pos q) (k : Keep h H H') (hh : HdAt G H h) : TabOk H' T pos q := by
  obtain ⟨xs, e, _⟩ := hh
  rcases t with t | ⟨c', oc, vs, u, w, a, b, r⟩
  · exact .inl (k _ _ t (ne_of t e (by simp)))
  · exact .inr ⟨c', oc, vs, u, w, k _ _ a (ne_of a e (by simp)), k _ _ b (ne_of b e (by simp)), r⟩
theorem HdAt.sameP {G : List V → Prop} {H H' : Hp} {T h : Addr} {pos : Pos} {q : Str} (hh : HdAt G H h) (s : SameP T H H') (tab : TabOk H T pos q) : HdAt G H' h := by
  obtain ⟨xs, e, g⟩ := hh
  obtain ⟨ps, e2⟩ := tab.tbl
  exact ⟨xs, s _ _ (ne_of e e2 (by simp)) e, g⟩
def spLawT (K : PySem.W.Frag) (T : Addr) : Sp := fun vs H Q E => H T = some (.tbl #[]) ∧ spLaw K vs H Q E
/-- a web, apart from the list h -/
def WebN (H : Hp) (h wa : Addr) (folk : List Int) (rs : List Road) : Prop := ∃ fa ra : Addr, fa ≠ h ∧ ra ≠ h ∧ H wa = some (.tup [.ref fa, .ref ra]) ∧ H fa = some (.lst (intsV folk)) ∧ RoadsAt H ra rs
theorem WebN.kl {H H' : Hp} {h wa : Addr} {folk : List Int} {rs : List Road} (w : WebN H h wa folk rs) (k : KL h H H') : WebN H' h wa folk rs := by
  obtain ⟨fa, ra, n1, n2, e1, e2, ts, e3, pr⟩ := w
  exact ⟨fa, ra, n1, n2, k.t _ _ e1, k.l _ _ n1 e2, ts, k.l _ _ n2 e3, L2.Paired.mapP pr fun t e z => k.t _ _ z⟩
theorem WebN.web {H : Hp} {h wa : Addr} {folk : List Int} {rs : List Road} (w : WebN H h wa folk rs) : WebIs H wa folk rs := by
  obtain ⟨fa, ra, n1, n2, e1, e2, e3⟩ := w
  exact ⟨fa, ra, e1, e2, e3⟩
end SS

namespace SS
open PySem L2
section
variable {P : Program} {w : World} {K : PySem.W.Frag} {mg : Str → Option Value} {base : Heap} {f : Addr} {fd : FuncData}
theorem kit_ll : ∀ its, Vals [V.ty "list", V.ty "tuple"] its → PySem.W.kitAny K (.type "list") its = some true := fun its h => by rw [tys_of (ns := ["list", "tuple"]) h]; rfl
theorem kit_tt : ∀ its, Vals [V.ty "list", V.ty "tuple"] its → PySem.W.kitAny K (.type "tuple") its = some true := fun its h => by rw [tys_of (ns := ["list", "tuple"]) h]; rfl
theorem kit_ii : ∀ its, Vals [V.ty "list", V.ty "tuple"] its → PySem.W.kitAny K (.type "int") its = some false := fun its h => by rw [tys_of (ns := ["list", "tuple"]) h]; rfl
theorem ty_L {H : Hp} {a : Addr} {xs : List V} (h : H a = some (.lst xs)) : TyOf K H (.ref a) (.type "list") := .lst h
theorem ty_T {H : Hp} {a : Addr} {xs : List V} (h : H a = some (.tup xs)) : TyOf K H (.ref a) (.type "tuple") := .tup h
theorem scLawSame : FnScope ["found", "due", "k"] ["found", "due"] (defScope sLawSame) := ⟨rfl, rfl, rfl, by decide +kernel, rfl, by decide +kernel, by decide +kernel⟩
theorem ok_same_step {n : Nat} (F : Fun K "_law_same" "_law_same" sLawSame f fd) (B : Blt mg) (D_law_same : Def P w K mg base n "_law_same" ["found", "due"] (spSame n)) : FnOk P w K mg base CX0 (n + 1) f fd ["found", "due"] (spSame (n + 1)) := by
  have sc := scLawSame
  refine F.ok sc (fun vs H Q E h => ?_) (fun cdv A outer s H vs Q E hr h => ?_)
  · obtain ⟨x, y, d, rfl, _⟩ := h; rfl
  obtain ⟨x, y, d, rfl, dx, dy, pd, q⟩ := h
  refine ⟨_, (pss_cons (ps_if (pt_val (pe_callB (kcall_isinstT (K := K) rfl) (by rfl) B.isinstance (by decide +kernel) (pa_cons (pv 1) (pa_cons (pe_tup (pa_cons (pe_bltn (by rfl) B.list (by decide +kernel) (v := .ty "list") rfl) (pa_cons (pe_bltn (by rfl) B.tuple (by decide +kernel) (v := .ty "tuple") rfl) pa_nil))) pa_nil)))) (pss_cons (ps_if (PW.pt (pw_or (pt_cmpR op_ne (pe_callB (kcall_isinst (T := "tuple") (K := K) rfl) (by rfl) B.isinstance (by decide +kernel) (pa_cons (pv 0) (pa_cons (pe_bltn (by rfl) B.tuple (by decide +kernel) (v := .ty "tuple") rfl) pa_nil))) (pe_callB (kcall_isinst (T := "tuple") (K := K) rfl) (by rfl) B.isinstance (by decide +kernel) (pa_cons (pv 1) (pa_cons (pe_bltn (by rfl) B.tuple (by decide +kernel) (v := .ty "tuple") rfl) pa_nil))) (nomark _)) (pw_or1 (pt_not (pt_val (pe_callB (kcall_isinstT (K := K) rfl) (by rfl) B.isinstance (by decide +kernel) (pa_cons (pv 0) (pa_cons (pe_tup (pa_cons (pe_bltn (by rfl) B.list (by decide +kernel) (v := .ty "list") rfl) (pa_cons (pe_bltn (by rfl) B.tuple (by decide +kernel) (v := .ty "tuple") rfl) pa_nil))) pa_nil)))))))) (pss_one (ps_ret pe_bl)) pss_nil)
  (pss_cons (ps_if (pt_cmpR op_ne (pe_callB (kcall_len (K := K) rfl) (by rfl) B.len (by decide +kernel) (pa_cons (pv 0) pa_nil)) (pe_callB (kcall_len (K := K) rfl) (by rfl) B.len (by decide +kernel) (pa_cons (pv 1) pa_nil)) (nomark _)) (pss_one (ps_ret pe_bl)) pss_nil)
  (pss_one (ps_ret (pe_cmpR (kop_eqD (K := K) rfl hr.units) (pe_lc (own := [("k", 2)]) (by rfl) sc.nd (pi_range1 (by rfl) B.range (pa_cons (pe_callB (kcall_len (K := K) rfl) (by rfl) B.len (by decide +kernel) (pa_cons (pv 1) pa_nil)) pa_nil))
    (blkOk_by (own := [("k", 2)]) (N := ["found", "due", "k"]) (sc := defScope sLawSame) (by decide +kernel))
    (fun _ _ _ _ _ => (pg_name (i := 2) sc.nd rfl (Or.inl rfl)))
    (fun _ _ _ _ _ => (pts_one (pt_not (pt_val (pe_def D_law_same (hr.mono (by first | decide | exact Nat.le_refl _)) (by rfl) (pa_cons (pe_ix (kix_seq (K := K) rfl) (pv 0) (pv 2) (fun _ _ => rfl)) (pa_cons (pe_ix (kix_seq (K := K) rfl) (pv 1) (pv 2) (fun _ _ => rfl)) pa_nil)))))))
    (fun _ _ _ _ _ => (pv 2))) (pe_lst pa_nil) (nomark _)))))) pss_nil)
  (pss_cons (ps_if (pt_val (pe_callB (kcall_isinst (T := "str") (K := K) rfl) (by rfl) B.isinstance (by decide +kernel) (pa_cons (pv 1) (pa_cons (pe_bltn (by rfl) B.str (by decide +kernel) (v := .ty "str") rfl) pa_nil)))) (pss_one (ps_ret (pe_and (pe_callB (kcall_isinst (T := "str") (K := K) rfl) (by rfl) B.isinstance (by decide +kernel) (pa_cons (pv 0) (pa_cons (pe_bltn (by rfl) B.str (by decide +kernel) (v := .ty "str") rfl) pa_nil))) (pe_one (pe_cmpR op_eq (pv 0) (pv 1) (nomark _)))))) pss_nil)
  (pss_one (ps_ret (pe_and (pe_callB (kcall_isinst (T := "int") (K := K) rfl) (by rfl) B.isinstance (by decide +kernel) (pa_cons (pv 0) (pa_cons (pe_bltn (by rfl) B.int (by decide +kernel) (v := .ty "int") rfl) pa_nil))) (pe_and (pe_cmpR op_eq (pe_callB (kcall_isinst (T := "bool") (K := K) rfl) (by rfl) B.isinstance (by decide +kernel) (pa_cons (pv 0) (pa_cons (pe_bltn (by rfl) B.bool (by decide +kernel) (v := .ty "bool") rfl) pa_nil))) (pe_callB (kcall_isinst (T := "bool") (K := K) rfl) (by rfl) B.isinstance (by decide +kernel) (pa_cons (pv 1) (pa_cons (pe_bltn (by rfl) B.bool (by decide +kernel) (v := .ty "bool") rfl) pa_nil))) (nomark _)) (pe_one (pe_cmpR op_eq (pv 0) (pv 1) (nomark _))))))))), ?_⟩
  -- isinstance(due, (list, tuple))
  refine ⟨_, rfl, by show 2 ≤ sizeLine; decide, fun p hp => ?_⟩
  have s1 : Same H (upd H p (.tup [V.ty "list", V.ty "tuple"])) := same_new hp _
  cases d with
  | none => exact pd.elim
  | bool _ => exact pd.elim
  | str _ => exact pd.elim
  | dict _ => exact pd.elim
  | int i =>
    cases dx
    cases dy
    refine ⟨_, _, false, p, _, rfl, .int i, upd_same, kit_ii, _, rfl, ?_⟩
    refine ⟨_, rfl, _, _, false, rfl, .int i, rfl, _, rfl, ?_⟩
    refine ⟨_, rfl, _, _, true, rfl, .int i, rfl, _, rfl, ?_⟩
    refine ⟨_, rfl, _, _, false, rfl, .int i, rfl, _, rfl, _, _, false, rfl, .int i, rfl, rfl, ?_⟩
    refine ⟨_, rfl, _, rfl, _, rfl, rfl, ?_⟩
    have e : decide (V.int i = V.int i) = true := decide_eq_true rfl
    show Q (.bl (decide (V.int i = V.int i))) _
    rw [e]
    exact q _ s1
  | list ds =>
    cases dx with
    | @lst a xs _ ea hx =>
    cases dy with
    | @lst b ys _ eb hy =>
    have lx := hx.length
    have ly := hy.length
    obtain ⟨ld, pds⟩ := pd
    refine ⟨_, _, true, p, _, rfl, ty_L (s1 _ _ eb), upd_same, kit_ll, _, rfl, ?_⟩
    refine ⟨_, rfl, _, _, false, rfl, ty_L (s1 _ _ ea), rfl, _, rfl, _, _, false, rfl, ty_L (s1 _ _ eb), rfl, rfl, _, rfl, iteNS rfl ?_⟩
    refine ⟨_, rfl, by show 2 ≤ sizeLine; decide, fun p2 hp2 => ?_⟩
    have s2 := s1.trans (same_new hp2 (.tup [V.ty "list", V.ty "tuple"]))
    refine ⟨_, _, true, p2, _, rfl, ty_L (s2 _ _ ea), upd_same, kit_ll, _, rfl, ?_⟩
    refine ⟨_, rfl, a, _, rfl, .inl (SqL.of (s2 _ _ ea)), _, rfl, b, _, rfl, .inl (SqL.of (s2 _ _ eb)), rfl, _, rfl, iteNS (congrArg (fun n : Nat => V.int (n : Int)) (lx.trans ly.symm)) ?_⟩
    refine ⟨_, rfl, b, _, rfl, .inl (SqL.of (s2 _ _ eb)), _, rfl, by omega, by omega, fun D hD => ?_⟩
    rw [Int.toNat_natCast]
    refine lc_range (lo := 0) (n := ys.length) (fun i H3 => Same (upd (upd H p (.tup [V.ty "list", V.ty "tuple"])) p2 (.tup [V.ty "list", V.ty "tuple"])) H3 ∧ H3 D = some (.lst [])) ⟨same_new hD _, upd_same⟩ ?_ ?_
    · rintro i H3 hi ⟨s3, eD⟩
      have s4 := s2.trans s3
      obtain ⟨u, eu, hu⟩ := hx.get i (by omega)
      obtain ⟨v, ev, hv⟩ := hy.get i (by omega)
      have au : atI xs (0 + (i : Int)) = some u := by rw [Int.zero_add]; exact atI_nat eu
      have av : atI ys (0 + (i : Int)) = some v := by rw [Int.zero_add]; exact atI_nat ev
      refine ⟨rfl, _, rfl, _, rfl, .inl ⟨_, _, _, _, rfl, rfl, SqL.of (s4 _ _ ea), au, _, rfl, _, rfl, .inl ⟨_, _, _, _, rfl, rfl, SqL.of (s4 _ _ eb), av, u, v, _, rfl, HD.same s4 _ _ hu, HD.same s4 _ _ hv, pds _ (List.getElem_mem (by omega)), fun H4 s5 => ?_⟩⟩⟩
      refine ⟨_, rfl, ?_⟩
      have nD : H4 D = some (.lst []) := s5 _ _ eD
      exact ⟨s3.trans s5, nD⟩
    · rintro H3 ⟨s3, eD⟩
      refine ⟨by show 0 ≤ sizeLine; decide, fun p3 hp3 => ?_⟩
      refine ⟨.list [], .list [], .lst (SqL.of ((same_new hp3 _) _ _ eD)) .nil, .lst (SqL.of upd_same) .nil, by decide, by decide, ?_⟩
      exact q _ ((s2.trans s3).trans (same_new hp3 _))
  | tuple ds =>
    cases dx with
    | @tup a xs _ ea hx =>
    cases dy with
    | @tup b ys _ eb hy =>
    have lx := hx.length
    have ly := hy.length
    obtain ⟨ld, pds⟩ := pd
    refine ⟨_, _, true, p, _, rfl, ty_T (s1 _ _ eb), upd_same, kit_tt, _, rfl, ?_⟩
    refine ⟨_, rfl, _, _, true, rfl, ty_T (s1 _ _ ea), rfl, _, rfl, _, _, true, rfl, ty_T (s1 _ _ eb), rfl, rfl, _, rfl, iteNS rfl ?_⟩
    refine ⟨_, rfl, by show 2 ≤ sizeLine; decide, fun p2 hp2 => ?_⟩
    have s2 := s1.trans (same_new hp2 (.tup [V.ty "list", V.ty "tuple"]))
    refine ⟨_, _, true, p2, _, rfl, ty_T (s2 _ _ ea), upd_same, kit_tt, _, rfl, ?_⟩
    refine ⟨_, rfl, a, _, rfl, .inr (SqT.of (s2 _ _ ea)), _, rfl, b, _, rfl, .inr (SqT.of (s2 _ _ eb)), rfl, _, rfl, iteNS (congrArg (fun n : Nat => V.int (n : Int)) (lx.trans ly.symm)) ?_⟩
    refine ⟨_, rfl, b, _, rfl, .inr (SqT.of (s2 _ _ eb)), _, rfl, by omega, by omega, fun D hD => ?_⟩
    rw [Int.toNat_natCast]
    refine lc_range (lo := 0) (n := ys.length) (fun i H3 => Same (upd (upd H p (.tup [V.ty "list", V.ty "tuple"])) p2 (.tup [V.ty "list", V.ty "tuple"])) H3 ∧ H3 D = some (.lst [])) ⟨same_new hD _, upd_same⟩ ?_ ?_
    · rintro i H3 hi ⟨s3, eD⟩
      have s4 := s2.trans s3
      obtain ⟨u, eu, hu⟩ := hx.get i (by omega)
      obtain ⟨v, ev, hv⟩ := hy.get i (by omega)
      have au : atI xs (0 + (i : Int)) = some u := by rw [Int.zero_add]; exact atI_nat eu
      have av : atI ys (0 + (i : Int)) = some v := by rw [Int.zero_add]; exact atI_nat ev
      refine ⟨rfl, _, rfl, _, rfl, .inr (.inl ⟨_, _, _, _, rfl, rfl, SqT.of (s4 _ _ ea), au, _, rfl, _, rfl, .inr (.inl ⟨_, _, _, _, rfl, rfl, SqT.of (s4 _ _ eb), av, u, v, _, rfl, HD.same s4 _ _ hu, HD.same s4 _ _ hv, pds _ (List.getElem_mem (by omega)), fun H4 s5 => ?_⟩)⟩)⟩
      refine ⟨_, rfl, ?_⟩
      have nD : H4 D = some (.lst []) := s5 _ _ eD
      exact ⟨s3.trans s5, nD⟩
    · rintro H3 ⟨s3, eD⟩
      refine ⟨by show 0 ≤ sizeLine; decide, fun p3 hp3 => ?_⟩
      refine ⟨.list [], .list [], .lst (SqL.of ((same_new hp3 _) _ _ eD)) .nil, .lst (SqL.of upd_same) .nil, by decide, by decide, ?_⟩
      exact q _ ((s2.trans s3).trans (same_new hp3 _))
theorem ok_same (F : Fun K "_law_same" "_law_same" sLawSame f fd) (b : Binds K fd ["found", "due"] []) (m : mg "_law_same" = some (.ref f)) (B : Blt mg) : ∀ n : Nat, FnOk P w K mg base CX0 n f fd ["found", "due"] (spSame n)
  | 0 => by
    have no : ∀ vs H Q E, ¬ spSame 0 vs H Q E := fun vs H Q E h => by
      obtain ⟨x, y, d, _, _, _, pd, _⟩ := h
      exact pd
    exact ⟨fun vs H Q E h => absurd h (no vs H Q E), fun A outer s H args us vs Q E _ _ _ _ h => absurd h (no vs H Q E)⟩
  | n + 1 => ok_same_step F B (Def.of F b m (ok_same F b m B n))
end
end SS

namespace SS
open PySem L2
def spRight61 (T : Addr) : Sp := fun vs H Q _ => ∃ (wa hd : Addr) (folk : List Int) (rs : List Road) (p q : Nat), vs = [.ref wa, .ref hd, .int p, .int q] ∧ WebIs H wa folk rs ∧ WebIs H hd folk rs ∧ TreeOk folk.length rs ∧ folk.length ≤ 12 ∧ p < folk.length ∧ q < folk.length ∧ TabOk H T lamPosW lamQW ∧ ∀ H', SameP T H H' → TabOk H' T lamPosW lamQW → Q (.bl true) H'
section
variable {P : Program} {w : World} {K : PySem.W.Frag} {mg : Str → Option Value} {base : Heap} {f : Addr} {fd : FuncData}
theorem scLawRight : FnScope ["web", "handed", "one", "other", "due", "turn", "told"] ["web", "handed", "one", "other"] (defScope sLawRight) := ⟨rfl, rfl, rfl, by decide +kernel, rfl, by decide +kernel, by decide +kernel⟩
theorem ok_right {T : Addr} (F : Fun K "_law_right" "_law_right" sLawRight f fd) (B : Blt mg) (D_law_way : Def P w K mg base 1 "_law_way" ["web", "one", "other"] spLawWay) (D_way_between : Def P w K mg base 4 "way_between" ["web", "one", "other"] (spWayB T)) (D_law_same : Def P w K mg base 5 "_law_same" ["found", "due"] (spSame 5)) : FnOk P w K mg base CX0 6 f fd ["web", "handed", "one", "other"] (spRight61 T) := by
  have sc := scLawRight
  refine F.ok sc (fun vs H Q E h => ?_) (fun cdv A outer s H vs Q E hr h => ?_)
  · obtain ⟨wa, hd, folk, rs, p, q, rfl, _⟩ := h; rfl
  obtain ⟨wa, hd, folk, rs, p, q, rfl, wi, wh, tr, m12, hp, hq, tab, qf⟩ := h
  have many := tr.many
  have wl := tr.web.len
  refine ⟨_, (pss_cons (ps_set (i := 4) sc.nd rfl (Or.inl rfl) (pe_def D_law_way (hr.mono (by first | decide | exact Nat.le_refl _)) (by rfl) (pa_cons (pv 0) (pa_cons (pv 2) (pa_cons (pv 3) pa_nil)))))
  (pss_cons (ps_for PassesOwn.never rfl (pi_range1 (by rfl) B.range (pa_cons pe_int pa_nil)) (pg_name (i := 5) sc.nd rfl (Or.inl rfl))
  (pss_cons (ps_set (i := 6) sc.nd rfl (Or.inl rfl) (pe_def D_way_between (hr.mono (by first | decide | exact Nat.le_refl _)) (by rfl) (pa_cons (pv 1) (pa_cons (pv 2) (pa_cons (pv 3) pa_nil)))))
  (pss_cons (ps_if (PW.pt (pw_or (pt_not (pt_val (pe_def D_law_same (hr.mono (by first | decide | exact Nat.le_refl _)) (by rfl) (pa_cons (pv 6) (pa_cons (pv 4) pa_nil))))) (pw_or1 (pt_cmpR (kop_neD (K := K) rfl hr.units) (pv 1) (pv 0) (nomark _))))) (pss_one (ps_ret pe_bl)) pss_nil)
  (pss_one (ps_expr (kpe_bm (K := K) rfl PySem.F.plainAttrs_list PySem.F.slot_list_append PySem.F.type_list_append mt_append (pv 6) (pa_cons (pv 2) pa_nil)))))))
  (pss_one (ps_ret pe_bl)))), ?_⟩
  refine ⟨_, rfl, _, rfl, _, rfl, wa, folk, rs, p, q, rfl, wi, tr, m12, hp, hq, fun du xs H1 s1 fdu edu po => ?_⟩
  obtain ⟨po1, po2, po3, po4, po5⟩ := po
  have tab1 := tab.same s1
  obtain ⟨psT, etT⟩ := tab1.tbl
  have wi1 := wi.same s1
  have wh1 := wh.same s1
  -- what stands, without the table
  have wk : ∀ b o, b ≠ T → H1 b = some o → (fun b => if b = T then none else H1 b : Hp) b = some o := fun b o n e => (if_neg n).trans e
  have wT : (fun b => if b = T then none else H1 b : Hp) T = none := if_pos rfl
  have ws : Same (fun b => if b = T then none else H1 b : Hp) H1 := fun b o e => by
    by_cases c : b = T
    · rw [c, wT] at e; cases e
    · exact (if_neg c).symm.trans e
  generalize (fun b => if b = T then none else H1 b : Hp) = W at wk wT ws
  have ltW : ∀ {x : Addr}, WebIs H1 x folk rs → WebIs W x folk rs := fun {x} ⟨fa, ra, e1, e2, ts, e3, pr⟩ => ⟨fa, ra, wk _ _ (ne_of e1 etT (by simp)) e1, wk _ _ (ne_of e2 etT (by simp)) e2, ts, wk _ _ (ne_of e3 etT (by simp)) e3, L2.Paired.mapP pr fun t e z => wk _ _ (ne_of z etT (by intro y; cases y)) z⟩
  have wiW := ltW wi1
  have whW := ltW wh1
  have eduW := wk _ _ (ne_of edu etT (by simp)) edu
  have wP : ∀ {H H' : Hp}, Same W H → SameP T H H' → Same W H' := fun a b c o e => b c o (fun z => by rw [z, wT] at e; cases e) (a _ _ e)
  have fin : ∀ {X : Hp}, Same W X → SameP T H X := fun s b o n e => s _ _ (wk _ _ n (s1 _ _ e))
  have pdm : PD 5 (.list (xs.map PyData.int)) := PD.ints (by omega) 3
  have pdW : PD 5 (webD folk rs) := PD.web (by omega) (by omega) 1
  clear wi wh wi1 wh1 edu
  refine ⟨2, rfl, by decide, by decide, for_range (lo := 0) (n := (2 : Int).toNat) (fun i σ H3 => ∃ v5 v6, σ = [some (.ref wa), some (.ref hd), some (.int p), some (.int q), some (.ref du), v5, v6] ∧ Same W H3 ∧ TabOk H3 T lamPosW lamQW) ⟨_, _, rfl, ws, tab1⟩ ?_ ?_⟩
  rotate_left
  · rintro σ H3 ⟨v5, v6, rfl, s3, tab3⟩
    exact qf H3 (fin s3) tab3
  rintro i σ H3 hi ⟨v5, v6, rfl, s3, tab3⟩
  refine ⟨_, rfl, _, rfl, _, rfl, hd, folk, rs, p, q, rfl, whW.same s3, many, by omega, hp, hq, tr.web.rng, tab3, fun to ns H4 s4 th4 fto eto pm pw => ?_⟩
  have en : ns = xs := path_is tr.web.ok tr.web.hang hp hq po1 po2 po3 po4 pm pw
  rw [en] at eto
  have s34 := wP s3 s4
  have ftoW := s3.free fto
  have tab4 : TabOk H4 T lamPosW lamQW := .inr th4
  refine ⟨_, rfl, _, rfl, _, _, _, rfl, HD.ints eto, HD.ints (s34 _ _ eduW), pdm, fun H5 s5 => ⟨_, rfl, iteF ?_⟩⟩
  have s35 := s34.trans s5
  have eto5 := s5 _ _ eto
  refine ⟨_, rfl, _, rfl, webD folk rs, webD folk rs, HD.dp _ _ (HD.web (whW.same s35)), HD.dp _ _ (HD.web (wiW.same s35)), pdW.shaped (by decide), pdW.shaped (by decide), _, rfl, eqT pdW ?_⟩
  refine ⟨_, rfl, .inl ⟨rfl, _, SqL.of eto5⟩, _, rfl, to, _, _, rfl, rfl, eto5, by rw [List.length_map]; exact small1000 (by omega), _, _, rfl, Same.own s35 ftoW _, ?_⟩
  rcases tab4.same s5 with t | ⟨c', oc, vs, t, u, a, b, r⟩
  · exact .inl (by rw [upd_ne (ne_of t eto5 (by simp))]; exact t)
  · exact .inr ⟨c', oc, vs, t, u, by rw [upd_ne (ne_of a eto5 (by simp))]; exact a, by rw [upd_ne (ne_of b eto5 (by simp))]; exact b, r⟩
end
end SS

namespace SS
open PySem L2
section
variable {P : Program} {w : World} {K : PySem.W.Frag} {mg : Str → Option Value} {base : Heap} {f : Addr} {fd : FuncData}
theorem scLaw : FnScope ["script", "pot", "web", "handed", "one", "other"] ["script"] (defScope sLaw) := ⟨rfl, rfl, rfl, by decide +kernel, rfl, by decide +kernel, by decide +kernel⟩
theorem ok_law {T : Addr} (F : Fun K "law" "law" sLaw f fd) (B : Blt mg) (D_law_pots : Def P w K mg base 1 "_law_pots" ["script"] spPots) (D_law_tree : Def P w K mg base 3 "_law_tree" ["pot", "most"] spTree) (D_law_copy : Def P w K mg base 1 "_law_copy" ["web"] spCopyS) (D_law_right : Def P w K mg base 6 "_law_right" ["web", "handed", "one", "other"] (spRight61 T)) : FnOk P w K mg base CX0 7 f fd ["script"] (spLawT K T) := by
  have sc := scLaw
  refine F.ok sc (fun vs H Q E h => ?_) (fun cdv A outer s H vs Q E hr h => ?_)
  · obtain ⟨_, a, ns, rfl, _⟩ := h; rfl
  obtain ⟨hT0, sa, ns, rfl, hS, h63, q⟩ := h
  refine ⟨_, (pss_cons (ps_for PassesOwn.never rfl (kpi_list (K := K) rfl (pe_def D_law_pots (hr.mono (by first | decide | exact Nat.le_refl _)) (by rfl) (pa_cons (pe_slice (ksl_list (K := K) rfl) (pv 0) po_none (po_some pe_int)) pa_nil))) (pg_name (i := 1) sc.nd rfl (Or.inl rfl))
  (pss_cons (ps_set (i := 2) sc.nd rfl (Or.inr rfl) (pe_def D_law_tree (hr.mono (by first | decide | exact Nat.le_refl _)) (by rfl) (pa_cons (pv 1) (pa_cons pe_int pa_nil))))
  (pss_cons (ps_set (i := 3) sc.nd rfl (Or.inr rfl) (pe_def D_law_copy (hr.mono (by first | decide | exact Nat.le_refl _)) (by rfl) (pa_cons (pv 2) pa_nil)))
  (pss_one (ps_for PassesOwn.never rfl (pi_range1 (by rfl) B.range (pa_cons (pe_callB (kcall_len (K := K) rfl) (by rfl) B.len (by decide +kernel) (pa_cons (pe_ix (kix_tup (K := K) rfl) (pv 2) pe_int (fun _ _ => rfl)) pa_nil)) pa_nil)) (pg_name (i := 4) sc.nd rfl (Or.inr rfl))
  (pss_one (ps_if (pt_cmpR (kop_neD (K := K) rfl hr.units) (pe_lc (own := [("other", 5)]) (by rfl) sc.nd (pi_range1 (by rfl) B.range (pa_cons (pe_callB (kcall_len (K := K) rfl) (by rfl) B.len (by decide +kernel) (pa_cons (pe_ix (kix_tup (K := K) rfl) (pv 2) pe_int (fun _ _ => rfl)) pa_nil)) pa_nil))
    (blkOk_by (own := [("other", 5)]) (N := ["script", "pot", "web", "handed", "one", "other"]) (sc := defScope sLaw) (by decide +kernel))
    (fun _ _ _ _ _ => (pg_name (i := 5) sc.nd rfl (Or.inl rfl)))
    (fun _ _ _ _ _ => (pts_one (pt_not (pt_val (pe_def D_law_right (hr.mono (by first | decide | exact Nat.le_refl _)) (by rfl) (pa_cons (pv 2) (pa_cons (pv 3) (pa_cons (pv 4) (pa_cons (pv 5) pa_nil)))))))))
    (fun _ _ _ _ _ => pe_int)) (pe_lst pa_nil) (nomark _)) (pss_one (ps_ret pe_bl)) pss_nil)))))))
  (pss_one (ps_ret pe_bl))), ?_⟩
  obtain ⟨ns', ec, lc⟩ := cut_ints ns none (some 6)
  refine ⟨_, rfl, _, rfl, sa, _, rfl, hS, fun p1 hp1 => ?_⟩
  rw [ec]
  refine ⟨p1, ns', rfl, upd_same, by omega, fun r ps H2 s2 fr er hps nd fps nr => ?_⟩
  have tab2 := TabOk.same (pos := lamPosW) (q := lamQW) (.inl hT0) ((same_new hp1 (.lst (intsV ns'))).trans s2)
  refine ⟨r, rfl, ⟨_, SqL.of er⟩, for_list (a := r) (xs := ps.map V.ref) (fun i σ H3 => ∃ v1 v2 v3 v4, σ = [some (.ref sa), v1, v2, v3, v4, none] ∧ H3 r = some (.lst (ps.map V.ref)) ∧ (∀ (j : Nat) (hj : j < ps.length), i ≤ j → HdAt GPot H3 ps[j]) ∧ TabOk H3 T lamPosW lamQW) ⟨_, _, _, _, rfl, er, fun j hj _ => hps _ (List.getElem_mem hj), tab2⟩ (fun i σ H3 _ ⟨_, _, _, _, _, z, _⟩ => SqL.of z) ?_ ?_⟩
  rotate_left
  · rintro σ H3 ⟨v1, v2, v3, v4, rfl, _, _⟩
    exact q H3
  rintro i x σ H3 hx ⟨v1, v2, v3, v4, rfl, er3, hp3, tab3⟩
  rw [List.getElem?_map] at hx
  obtain ⟨h, hh', rfl⟩ := Option.map_eq_some_iff.mp hx
  obtain ⟨hi, eh⟩ := List.getElem?_eq_some_iff.mp hh'
  have hh : HdAt GPot H3 h := eh ▸ hp3 i hi (Nat.le_refl _)
  have nrh : r ≠ h := fun z => nr (z ▸ eh ▸ List.getElem_mem hi)
  have others : ∀ H4, KL h H3 H4 → H4 r = some (.lst (ps.map V.ref)) ∧ ∀ (j : Nat) (hj : j < ps.length), i + 1 ≤ j → HdAt GPot H4 ps[j] := fun H4 k4 => by
    refine ⟨k4.l _ _ nrh er3, fun j hj hij => ?_⟩
    obtain ⟨ys, e, g⟩ := hp3 j hj (by omega)
    refine ⟨ys, k4.l _ _ (fun z => ?_) e, g⟩
    rw [← eh] at z
    exact (List.pairwise_iff_getElem.mp nd) i j hi hj (by omega) z.symm
  clear hp3
  have lv : ∀ folk : List Int, (((intsV folk).length : Nat) : Int) = (folk.length : Int) := fun folk => by rw [List.length_map]
  refine ⟨_, rfl, h, 12, rfl, hh, by decide, by decide, fun wa fa ra folk rs H4 f1 f2 f3 n12 e1 e2 e3 m1 m12 fo tr k4 hh4 => ?_⟩
  have wN4 : WebN H4 h wa folk rs := ⟨fa, ra, hh.ne f2, hh.ne f3, e1, e2, e3⟩
  have kl4 := KL.keep k4 hh
  have tab4 := tab3.keepL k4 hh
  refine ⟨_, rfl, wa, folk, rs, rfl, wN4.web, fun hd l1 l2 H5 s5 fhd fl1 fl2 n12' ehd el1 el2 => ?_⟩
  have wN5 := wN4.kl (KL.same s5)
  have hN5 : WebN H5 h hd folk rs := ⟨l1, l2, hh4.ne fl1, hh4.ne fl2, ehd, el1, el2⟩
  have kl5 := kl4.trans (KL.same s5)
  have tab5 := tab4.same s5
  clear wN4 kl4 tab4 k4 hh4 tab3 hh e1 e2 e3 ehd el1 el2
  obtain ⟨fa5, ra5, nf, nr5, ea5, ef5, er5⟩ := id wN5
  refine ⟨_, rfl, wa, _, _, _, rfl, rfl, SqT.of ea5, rfl, fa5, _, rfl, .inl (SqL.of ef5), _, rfl, by rw [lv]; omega, by rw [lv]; omega, ?_⟩
  rw [lv, Int.toNat_natCast]
  refine for_range (lo := 0) (n := folk.length) (fun k σ Hk => ∃ v4, σ = [some (.ref sa), some (.ref h), some (.ref wa), some (.ref hd), v4, none] ∧ KL h H5 Hk ∧ TabOk Hk T lamPosW lamQW) ⟨_, rfl, KL.refl, tab5⟩ ?_ ?_
  · rintro k σ Hk hk ⟨v4, rfl, kk, tabk⟩
    rw [Int.zero_add]
    have wNk := wN5.kl kk
    obtain ⟨fak, rak, _, _, eak, efk, _⟩ := id wNk
    refine ⟨_, rfl, wa, _, _, _, rfl, rfl, SqT.of eak, rfl, fak, _, rfl, .inl (SqL.of efk), _, rfl, by rw [lv]; omega, by rw [lv]; omega, fun D hD => ?_⟩
    rw [lv, Int.toNat_natCast]
    have nDh : ∀ {Hz : Hp}, Hz D = some (.lst []) → True := fun _ => trivial
    have gD := same_new hD (.lst [])
    refine lc_range (lo := 0) (n := folk.length) (fun d Hz => SameP T (upd Hk D (.lst [])) Hz ∧ TabOk Hz T lamPosW lamQW) ⟨SameP.rfl, tabk.same gD⟩ ?_ ?_
    · rintro d Hz hd' ⟨sz, tabz⟩
      rw [Int.zero_add]
      have kz := (kk.trans (KL.same gD)).trans (KL.sameP (h := h) sz (tabk.same gD))
      refine ⟨rfl, _, rfl, _, rfl, _, rfl, _, rfl, wa, hd, folk, rs, k, d, rfl, (wN5.kl kz).web, (hN5.kl kz).web, tr, m12, hk, hd', tabz, fun Ha sa' taba => ⟨_, rfl, iteF ⟨sz.trans sa', taba⟩⟩⟩
    rintro Hz ⟨sz, tabz⟩
    obtain ⟨psT, eT⟩ := (tabk.same gD).tbl
    have eD := sz _ _ (ne_of (upd_same : upd Hk D (.lst []) D = _) eT (by simp)) upd_same
    have kz := (kk.trans (KL.same gD)).trans (KL.sameP (h := h) sz (tabk.same gD))
    refine ⟨by show 0 ≤ sizeLine; decide, fun e0 he0 => ?_⟩
    have g0 := same_new he0 (.lst [])
    refine ⟨.list [], .list [], .lst (SqL.of (g0 _ _ eD)) .nil, .lst (SqL.of upd_same) .nil, by decide, by decide, _, rfl, iteF2 (by decide) ?_⟩
    exact ⟨_, rfl, kz.trans (KL.same g0), tabz.same g0⟩
  · rintro σ Hk ⟨v4, rfl, kk, tabk⟩
    obtain ⟨o1, o2⟩ := others _ (kl5.trans kk)
    exact ⟨_, _, _, _, rfl, o1, o2, tabk⟩
end
end SS

namespace SS
open PySem L2
theorem all_mk {l : PySem.W.OpenLaw} {w : World} {K : PySem.W.Frag} {h : Heap} {mg : Str → Option Value} {fa f1 f2 f3 f4 f5 f6 f7 f8 f9 f10 f11 f12 f13 f14 f15 f16 f17 f18 f19 : Addr} (X : K.In h) (G : h.Ns mainGlobals mg) (hfa : mg "law" = some (.ref fa))
    {od1 an1 od2 an2 od3 an3 od4 an4 od5 an5 od6 an6 od7 an7 od8 an8 od9 an9 od10 an10 od11 an11 od12 an12 od13 an13 od14 an14 od15 an15 od16 an16 od17 an17 od18 an18 od19 an19 : Option Addr} {sl1 sl2 sl3 sl4 sl5 sl6 sl7 sl8 sl9 sl10 sl11 sl12 sl13 sl14 sl15 sl16 sl17 sl18 sl19 : Array (Option Value)} {oc1 kV1 dc1 pm1 cd1 ct1 oc2 kV2 dc2 pm2 cd2 ct2 oc3 kV3 dc3 pm3 cd3 ct3 oc4 kV4 dc4 pm4 cd4 ct4 oc5 kV5 dc5 pm5 cd5 ct5 oc6 kV6 dc6 pm6 cd6 ct6 oc7 kV7 dc7 pm7 cd7 ct7 oc8 kV8 dc8 pm8 cd8 ct8 oc9 kV9 dc9 pm9 cd9 ct9 oc10 kV10 dc10 pm10 cd10 ct10 oc11 kV11 dc11 pm11 cd11 ct11 oc12 kV12 dc12 pm12 cd12 ct12 oc13 kV13 dc13 pm13 cd13 ct13 oc14 kV14 dc14 pm14 cd14 ct14 oc15 kV15 dc15 pm15 cd15 ct15 oc16 kV16 dc16 pm16 cd16 ct16 oc17 kV17 dc17 pm17 cd17 ct17 oc18 kV18 dc18 pm18 cd18 ct18 oc19 kV19 dc19 pm19 cd19 ct19 : Value}
    (a1 : PySem.W.nsIn K mainGlobals "row_over" = some (some (.ref f1))) (l1 : K.lookup f1 = some ⟨oc1, od1, .func (PySem.W.fnOf "row_over" "row_over" (defArgs sRowOver) (defBody sRowOver) (defScope sRowOver) .none kV1 dc1 pm1 an1 cd1 ct1), sl1⟩) (c1 : PySem.W.codeIn K cd1 "row_over" = true) (k1 : PySem.W.keepIn K (.ref f1) = true)
    (a2 : PySem.W.nsIn K mainGlobals "straight_ways" = some (some (.ref f2))) (l2 : K.lookup f2 = some ⟨oc2, od2, .func (PySem.W.fnOf "straight_ways" "straight_ways" (defArgs sStraightWays) (defBody sStraightWays) (defScope sStraightWays) .none kV2 dc2 pm2 an2 cd2 ct2), sl2⟩) (c2 : PySem.W.codeIn K cd2 "straight_ways" = true) (k2 : PySem.W.keepIn K (.ref f2) = true)
    (a3 : PySem.W.nsIn K mainGlobals "all_ways" = some (some (.ref f3))) (l3 : K.lookup f3 = some ⟨oc3, od3, .func (PySem.W.fnOf "all_ways" "all_ways" (defArgs sAllWays) (defBody sAllWays) (defScope sAllWays) .none kV3 dc3 pm3 an3 cd3 ct3), sl3⟩) (c3 : PySem.W.codeIn K cd3 "all_ways" = true) (k3 : PySem.W.keepIn K (.ref f3) = true)
    (a4 : PySem.W.nsIn K mainGlobals "is_place" = some (some (.ref f4))) (l4 : K.lookup f4 = some ⟨oc4, od4, .func (PySem.W.fnOf "is_place" "is_place" (defArgs sIsPlace) (defBody sIsPlace) (defScope sIsPlace) .none kV4 dc4 pm4 an4 cd4 ct4), sl4⟩) (c4 : PySem.W.codeIn K cd4 "is_place" = true) (k4 : PySem.W.keepIn K (.ref f4) = true)
    (a5 : PySem.W.nsIn K mainGlobals "check_place" = some (some (.ref f5))) (l5 : K.lookup f5 = some ⟨oc5, od5, .func (PySem.W.fnOf "check_place" "check_place" (defArgs sCheckPlace) (defBody sCheckPlace) (defScope sCheckPlace) .none kV5 dc5 pm5 an5 cd5 ct5), sl5⟩) (c5 : PySem.W.codeIn K cd5 "check_place" = true) (k5 : PySem.W.keepIn K (.ref f5) = true)
    (a6 : PySem.W.nsIn K mainGlobals "is_tree" = some (some (.ref f6))) (l6 : K.lookup f6 = some ⟨oc6, od6, .func (PySem.W.fnOf "is_tree" "is_tree" (defArgs sIsTree) (defBody sIsTree) (defScope sIsTree) .none kV6 dc6 pm6 an6 cd6 ct6), sl6⟩) (c6 : PySem.W.codeIn K cd6 "is_tree" = true) (k6 : PySem.W.keepIn K (.ref f6) = true)
    (a7 : PySem.W.nsIn K mainGlobals "check_tree" = some (some (.ref f7))) (l7 : K.lookup f7 = some ⟨oc7, od7, .func (PySem.W.fnOf "check_tree" "check_tree" (defArgs sCheckTree) (defBody sCheckTree) (defScope sCheckTree) .none kV7 dc7 pm7 an7 cd7 ct7), sl7⟩) (c7 : PySem.W.codeIn K cd7 "check_tree" = true) (k7 : PySem.W.keepIn K (.ref f7) = true)
    (a8 : PySem.W.nsIn K mainGlobals "way_between" = some (some (.ref f8))) (l8 : K.lookup f8 = some ⟨oc8, od8, .func (PySem.W.fnOf "way_between" "way_between" (defArgs sWayBetween) (defBody sWayBetween) (defScope sWayBetween) .none kV8 dc8 pm8 an8 cd8 ct8), sl8⟩) (c8 : PySem.W.codeIn K cd8 "way_between" = true) (k8 : PySem.W.keepIn K (.ref f8) = true)
    (a9 : PySem.W.nsIn K mainGlobals "_law_next" = some (some (.ref f9))) (l9 : K.lookup f9 = some ⟨oc9, od9, .func (PySem.W.fnOf "_law_next" "_law_next" (defArgs sLawNext) (defBody sLawNext) (defScope sLawNext) .none kV9 dc9 pm9 an9 cd9 ct9), sl9⟩) (c9 : PySem.W.codeIn K cd9 "_law_next" = true) (k9 : PySem.W.keepIn K (.ref f9) = true)
    (a10 : PySem.W.nsIn K mainGlobals "_law_pots" = some (some (.ref f10))) (l10 : K.lookup f10 = some ⟨oc10, od10, .func (PySem.W.fnOf "_law_pots" "_law_pots" (defArgs sLawPots) (defBody sLawPots) (defScope sLawPots) .none kV10 dc10 pm10 an10 cd10 ct10), sl10⟩) (c10 : PySem.W.codeIn K cd10 "_law_pots" = true) (k10 : PySem.W.keepIn K (.ref f10) = true)
    (a11 : PySem.W.nsIn K mainGlobals "_law_order" = some (some (.ref f11))) (l11 : K.lookup f11 = some ⟨oc11, od11, .func (PySem.W.fnOf "_law_order" "_law_order" (defArgs sLawOrder) (defBody sLawOrder) (defScope sLawOrder) .none kV11 dc11 pm11 an11 cd11 ct11), sl11⟩) (c11 : PySem.W.codeIn K cd11 "_law_order" = true) (k11 : PySem.W.keepIn K (.ref f11) = true)
    (a12 : PySem.W.nsIn K mainGlobals "_law_length" = some (some (.ref f12))) (l12 : K.lookup f12 = some ⟨oc12, od12, .func (PySem.W.fnOf "_law_length" "_law_length" (defArgs sLawLength) (defBody sLawLength) (defScope sLawLength) .none kV12 dc12 pm12 an12 cd12 ct12), sl12⟩) (c12 : PySem.W.codeIn K cd12 "_law_length" = true) (k12 : PySem.W.keepIn K (.ref f12) = true)
    (a13 : PySem.W.nsIn K mainGlobals "_law_roads_sorted" = some (some (.ref f13))) (l13 : K.lookup f13 = some ⟨oc13, od13, .func (PySem.W.fnOf "_law_roads_sorted" "_law_roads_sorted" (defArgs sLawRoadsSorted) (defBody sLawRoadsSorted) (defScope sLawRoadsSorted) .none kV13 dc13 pm13 an13 cd13 ct13), sl13⟩) (c13 : PySem.W.codeIn K cd13 "_law_roads_sorted" = true) (k13 : PySem.W.keepIn K (.ref f13) = true)
    (a14 : PySem.W.nsIn K mainGlobals "_law_tree" = some (some (.ref f14))) (l14 : K.lookup f14 = some ⟨oc14, od14, .func (PySem.W.fnOf "_law_tree" "_law_tree" (defArgs sLawTree) (defBody sLawTree) (defScope sLawTree) .none kV14 dc14 pm14 an14 cd14 ct14), sl14⟩) (c14 : PySem.W.codeIn K cd14 "_law_tree" = true) (k14 : PySem.W.keepIn K (.ref f14) = true)
    (a15 : PySem.W.nsIn K mainGlobals "_law_copy" = some (some (.ref f15))) (l15 : K.lookup f15 = some ⟨oc15, od15, .func (PySem.W.fnOf "_law_copy" "_law_copy" (defArgs sLawCopy) (defBody sLawCopy) (defScope sLawCopy) .none kV15 dc15 pm15 an15 cd15 ct15), sl15⟩) (c15 : PySem.W.codeIn K cd15 "_law_copy" = true) (k15 : PySem.W.keepIn K (.ref f15) = true)
    (a16 : PySem.W.nsIn K mainGlobals "_law_same" = some (some (.ref f16))) (l16 : K.lookup f16 = some ⟨oc16, od16, .func (PySem.W.fnOf "_law_same" "_law_same" (defArgs sLawSame) (defBody sLawSame) (defScope sLawSame) .none kV16 dc16 pm16 an16 cd16 ct16), sl16⟩) (c16 : PySem.W.codeIn K cd16 "_law_same" = true) (k16 : PySem.W.keepIn K (.ref f16) = true)
    (a17 : PySem.W.nsIn K mainGlobals "_law_way" = some (some (.ref f17))) (l17 : K.lookup f17 = some ⟨oc17, od17, .func (PySem.W.fnOf "_law_way" "_law_way" (defArgs sLawWay) (defBody sLawWay) (defScope sLawWay) .none kV17 dc17 pm17 an17 cd17 ct17), sl17⟩) (c17 : PySem.W.codeIn K cd17 "_law_way" = true) (k17 : PySem.W.keepIn K (.ref f17) = true)
    (a18 : PySem.W.nsIn K mainGlobals "_law_right" = some (some (.ref f18))) (l18 : K.lookup f18 = some ⟨oc18, od18, .func (PySem.W.fnOf "_law_right" "_law_right" (defArgs sLawRight) (defBody sLawRight) (defScope sLawRight) .none kV18 dc18 pm18 an18 cd18 ct18), sl18⟩) (c18 : PySem.W.codeIn K cd18 "_law_right" = true) (k18 : PySem.W.keepIn K (.ref f18) = true)
    (a19 : PySem.W.nsIn K mainGlobals "law" = some (some (.ref f19))) (l19 : K.lookup f19 = some ⟨oc19, od19, .func (PySem.W.fnOf "law" "law" (defArgs sLaw) (defBody sLaw) (defScope sLaw) .none kV19 dc19 pm19 an19 cd19 ct19), sl19⟩) (c19 : PySem.W.codeIn K cd19 "law" = true) (k19 : PySem.W.keepIn K (.ref f19) = true)
    (z_max : PySem.W.nsIn K mainGlobals "max" = some none)
    (z_min : PySem.W.nsIn K mainGlobals "min" = some none)
    (z_int : PySem.W.nsIn K mainGlobals "int" = some none)
    (z_len : PySem.W.nsIn K mainGlobals "len" = some none)
    (z_list : PySem.W.nsIn K mainGlobals "list" = some none)
    (z_tuple : PySem.W.nsIn K mainGlobals "tuple" = some none)
    (z_bool : PySem.W.nsIn K mainGlobals "bool" = some none)
    (z_range : PySem.W.nsIn K mainGlobals "range" = some none)
    (z_sorted : PySem.W.nsIn K mainGlobals "sorted" = some none)
    (z_sum : PySem.W.nsIn K mainGlobals "sum" = some none)
    (z_zip : PySem.W.nsIn K mainGlobals "zip" = some none)
    (z_enumerate : PySem.W.nsIn K mainGlobals "enumerate" = some none)
    (z_isinstance : PySem.W.nsIn K mainGlobals "isinstance" = some none)
    (z_set : PySem.W.nsIn K mainGlobals "set" = some none)
    (z_all : PySem.W.nsIn K mainGlobals "all" = some none)
    (z_str : PySem.W.nsIn K mainGlobals "str" = some none)
    (z_any : PySem.W.nsIn K mainGlobals "any" = some none)
    (z_dict : PySem.W.nsIn K mainGlobals "dict" = some none)
    {cT T : Addr} {occ : Value} {odc : Option Addr} {slc : Array (Option Value)} {vsc : Array Value} (tc : cd8 = .ref cT) (tl : K.lookup cT = some ⟨occ, odc, .fields vsc, slc⟩) (tv : vsc[11]? = some (.ref T)) (tn : K.lookup T = none)
    : ∃ (fd : FuncData) (c T : Addr), PySem.W.tabIn K "way_between" = some (c, T) ∧ K.lookup T = none ∧ (∀ (s : Shared) (v : Value), BindsTo s fd ⟨[v], []⟩ [("script", v)]) ∧ ∀ base : Heap, K.In base → base.Ns mainGlobals mg → BMod mg base → PySem.W.CodeHd base c T → FnOk l.prog w K mg base CX0 7 fa fd ["script"] (spLawT K T) := by
  have e := hfa.symm.trans (PySem.W.mg_of X G a19)
  cases e
  have B : Blt mg := ⟨PySem.W.mg_none_of X G z_max, PySem.W.mg_none_of X G z_min, PySem.W.mg_none_of X G z_int, PySem.W.mg_none_of X G z_len, PySem.W.mg_none_of X G z_list, PySem.W.mg_none_of X G z_tuple, PySem.W.mg_none_of X G z_bool, PySem.W.mg_none_of X G z_range, PySem.W.mg_none_of X G z_sorted, PySem.W.mg_none_of X G z_sum, PySem.W.mg_none_of X G z_zip, PySem.W.mg_none_of X G z_enumerate, PySem.W.mg_none_of X G z_isinstance, PySem.W.mg_none_of X G z_set, PySem.W.mg_none_of X G z_all, PySem.W.mg_none_of X G z_str, PySem.W.mg_none_of X G z_any, PySem.W.mg_none_of X G z_dict⟩
  have F1 := fun_mk (st := sRowOver) l1 c1 k1
  have b1 := F1.binds (ps := ["row", "lead", "onward"]) fun _ _ _ _ _ _ us hl => match us, hl with | [_, _, _], _ => rfl
  have F2 := fun_mk (st := sStraightWays) l2 c2 k2
  have b2 := F2.binds (ps := ["web"]) fun _ _ _ _ _ _ us hl => match us, hl with | [_], _ => rfl
  have F3 := fun_mk (st := sAllWays) l3 c3 k3
  have b3 := F3.binds (ps := ["web"]) fun _ _ _ _ _ _ us hl => match us, hl with | [_], _ => rfl
  have F4 := fun_mk (st := sIsPlace) l4 c4 k4
  have b4 := F4.binds (ps := ["many", "place"]) fun _ _ _ _ _ _ us hl => match us, hl with | [_, _], _ => rfl
  have F5 := fun_mk (st := sCheckPlace) l5 c5 k5
  have b5 := F5.binds (ps := ["web", "place"]) fun _ _ _ _ _ _ us hl => match us, hl with | [_, _], _ => rfl
  have F6 := fun_mk (st := sIsTree) l6 c6 k6
  have b6 := F6.binds (ps := ["web"]) fun _ _ _ _ _ _ us hl => match us, hl with | [_], _ => rfl
  have F7 := fun_mk (st := sCheckTree) l7 c7 k7
  have b7 := F7.binds (ps := ["web"]) fun _ _ _ _ _ _ us hl => match us, hl with | [_], _ => rfl
  have F8 := fun_mk (st := sWayBetween) l8 c8 k8
  have b8 := F8.binds (ps := ["web", "one", "other"]) fun _ _ _ _ _ _ us hl => match us, hl with | [_, _, _], _ => rfl
  have F9 := fun_mk (st := sLawNext) l9 c9 k9
  have b9 := F9.binds (ps := ["pot", "many"]) fun _ _ _ _ _ _ us hl => match us, hl with | [_, _], _ => rfl
  have F10 := fun_mk (st := sLawPots) l10 c10 k10
  have b10 := F10.binds (ps := ["script"]) fun _ _ _ _ _ _ us hl => match us, hl with | [_], _ => rfl
  have F11 := fun_mk (st := sLawOrder) l11 c11 k11
  have b11 := F11.binds (ps := ["pot", "many"]) fun _ _ _ _ _ _ us hl => match us, hl with | [_, _], _ => rfl
  have F12 := fun_mk (st := sLawLength) l12 c12 k12
  have b12 := F12.binds (ps := ["pot"]) fun _ _ _ _ _ _ us hl => match us, hl with | [_], _ => rfl
  have F13 := fun_mk (st := sLawRoadsSorted) l13 c13 k13
  have b13 := F13.binds (ps := ["roads"]) fun _ _ _ _ _ _ us hl => match us, hl with | [_], _ => rfl
  have F14 := fun_mk (st := sLawTree) l14 c14 k14
  have b14 := F14.binds (ps := ["pot", "most"]) fun _ _ _ _ _ _ us hl => match us, hl with | [_, _], _ => rfl
  have F15 := fun_mk (st := sLawCopy) l15 c15 k15
  have b15 := F15.binds (ps := ["web"]) fun _ _ _ _ _ _ us hl => match us, hl with | [_], _ => rfl
  have F16 := fun_mk (st := sLawSame) l16 c16 k16
  have b16 := F16.binds (ps := ["found", "due"]) fun _ _ _ _ _ _ us hl => match us, hl with | [_, _], _ => rfl
  have F17 := fun_mk (st := sLawWay) l17 c17 k17
  have b17 := F17.binds (ps := ["web", "one", "other"]) fun _ _ _ _ _ _ us hl => match us, hl with | [_, _, _], _ => rfl
  have F18 := fun_mk (st := sLawRight) l18 c18 k18
  have b18 := F18.binds (ps := ["web", "handed", "one", "other"]) fun _ _ _ _ _ _ us hl => match us, hl with | [_, _, _, _], _ => rfl
  have F19 := fun_mk (st := sLaw) l19 c19 k19
  have hcd : (PySem.W.fnOf "way_between" "way_between" (defArgs sWayBetween) (defBody sWayBetween) (defScope sWayBetween) .none kV8 dc8 pm8 an8 cd8 ct8).code = .ref cT := tc
  refine ⟨PySem.W.fnOf "law" "law" (defArgs sLaw) (defBody sLaw) (defScope sLaw) .none kV19 dc19 pm19 an19 cd19 ct19, cT, T, tab_mk a8 l8 hcd tl tv, tn, fun s v => .of_eq rfl, fun base _ _ hB hC => ?_⟩
  have D_row_over : Def l.prog w K mg base 1 "row_over" ["row", "lead", "onward"] spRowOver := Def.of F1 b1 (PySem.W.mg_of X G a1) (ok_row_over F1 B)
  have D_straight_ways : Def l.prog w K mg base 1 "straight_ways" ["web"] spStraight := Def.of F2 b2 (PySem.W.mg_of X G a2) (ok_straight F2 B)
  have D_all_ways : Def l.prog w K mg base 2 "all_ways" ["web"] spAllWays := Def.of F3 b3 (PySem.W.mg_of X G a3) (ok_all_ways F3 B D_straight_ways D_row_over)
  have D_is_place : Def l.prog w K mg base 1 "is_place" ["many", "place"] spIsPlace := Def.of F4 b4 (PySem.W.mg_of X G a4) (ok_is_place F4)
  have D_check_place : Def l.prog w K mg base 2 "check_place" ["web", "place"] spCheckPlace := Def.of F5 b5 (PySem.W.mg_of X G a5) (ok_check_place F5 B D_is_place)
  have D_is_tree : Def l.prog w K mg base 1 "is_tree" ["web"] spIsTree := Def.of F6 b6 (PySem.W.mg_of X G a6) (ok_is_tree F6 B)
  have D_check_tree : Def l.prog w K mg base 2 "check_tree" ["web"] spCheckTree := Def.of F7 b7 (PySem.W.mg_of X G a7) (ok_check_tree F7 D_is_tree)
  have D_law_next : Def l.prog w K mg base 1 "_law_next" ["pot", "many"] (spTakeG GPot) := Def.of F9 b9 (PySem.W.mg_of X G a9) (ok_next F9)
  have D_law_pots : Def l.prog w K mg base 1 "_law_pots" ["script"] spPots := Def.of F10 b10 (PySem.W.mg_of X G a10) (ok_pots F10 B)
  have D_law_order : Def l.prog w K mg base 2 "_law_order" ["pot", "many"] (spOrderG GPot) := Def.of F11 b11 (PySem.W.mg_of X G a11) (ok_order F11 B D_law_next)
  have D_law_length : Def l.prog w K mg base 2 "_law_length" ["pot"] (spLengthG GPot) := Def.of F12 b12 (PySem.W.mg_of X G a12) (ok_length F12 D_law_next)
  have D_law_roads_sorted : Def l.prog w K mg base 1 "_law_roads_sorted" ["roads"] spSortR := Def.of F13 b13 (PySem.W.mg_of X G a13) (ok_roads_sorted F13 B)
  have D_law_tree : Def l.prog w K mg base 3 "_law_tree" ["pot", "most"] spTree := Def.of F14 b14 (PySem.W.mg_of X G a14) (ok_tree F14 B D_law_next D_law_order D_law_length D_law_roads_sorted)
  have D_law_copy : Def l.prog w K mg base 1 "_law_copy" ["web"] spCopyS := Def.of F15 b15 (PySem.W.mg_of X G a15) (ok_copy F15 B)
  have D_law_same : Def l.prog w K mg base 5 "_law_same" ["found", "due"] (spSame 5) := Def.of F16 b16 (PySem.W.mg_of X G a16) (ok_same F16 b16 (PySem.W.mg_of X G a16) B 5)
  have D_law_way : Def l.prog w K mg base 1 "_law_way" ["web", "one", "other"] spLawWay := Def.of F17 b17 (PySem.W.mg_of X G a17) (ok_law_way F17 B)
  have D_way_between : Def l.prog w K mg base 4 "way_between" ["web", "one", "other"] (spWayB T) := Def.of F8 b8 (PySem.W.mg_of X G a8) (ok_way_between F8 B hcd hB hC D_check_tree D_check_place D_all_ways)
  have D_law_right : Def l.prog w K mg base 6 "_law_right" ["web", "handed", "one", "other"] (spRight61 T) := Def.of F18 b18 (PySem.W.mg_of X G a18) (ok_right F18 B D_law_way D_way_between D_law_same)
  exact ok_law F19 B D_law_pots D_law_tree D_law_copy D_law_right
theorem walk {l : PySem.W.OpenLaw} {q : Program} {loose : List Str} {XP : (Str → Option Value) → Heap → Prop} {YP : World → Heap → Prop} {d dy : DefRec} {K : Params → PySem.W.Frag} (hn : l.most = some 63) (hdf : d.params.defaults = [])
    (hY : ∀ (w : World) (h : Heap), YP w h → (K w.params).In h) (hy : (PyProof.Rows.recsOf q).find? (fun e => e.name == ("way_between" : Str)) = some dy)
    (F : ∀ (w : World) (mg : Str → Option Value) (fa : Addr) (h : Heap), (K w.params).In h → h.Ns mainGlobals mg → mg d.name = some (.ref fa) → ∃ (fd : FuncData) (c T : Addr), PySem.W.tabIn (K w.params) "way_between" = some (c, T) ∧ (K w.params).lookup T = none ∧ (∀ (s : Shared) (u : Value), BindsTo s fd ⟨[u], []⟩ [("script", u)]) ∧ ∀ base : Heap, (K w.params).In base → base.Ns mainGlobals mg → BMod mg base → PySem.W.CodeHd base c T → FnOk l.prog w (K w.params) mg base CX0 7 fa fd ["script"] (spLawT (K w.params) T)) :
    PySem.W.WalkO q loose XP YP l.row.toRowW d [] (fun f vs => PySem.call f vs) :=
  L2.walk_ofT (n := 63) (k := 7) (x := "script") (y := "way_between") (CX := fun _ => CX0) (sp := fun w tabs => spLawT (K w.params) ((tabs.head?.getD (0, 0)).2)) hn (by decide) hdf ⟨rfl, by decide, by decide⟩ hY hy F (fun _ _ _ _ a ns hl hT hS => ⟨hT, a, ns, rfl, hS, hl, fun _ => rfl⟩) fun _ _ _ _ _ z => z
end SS
open PySem PySem.W PyProof.Rows
set_option maxRecDepth 100000 in
set_option maxHeartbeats 0 in
theorem PySem.Challenge.cw_standsellers_k61_ways_along_trees_holds : PySem.Challenge.rw_standsellers_k61_ways_along_trees.Holds := by
  w_on; o_law; k_head; (case hw => w_witness2)
  k_fill
  refine SS.walk (l := PySem.Challenge.rw_standsellers_k61_ways_along_trees) rfl rfl (fun w h Y => PySem.W.km_in_of Y) rfl ?F
  case F =>
    intro w mg fa h KX G hmg
    refine' SS.all_mk KX G hmg ?a1 ?l1 ?c1 ?k1 ?a2 ?l2 ?c2 ?k2 ?a3 ?l3 ?c3 ?k3 ?a4 ?l4 ?c4 ?k4 ?a5 ?l5 ?c5 ?k5 ?a6 ?l6 ?c6 ?k6 ?a7 ?l7 ?c7 ?k7 ?a8 ?l8 ?c8 ?k8 ?a9 ?l9 ?c9 ?k9 ?a10 ?l10 ?c10 ?k10 ?a11 ?l11 ?c11 ?k11 ?a12 ?l12 ?c12 ?k12 ?a13 ?l13 ?c13 ?k13 ?a14 ?l14 ?c14 ?k14 ?a15 ?l15 ?c15 ?k15 ?a16 ?l16 ?c16 ?k16 ?a17 ?l17 ?c17 ?k17 ?a18 ?l18 ?c18 ?k18 ?a19 ?l19 ?c19 ?k19 ?z_max ?z_min ?z_int ?z_len ?z_list ?z_tuple ?z_bool ?z_range ?z_sorted ?z_sum ?z_zip ?z_enumerate ?z_isinstance ?z_set ?z_all ?z_str ?z_any ?z_dict ?tc ?tl ?tv ?tn
    (case a1 => k_is)
    (case l1 => k_is)
    (case c1 => k_is)
    (case k1 => k_is)
    (case a2 => k_is)
    (case l2 => k_is)
    (case c2 => k_is)
    (case k2 => k_is)
    (case a3 => k_is)
    (case l3 => k_is)
    (case c3 => k_is)
    (case k3 => k_is)
    (case a4 => k_is)
    (case l4 => k_is)
    (case c4 => k_is)
    (case k4 => k_is)
    (case a5 => k_is)
    (case l5 => k_is)
    (case c5 => k_is)
    (case k5 => k_is)
    (case a6 => k_is)
    (case l6 => k_is)
    (case c6 => k_is)
    (case k6 => k_is)
    (case a7 => k_is)
    (case l7 => k_is)
    (case c7 => k_is)
    (case k7 => k_is)
    (case a8 => k_is)
    (case l8 => k_is)
    (case c8 => k_is)
    (case k8 => k_is)
    (case a9 => k_is)
    (case l9 => k_is)
    (case c9 => k_is)
    (case k9 => k_is)
    (case a10 => k_is)
    (case l10 => k_is)
    (case c10 => k_is)
    (case k10 => k_is)
    (case a11 => k_is)
    (case l11 => k_is)
    (case c11 => k_is)
    (case k11 => k_is)
    (case a12 => k_is)
    (case l12 => k_is)
    (case c12 => k_is)
    (case k12 => k_is)
    (case a13 => k_is)
    (case l13 => k_is)
    (case c13 => k_is)
    (case k13 => k_is)
    (case a14 => k_is)
    (case l14 => k_is)
    (case c14 => k_is)
    (case k14 => k_is)
    (case a15 => k_is)
    (case l15 => k_is)
    (case c15 => k_is)
    (case k15 => k_is)
    (case a16 => k_is)
    (case l16 => k_is)
    (case c16 => k_is)
    (case k16 => k_is)
    (case a17 => k_is)
    (case l17 => k_is)
    (case c17 => k_is)
    (case k17 => k_is)
    (case a18 => k_is)
    (case l18 => k_is)
    (case c18 => k_is)
    (case k18 => k_is)
    (case a19 => k_is)
    (case l19 => k_is)
    (case c19 => k_is)
    (case k19 => k_is)
    (case z_max => k_is)
    (case z_min => k_is)
    (case z_int => k_is)
    (case z_len => k_is)
    (case z_list => k_is)
    (case z_tuple => k_is)
    (case z_bool => k_is)
    (case z_range => k_is)
    (case z_sorted => k_is)
    (case z_sum => k_is)
    (case z_zip => k_is)
    (case z_enumerate => k_is)
    (case z_isinstance => k_is)
    (case z_set => k_is)
    (case z_all => k_is)
    (case z_str => k_is)
    (case z_any => k_is)
    (case z_dict => k_is)
    (case tc => exact rfl)
    (case tl => k_is)
    (case tv => exact rfl)
    (case tn => kernel_rfl)
