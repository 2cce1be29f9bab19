import PyProof.Rows.All
import Wide.All
import OpenK.AllK
import Wide.FinOn
import Lean
import PyProof.EqAt
import PyProof.EqKinds
import PyProof.TupleCall
import PyProof.Rows.CatFin
import PyProof.StrLawsIn
import KE.IntTextLaws
import KE.IntTextText
import PyProof.SumAny
import PyProof.SeqI3
import PyProof.WalkInts
import PyProof.NeKinds
import KE.KDictLaws
import PyProof.DictIter
import PyProof.DictWalks
import PyProof.Rows.DictUnroll
import KE.KSortTup
import PySem.Challenge.RW_jumpfield_k14_refused_squares
set_option Elab.async false
set_option linter.all false
set_option maxRecDepth 100000
/-! THE HAND LAYER, for ints, bools, texts, own classes, LISTS and tuples (index, slices, in, append, pop ..), calls, loops. Paste it whole ahead of your own text; what your proof does not reach may be deleted. -/
namespace L2
open PySem PySem.Spec PyProof.Rows

/-- a key: an int or a str -/
abbrev Key := Sum Int Str
def keyIs : Key → Value → Bool
  | .inl k, v => Value.isInt k v
  | .inr x, v => Value.isStrOf x v
def keyH (w : World) : Key → Int
  | .inl k => hashInt k
  | .inr x => hashStr w x
theorem keyIs_shape : ∀ {k : Key} {v : Value}, keyIs k v = true → (∃ i t, k = Sum.inl i ∧ v = Value.int i t) ∨ (∃ x t, k = Sum.inr x ∧ v = Value.str x t)
  | .inl i, v, h => by
    obtain ⟨t, e⟩ := Value.isInt_shape (k := i) (v := v) h
    exact .inl ⟨i, t, rfl, e⟩
  | .inr x, v, h => by
    obtain ⟨t, e⟩ := Value.isStrOf_shape (x := x) (v := v) h
    exact .inr ⟨x, t, rfl, e⟩
theorem keyIs_int (i : Int) (t : Tok) : keyIs (.inl i) (.int i t) = true := by simp [keyIs, Value.isInt]
theorem keyIs_str (x : Str) (t : Tok) : keyIs (.inr x) (.str x t) = true := by simp [keyIs, Value.isStrOf]
theorem key_ll (a b : Int) : decide ((Sum.inl a : Key) = Sum.inl b) = (a == b) := by
  by_cases e : a = b
  · subst e; simp
  · have h : ¬ (Sum.inl a : Key) = Sum.inl b := fun q => e (Sum.inl.inj q)
    rw [decide_eq_false h]
    exact (beq_eq_false_iff_ne.mpr e).symm
theorem key_rr (a b : Str) : decide ((Sum.inr a : Key) = Sum.inr b) = decide (a = b) := by
  by_cases e : a = b
  · subst e; simp
  · have h : ¬ (Sum.inr a : Key) = Sum.inr b := fun q => e (Sum.inr.inj q)
    rw [decide_eq_false h, decide_eq_false e]
theorem key_lr (a : Int) (b : Str) : decide ((Sum.inl a : Key) = Sum.inr b) = false := decide_eq_false (fun q => nomatch q)
theorem key_rl (a : Str) (b : Int) : decide ((Sum.inr a : Key) = Sum.inl b) = false := decide_eq_false (fun q => nomatch q)

def mixKind (prog : Program) (w : World) : PySem.KeyKind prog w Key where
  is := keyIs
  hash := keyH w
  inj := fun v a b ha hb => by
    rcases keyIs_shape ha with ⟨i, t, rfl, rfl⟩ | ⟨x, t, rfl, rfl⟩
    · rcases keyIs_shape hb with ⟨j, u, rfl, e⟩ | ⟨y, u, rfl, e⟩
      · injection e with e1 _; rw [e1]
      · exact nomatch e
    · rcases keyIs_shape hb with ⟨j, u, rfl, e⟩ | ⟨y, u, rfl, e⟩
      · exact nomatch e
      · injection e with e1 _; rw [e1]
  byValue := fun k v h => by
    rcases keyIs_shape h with ⟨i, t, rfl, rfl⟩ | ⟨x, t, rfl, rfl⟩ <;> rfl
  pyHash := fun hv h => by
    rcases keyIs_shape hv with ⟨i, t, rfl, rfl⟩ | ⟨x, t, rfl, rfl⟩
    · exact wpAny_pyHash_int h
    · exact wpAny_pyHash_str h
  eqBool := fun hu hv h => by
    rcases keyIs_shape hu with ⟨i, t, rfl, rfl⟩ | ⟨x, t, rfl, rfl⟩
    · rcases keyIs_shape hv with ⟨j, u, rfl, rfl⟩ | ⟨y, u, rfl, rfl⟩
      · rw [key_ll] at h; exact wpAny_eqBool_int h
      · rw [key_lr] at h; exact SeqAt.EqAt.int_str i t y u _ _ _ _ h
    · rcases keyIs_shape hv with ⟨j, u, rfl, rfl⟩ | ⟨y, u, rfl, rfl⟩
      · rw [key_rl] at h; exact SeqAt.EqAt.str_int x t j u _ _ _ _ h
      · rw [key_rr] at h; exact wpAny_eqBool_str h
  «strs» := fun k x t v h => by
    rcases keyIs_shape h with ⟨i, u, rfl, e⟩ | ⟨y, u, rfl, e⟩
    · exact nomatch e
    · injection e with e1 _
      subst e1
      cases v <;> rfl

theorem mixKind_int (prog : Program) (w : World) (i : Int) (t : Tok) : (mixKind prog w).is (.inl i) (.int i t) = true := keyIs_int i t
theorem mixKind_str (prog : Program) (w : World) (x : Str) (t : Tok) : (mixKind prog w).is (.inr x) (.str x t) = true := keyIs_str x t
end L2

namespace L2
open PySem PySem.Spec PyProof.Rows

/-- a value, without the heap -/
inductive V where
  | non | bl (b : Bool) | int (i : Int) | str (x : Str) | byt (b : Array UInt8) | flt (b : UInt64) | ref (a : Addr) | ty (n : String)
  deriving DecidableEq

def RelV : V → Value → Prop
  | .non, u => u = Value.none
  | .bl b, u => u = Value.bool b
  | .int i, u => ∃ t, u = Value.int i t
  | .str x, u => ∃ t, u = Value.str x t
  | .byt b, u => ∃ t, u = Value.bytes b t
  | .flt b, u => ∃ t, u = Value.float b t
  | .ref a, u => u = Value.ref a
  | .ty n, u => u = Value.type n

abbrev Vals : List V → List Value → Prop := Paired RelV
theorem Vals.length {xs : List V} {us : List Value} (r : Vals xs us) : xs.length = us.length := Paired.length r
theorem Vals.get : ∀ {xs : List V} {us : List Value} {i : Nat} {x : V}, Vals xs us → xs[i]? = some x → ∃ u, us[i]? = some u ∧ RelV x u
  | _, _, _, _, .nil, e => by simp at e
  | _, _, 0, _, .cons r _, e => by simp at e; subst e; exact ⟨_, rfl, r⟩
  | _, _, i + 1, x, .cons _ t, e => by
    obtain ⟨u, h1, h2⟩ := Vals.get (i := i) (x := x) t (by simpa using e)
    exact ⟨u, by simpa using h1, h2⟩
theorem Vals.set {x : V} {u : Value} (r : RelV x u) : ∀ {xs : List V} {us : List Value} (i : Nat), Vals xs us → Vals (xs.set i x) (us.set i u)
  | _, _, _, .nil => .nil
  | _, _, 0, .cons _ t => .cons r t
  | _, _, i + 1, .cons q t => .cons q (Vals.set r i t)
theorem Vals.append : ∀ {xs ys : List V} {us ws : List Value}, Vals xs us → Vals ys ws → Vals (xs ++ ys) (us ++ ws)
  | _, _, _, _, .nil, s => s
  | _, _, _, _, .cons r t, s => .cons r (Vals.append t s)
theorem Vals.none_of : ∀ {xs : List V} {us : List Value} {i : Nat}, Vals xs us → xs[i]? = none → us[i]? = none := fun {xs us i} r e => by
  have h1 := r.length
  have h2 : xs.length ≤ i := List.getElem?_eq_none_iff.mp e
  exact List.getElem?_eq_none_iff.mpr (by lia)

def RelO : Option V → Option Value → Prop
  | some v, some u => RelV v u
  | none, none => True
  | _, _ => False
def KV {κ : Type} : List (κ × V) → List (κ × Value) → Prop := Paired fun (p : κ × V) (q : κ × Value) => p.1 = q.1 ∧ RelV p.2 q.2

/-- a key of a dict (00_mix): an int or a text -/
def kV : Key → V
  | .inl i => .int i
  | .inr x => .str x

/-- what stands at a tracked address -/
inductive HO where
  /-- a list -/
  | lst (xs : List V)
  /-- a tuple (never changes) -/
  | tup (xs : List V)
  /-- a dict whose keys are ints and texts; one whose keys are tuples of ints and texts (the empty one is both) -/
  | dK (kvs : List (Key × V)) | dT (kvs : List (List Key × V))
  /-- a set of ints: its members, its size -/
  | set (S : Int → Bool) (n : Nat)
  /-- an instance of the class at C, its dict at dx, its attributes -/
  | ins (C dx : Addr) (fs : List (Str × V))
  /-- the dict of the instance at x -/
  | own (x : Addr)
  /-- the dict of an exception -/
  | xd (fs : List (Str × V))
  /-- a bound method, f of x -/
  | met (f x : Addr)
  /-- a range object lo, lo + 1, .. below hi -/
  | rng (lo hi : Int)
  /-- a thing that is known to the object (the script; a dict while a loop walks it): read, never written while it is so -/
  | frz (o : Obj) (u : HO)
  /-- a code object's table -/
  | tbl (ps : Array Value)
  /-- any other thing, by what is true of its one object (a def of one's own: SetO a S n := HO.ext fun h => ..) -/
  | ext (φ : Heap → Prop)

abbrev Hp := Addr → Option HO
def upd (H : Hp) (a : Addr) (o : HO) : Hp := fun b => if b = a then some o else H b
theorem upd_same {H : Hp} {a : Addr} {o : HO} : upd H a o a = some o := by unfold upd; rw [if_pos rfl]
theorem upd_ne {H : Hp} {a b : Addr} {o : HO} (h : b ≠ a) : upd H a o b = H b := by unfold upd; rw [if_neg h]
/-- two objects of different content stand apart -/
theorem ne_of {H : Hp} {a b : Addr} {o u : HO} (h : H a = some o) (h' : H b = some u) (d : o ≠ u) : a ≠ b := by
  intro e; subst e; rw [h] at h'; exact d (Option.some.inj h')
theorem ne_of_none {H : Hp} {a b : Addr} {o : HO} (h : H a = some o) (h' : H b = none) : a ≠ b := by
  intro e; subst e; rw [h] at h'; cases h'

section
variable (P : Program) (w : World)
def ObjOk (H : Hp) (h : Heap) (a : Addr) : HO → Prop
  | .lst xs => xs.length ≤ sizeLine ∧ ∃ (its : List Value) (n : Nat), Vals xs its ∧ h.get? a = some { cls := .type "list", data := .seq its.toArray n }
  | .tup xs => xs.length ≤ sizeLine ∧ ∃ its : List Value, Vals xs its ∧ IsTup h a its.toArray
  | .dK kvs => kvs.length ≤ sizeLine ∧ (a == sysModules) = false ∧ ∃ vs, KV kvs vs ∧ h.DictOf (mixKind P w) a vs
  | .dT kvs => kvs.length ≤ sizeLine ∧ (a == sysModules) = false ∧ ∃ xs : List (List Key × Addr × Value),
      Paired (fun (p : List Key × V) (q : List Key × Addr × Value) => p.1 = q.1 ∧ H q.2.1 = some (.tup (p.1.map kV)) ∧ RelV p.2 q.2.2) kvs xs ∧
      ∃ o es ep, h.get? a = some o ∧ o.ExactDict ∧ o.data = .dict es ep ∧ es.toList = xs.map (entryOfKey (tupleKind (mixKind P w))) ∧ (xs.map (·.1)).Nodup
  | .set S n => h.SetOf (intKind P w) a S n
  | .ins C dx fs => H dx = some (.own a) ∧ fs.length ≤ 1000 ∧ dx ≠ a ∧ h.get? a = some (PySem.W.instObj C dx) ∧
      ∃ mA, h.Ns1 dx mA ∧ (∀ f, RelO (fs.lookup f) (mA f)) ∧ PySem.Within mA (fs.map (·.1))
  | .own _ => ∃ o, h.get? a = some o
  | .xd fs => ∃ mA, h.Ns1 a mA ∧ ∀ f, RelO (fs.lookup f) (mA f)
  | .rng lo hi => ∃ t u v, h.get? a = some { cls := .type "range", data := .fields #[.int lo t, .int hi u, .int 1 v] }
  | .frz o u => h.get? a = some o ∧ ObjOk H h a u
  | .tbl ps => h.get? a = some { cls := .none, data := .fields ps }
  | .met f x => h.get? a = some (PySem.W.methodObj (.ref f) (.ref x))
  | .ext φ => φ h ∧ (∃ o, h.get? a = some o) ∧ ∀ h1 h2 : Heap, φ h1 → (∀ o, h1.get? a = some o → h2.get? a = some o) → φ h2
/-- the abstract heap is held -/
def HOk (H : Hp) (h : Heap) : Prop := ∀ a o, H a = some o → ObjOk P w H h a o
end

section
variable {P : Program} {w : World} {H H' : Hp} {h h' : Heap} {a : Addr} {o : HO}
theorem ObjOk.lt (x : ObjOk P w H h a o) : a < h.objs.size := by
  cases o with
  | lst xs => obtain ⟨_, _, _, _, e⟩ := x; exact Heap.lt_size e
  | tup xs => obtain ⟨_, _, _, p⟩ := x; exact p.lt
  | dK kvs => obtain ⟨_, _, _, _, o, _, _, e, _⟩ := x; exact Heap.lt_size e
  | dT kvs => obtain ⟨_, _, _, _, o, _, _, e, _⟩ := x; exact Heap.lt_size e
  | set S n => obtain ⟨o, _, _, _, e, _⟩ := x; exact Heap.lt_size e
  | ins C dx fs => obtain ⟨_, _, _, e, _⟩ := x; exact Heap.lt_size e
  | own y => obtain ⟨_, e⟩ := x; exact Heap.lt_size e
  | xd fs => obtain ⟨_, ⟨_, _, _, e, _⟩, _⟩ := x; exact Heap.lt_size e
  | rng lo hi => obtain ⟨_, _, _, e⟩ := x; exact Heap.lt_size e
  | frz ob u => obtain ⟨e, _⟩ := x; exact Heap.lt_size e
  | tbl ps => exact Heap.lt_size (show h.get? a = some _ from x)
  | met f y => exact Heap.lt_size (show h.get? a = some _ from x)
  | ext φ => obtain ⟨_, ⟨_, e⟩, _⟩ := x; exact Heap.lt_size e
theorem Paired.mapP {α β : Type} {F G : α → β → Prop} : ∀ {l₁ : List α} {l₂ : List β}, Paired F l₁ l₂ → (∀ a b, F a b → G a b) → Paired G l₁ l₂
  | _, _, .nil, _ => .nil
  | _, _, .cons r t, f => .cons (f _ _ r) (Paired.mapP t f)
/-- what an object's description leans on: its own object, its own dict, the tuples -/
theorem ObjOk.stay (x : ObjOk P w H h a o) (k : ∀ b u, (b = a ∨ H b = some (.own a)) → h.get? b = some u → h'.get? b = some u)
    (ho : ∀ b, H b = some (.own a) → H' b = some (.own a)) (ht : ∀ b xs, H b = some (.tup xs) → H' b = some (.tup xs)) : ObjOk P w H' h' a o := by
  induction o with
  | lst xs => obtain ⟨z, its, n, r, e⟩ := x; exact ⟨z, its, n, r, k _ _ (.inl rfl) e⟩
  | tup xs => obtain ⟨z, its, r, ob, e, c⟩ := x; exact ⟨z, its, r, ob, k _ _ (.inl rfl) e, c⟩
  | dK kvs => obtain ⟨z, y, vs, r, ob, es, ep, e, c⟩ := x; exact ⟨z, y, vs, r, ob, es, ep, k _ _ (.inl rfl) e, c⟩
  | dT kvs =>
    obtain ⟨z, y, xs, r, ob, es, ep, e, c⟩ := x
    exact ⟨z, y, xs, Paired.mapP r fun p q z => ⟨z.1, ht _ _ z.2.1, z.2.2⟩, ob, es, ep, k _ _ (.inl rfl) e, c⟩
  | set S n => obtain ⟨ob, es, ep, t, e, c⟩ := x; exact ⟨ob, es, ep, t, k _ _ (.inl rfl) e, c⟩
  | ins C dx fs =>
    obtain ⟨d, z, ne, e, mA, ⟨od, es, ep, e2, c⟩, r⟩ := x
    exact ⟨ho _ d, z, ne, k _ _ (.inl rfl) e, mA, ⟨od, es, ep, k _ _ (.inr d) e2, c⟩, r⟩
  | own y => obtain ⟨ob, e⟩ := x; exact ⟨ob, k _ _ (.inl rfl) e⟩
  | xd fs => obtain ⟨mA, ⟨od, es, ep, e, c⟩, r⟩ := x; exact ⟨mA, ⟨od, es, ep, k _ _ (.inl rfl) e, c⟩, r⟩
  | rng lo hi => obtain ⟨t, u, v, e⟩ := x; exact ⟨t, u, v, k _ _ (.inl rfl) e⟩
  | frz ob u ih => obtain ⟨e, q⟩ := x; exact ⟨k _ _ (.inl rfl) e, ih q⟩
  | tbl ps =>
    have e : h.get? a = some { cls := .none, data := .fields ps } := x
    show h'.get? a = some { cls := .none, data := .fields ps }
    exact k a _ (.inl rfl) e
  | met f y =>
    have e : h.get? a = some (PySem.W.methodObj (.ref f) (.ref y)) := x
    show h'.get? a = some (PySem.W.methodObj (.ref f) (.ref y))
    exact k a _ (.inl rfl) e
  | ext φ => obtain ⟨p, ⟨o, e⟩, st⟩ := x; exact ⟨st _ _ p fun o q => k _ _ (.inl rfl) q, ⟨o, k _ _ (.inl rfl) e⟩, st⟩
theorem HOk.lt (x : HOk P w H h) (e : H a = some o) : a < h.objs.size := (x a o e).lt
theorem HOk.fresh (x : HOk P w H h) (e : h.objs.size ≤ a) : H a = none := by
  cases q : H a with
  | none => rfl
  | some u => exact absurd (Nat.lt_of_lt_of_le (x.lt q) e) (Nat.lt_irrefl _)
/-- every object of the heap is kept -/
theorem HOk.kept (x : HOk P w H h) (k : ∀ b u, h.get? b = some u → h'.get? b = some u) : HOk P w H h' := fun a o e =>
  (x a o e).stay (fun b u _ q => k b u q) (fun _ q => q) fun _ _ q => q
/-- a new object is laid and tracked -/
theorem HOk.laid (x : HOk P w H h) (k : ∀ b u, h.get? b = some u → h'.get? b = some u) (hp : h.objs.size ≤ a) (new : ObjOk P w (upd H a o) h' a o) : HOk P w (upd H a o) h' := fun b u e => by
  have hn := x.fresh hp
  by_cases hb : b = a
  · subst hb; rw [upd_same] at e; cases e; exact new
  · rw [upd_ne hb] at e
    exact (x b u e).stay (fun c v _ q => k c v q) (fun c q => by rw [upd_ne (ne_of_none q hn)]; exact q) fun c xs q => by rw [upd_ne (ne_of_none q hn)]; exact q
end

/-- what may be read as u: it is u, or a known u -/
def Rd (H : Hp) (a : Addr) (u : HO) : Prop := H a = some u ∨ ∃ o, H a = some (.frz o u)
theorem Rd.ok {P : Program} {w : World} {H : Hp} {h : Heap} {a : Addr} {u : HO} (r : Rd H a u) (x : HOk P w H h) : ObjOk P w H h a u := by
  rcases r with r | ⟨o, r⟩
  · exact x a u r
  · obtain ⟨_, q⟩ := x a _ r
    exact q
/-- what may be written -/
def Mut : Option HO → Prop
  | some (.lst _) => True
  | some (.dK _) => True
  | some (.dT _) => True
  | some (.set _ _) => True
  | some (.ins _ _ _) => True
  | some (.ext _) => True
  | _ => False
section
variable {P : Program} {w : World} {H : Hp} {h h' : Heap} {x e : Addr} {o' : HO}
/-- the object at e is changed: x itself, or the dict of the instance x -/
theorem HOk.write (ok : HOk P w H h) (mu : Mut (H x)) (he : e = x ∨ H e = some (.own x)) (k : ∀ b u, b ≠ e → h.get? b = some u → h'.get? b = some u) (heo : ∃ u, h'.get? e = some u)
    (new : ObjOk P w (upd H x o') h' x o') : HOk P w (upd H x o') h' := fun b u q => by
  have nown : ∀ c y, H c = some (.own y) → c ≠ x := fun c y r z => by subst z; rw [r] at mu; exact mu
  have ntup : ∀ c xs, H c = some (.tup xs) → c ≠ x := fun c xs r z => by subst z; rw [r] at mu; exact mu
  by_cases hb : b = x
  · subst hb; rw [upd_same] at q; cases q; exact new
  · rw [upd_ne hb] at q
    by_cases hbe : b = e
    · have q' : H b = some (.own x) := by
        rcases he with z | z
        · exact absurd (hbe.trans z) hb
        · rw [hbe]; exact z
      rw [q] at q'; cases q'
      obtain ⟨v, hv⟩ := heo
      exact ⟨v, by rw [hbe]; exact hv⟩
    · refine (ok b u q).stay (fun c v hc r => k c v ?_ r) (fun c r => by rw [upd_ne (nown c b r)]; exact r) fun c xs r => by rw [upd_ne (ntup c xs r)]; exact r
      rcases hc with rfl | hc
      · exact hbe
      · rintro rfl
        rcases he with z | z
        · exact nown c b hc z
        · rw [hc] at z; cases z; exact hb rfl
end

/-! ### kept unless tracked; of the frames at fs (the callers') the slots may change (an exception that passes writes there); of the records at ex (iterators) nothing is said -/
structure Un (fs ex : List Addr) (H H' : Hp) (h h' : Heap) : Prop where
  keep : ∀ b o, h.get? b = some o → H b = none → b ∉ fs → b ∉ ex → h'.get? b = some o
  slot : ∀ b o, h.get? b = some o → H b = none → b ∈ fs → b ∉ ex → ∃ sl, h'.get? b = some { o with slots := sl }
  free : ∀ b o, h.get? b = some o → H b = none → b ∉ ex → H' b = none
  there : ∀ b o, h.get? b = some o → b ∉ ex → ∃ o', h'.get? b = some o'
  tups : ∀ b xs, H b = some (.tup xs) → H' b = some (.tup xs)
  frzs : ∀ b o u, H b = some (.frz o u) → H' b = some (.frz o u)
  tbls : ∀ b ps, H b = some (.tbl ps) → ∃ more, H' b = some (.tbl (ps ++ more))
section
variable {fs fs' ex ex' : List Addr} {H H1 H2 : Hp} {h h1 h2 h' : Heap} {a x e : Addr} {o : HO}
theorem Un.any (u : Un fs ex H H1 h h1) {b : Addr} {ob : Obj} (q : h.get? b = some ob) (n : H b = none) (hx : b ∉ ex) : ∃ sl, h1.get? b = some { ob with slots := sl } := by
  by_cases hb : b ∈ fs
  · exact u.slot b ob q n hb hx
  · exact ⟨ob.slots, u.keep b ob q n hb hx⟩
theorem Un.kept (k : ∀ b u, h.get? b = some u → h'.get? b = some u) : Un fs ex H H h h' :=
  ⟨fun b ob q _ _ _ => k b ob q, fun b ob q _ _ _ => ⟨ob.slots, k b ob q⟩, fun _ _ _ n _ => n, fun b ob q _ => ⟨ob, k b ob q⟩, fun _ _ q => q, fun _ _ _ q => q, fun _ ps q => ⟨#[], by rw [q]; simp⟩⟩
theorem Un.refl : Un fs ex H H h h := Un.kept fun _ _ q => q
theorem Un.laid (k : ∀ b u, h.get? b = some u → h'.get? b = some u) (hp : h.objs.size ≤ a) (hn : H a = none) : Un fs ex H (upd H a o) h h' where
  keep := fun b u q _ _ _ => k b u q
  slot := fun b u q _ _ _ => ⟨u.slots, k b u q⟩
  free := fun b u q n _ => by rw [upd_ne (Nat.ne_of_lt (Nat.lt_of_lt_of_le (Heap.lt_size q) hp))]; exact n
  there := fun b u q _ => ⟨u, k b u q⟩
  tups := fun b xs q => by rw [upd_ne (ne_of_none q hn)]; exact q
  frzs := fun b u xs q => by rw [upd_ne (ne_of_none q hn)]; exact q
  tbls := fun b ps q => ⟨#[], by rw [upd_ne (ne_of_none q hn), q]; simp⟩
theorem Un.write (mu : Mut (H x)) (he : e = x ∨ H e = some (.own x)) (k : ∀ b u, b ≠ e → h.get? b = some u → h'.get? b = some u) (heo : ∃ u, h'.get? e = some u) : Un fs ex H (upd H x o) h h' := by
  have hx : ∀ b, H b = none → b ≠ x := fun b n z => by subst z; rw [n] at mu; exact mu
  have hb : ∀ b, H b = none → b ≠ e := fun b n z => by
    subst z
    rcases he with r | r
    · exact hx b n r
    · rw [n] at r; cases r
  have hm : ∀ b u, H b = some u → ¬ Mut (some u) → b ≠ x := fun b u q nm z => by subst z; rw [q] at mu; exact nm mu
  refine ⟨fun b u q n _ _ => k b u (hb b n) q, fun b u q n _ _ => ⟨u.slots, k b u (hb b n) q⟩, fun b u q n _ => by rw [upd_ne (hx b n)]; exact n, fun b u q _ => ?_,
    fun b xs q => by rw [upd_ne (hm b _ q fun z => z)]; exact q, fun b u xs q => by rw [upd_ne (hm b _ q fun z => z)]; exact q, fun b ps q => ⟨#[], by rw [upd_ne (hm b _ q fun z => z), q]; simp⟩⟩
  by_cases hbe : b = e
  · subst hbe; exact heo
  · exact ⟨u, k b u hbe q⟩
end

/-! ### the heap without what is tracked -/
def trk (h : Heap) (H : Hp) : List Addr := (List.range h.objs.size).filter fun a => (H a).isSome
def hidT (h : Heap) (H : Hp) : Heap := PySem.W.hideAll h (trk h H)
theorem hidT_size (h : Heap) (H : Hp) : (hidT h H).objs.size = h.objs.size := PySem.W.hideAll_size _ _
theorem hidT_get {h : Heap} {H : Hp} {b : Addr} {o : Obj} (e : h.get? b = some o) (n : H b = none) : (hidT h H).get? b = some o :=
  PySem.W.hideAll_get _ e fun hm => by
    have q : (H b).isSome = true := (List.mem_filter.mp hm).2
    rw [n] at q; simp at q
theorem of_hidT {h : Heap} {H : Hp} {b : Addr} {o : Obj} (e : (hidT h H).get? b = some o) : h.get? b = some o ∧ H b = none := by
  have e' : h.get? b = some o := PySem.W.of_hideAll (trk h H) e
  refine ⟨e', ?_⟩
  cases q : H b with
  | none => rfl
  | some x =>
    have hm : b ∈ trk h H := List.mem_filter.mpr ⟨List.mem_range.mpr (Heap.lt_size e'), by simp [q]⟩
    have z : (hidT h H).get? b = none := PySem.W.hideAll_none (trk h H) hm
    rw [z] at e; cases e

/-! ### OpenK's ledger, filled with every new object but one -/
end L2

namespace L2
open PySem PySem.Spec PyProof.Rows

/-- the module's facts, over the base: the heap at the law's entry without what is tracked there -/
structure Mod (K : PySem.W.Frag) (mg : Str → Option Value) (base : Heap) : Prop where
  kin : K.In base
  glob : base.Ns mainGlobals mg
  blt : ∃ mb, base.Ns builtinsNs mb ∧ ∀ x : Str, x ≠ "__name__" → mb x = bootBuiltins x
  nolimit : base.NoLimit

/-- the context: a def's body (or a comprehension's block) running. base: fixed through the whole law; s₀, H₀: the entry; outer: the frames whose slots others may change (a def's callers); stack: all frames that run;
   ex: iterators that were made ahead of the entry and are walked here (a comprehension's); fn: the names whose cells were made at the entry (a def: all; a comprehension's block: its own); calm: not within an except suite; pn: pins that every state bears; xe: what is wanted of an exception that leaves the code -/
structure Cx where
  prog : Program
  w : World
  K : PySem.W.Frag
  mg : Str → Option Value
  base : Heap
  A : Around
  N : List Str
  s₀ : Shared
  H₀ : Hp
  env : Env
  outer : List Env
  stack : List Env
  ex : List Addr
  fn : Str → Bool
  calm : Bool
  pn : List (Addr × Obj)
  xe : Value → Shared → Prop
/-- the callers' frames -/
def frs (l : List Env) : List Addr := l.filterMap (·.frame)
abbrev Cx.fs (X : Cx) : List Addr := frs X.outer

def Vis (sc : Scope) (x : Str) : Prop := sc.names.lookup x = some .local ∨ sc.names.lookup x = some .cell ∨ sc.names.lookup x = some .free
def Loc (sc : Scope) (x : Str) : Prop := sc.names.lookup x = some .local ∨ sc.names.lookup x = some .cell
def Look (env : Env) (h : Heap) (m : Str → Option Value) (x : Str) (u : Value) : Prop :=
  (env.kindOf x = some .local ∧ m x = some u) ∨ ((env.kindOf x = some .cell ∨ env.kindOf x = some .free) ∧ ∃ c, env.cells.lookup x = some c ∧ h.IsCell c (some u))

structure Cx.Ok (X : Cx) : Prop where
  mod : Mod X.K X.mg X.base
  kind : X.env.scope.kind = .function
  glob : X.env.globals = mainGlobals
  blt : X.env.builtins = builtinsNs
  above : X.s₀.heap.objs.size ≤ X.env.locals
  inj : ∀ x y c, X.env.cells.lookup x = some c → X.env.cells.lookup y = some c → x = y
  has : ∀ x, (X.env.kindOf x = some .cell ∨ X.env.kindOf x = some .free) → ∃ c, X.env.cells.lookup x = some c
  cab : ∀ x c, X.fn x = true → X.env.cells.lookup x = some c → X.s₀.heap.objs.size ≤ c
  hd : X.calm = true → X.A.handled = none
  frames : X.A.frames = some X.stack
  stk : X.stack = X.outer ∨ (X.stack = X.env :: X.outer ∧ X.env.frame = some X.env.locals)
  exf : ∀ b ∈ X.ex, b ≠ X.env.locals ∧ ∀ x c, X.env.cells.lookup x = some c → c ≠ b
  bs : ∀ b o, X.base.get? b = some o → X.s₀.heap.get? b = some o ∧ X.H₀ b = none
  bsz : X.base.objs.size ≤ X.s₀.heap.objs.size
  noex : ∀ b o, X.base.get? b = some o → b ∉ X.ex
  exfs : ∀ b ∈ X.ex, b ∉ X.fs
  funs : X.s₀.heap.FunFrames X.base X.outer
  frf : ∀ b ∈ X.fs, X.H₀ b = none

structure Inv (X : Cx) (pins : List (Addr × Obj)) (σ : List (Option V)) (H : Hp) (s : Shared) : Prop where
  ok : X.Ok
  os : s.os = X.s₀.os
  bare : AllBare s.gens
  base : Un X.fs X.ex X.H₀ H X.s₀.heap s.heap
  loc : ∃ m, s.heap.Ns X.env.locals m ∧ ∀ (i : Nat) (x : Str) (v : V), X.N[i]? = some x → σ[i]? = some (some v) → Vis X.env.scope x → ∃ u, RelV v u ∧ Look X.env s.heap m x u
  cell : ∀ x c, X.env.cells.lookup x = some c → ∃ v, s.heap.IsCell c v
  free : H X.env.locals = none
  freeC : ∀ x c, X.env.cells.lookup x = some c → H c = none
  pin : ∀ p ∈ X.pn ++ pins, s.heap.get? p.1 = some p.2 ∧ H p.1 = none ∧ p.1 ≠ X.env.locals ∧ p.1 ∉ X.fs ∧ ∀ v, p.2.data ≠ .cell v
  hok : HOk X.prog X.w H s.heap
  len : σ.length = X.N.length

section
variable {X : Cx} {pins : List (Addr × Obj)} {σ : List (Option V)} {H H' : Hp} {s : Shared} {h' : Heap}

theorem Cx.Ok.nofr (ok : X.Ok) {b : Addr} {o : Obj} (e : X.base.get? b = some o) : b ∉ X.fs := fun hb => by
  have := (ok.funs.mem hb).1
  rw [e] at this; cases this
theorem Inv.bs (I : Inv X pins σ H s) : ∀ b o, X.base.get? b = some o → s.heap.get? b = some o ∧ H b = none := fun b o e =>
  ⟨I.base.keep b o (I.ok.bs b o e).1 (I.ok.bs b o e).2 (I.ok.nofr e) (I.ok.noex b o e), I.base.free b o (I.ok.bs b o e).1 (I.ok.bs b o e).2 (I.ok.noex b o e)⟩
theorem Inv.bk (I : Inv X pins σ H s) : ∀ b o, X.base.get? b = some o → s.heap.get? b = some o := fun b o e => (I.bs b o e).1
theorem Inv.mod (I : Inv X pins σ H s) : Mod X.K X.mg X.base := I.ok.mod
theorem Inv.kIn (I : Inv X pins σ H s) : X.K.In s.heap := I.ok.mod.kin.keeps I.bk
theorem Inv.lt (I : Inv X pins σ H s) : X.env.locals < s.heap.objs.size := let ⟨_, hn, _⟩ := I.loc; hn.lt
theorem Inv.sz (I : Inv X pins σ H s) : X.s₀.heap.objs.size ≤ s.heap.objs.size := Nat.le_trans I.ok.above (Nat.le_of_lt I.lt)
theorem Inv.nofs (I : Inv X pins σ H s) {a : Addr} (h : s.heap.objs.size ≤ a) : a ∉ X.fs := fun hb => by
  obtain ⟨_, o, ho, _⟩ := I.ok.funs.mem hb
  exact absurd (Nat.lt_of_lt_of_le (Heap.lt_size ho) (Nat.le_trans I.sz h)) (Nat.lt_irrefl _)
theorem Inv.cne (I : Inv X pins σ H s) : ∀ x c, X.env.cells.lookup x = some c → c ≠ X.env.locals := fun x c e z => by
  obtain ⟨v, o, ho, hd⟩ := I.cell x c e
  obtain ⟨m, ⟨o', es, ep, ho', hd', _⟩, _⟩ := I.loc
  rw [z, ho'] at ho; cases ho; rw [hd'] at hd; cases hd
theorem Inv.funs (I : Inv X pins σ H s) : s.heap.FunFrames X.base X.outer := by
  have all : ∀ (l : List Env), (∀ b ∈ frs l, b ∈ X.fs) → X.s₀.heap.FunFrames X.base l → s.heap.FunFrames X.base l := by
    intro l
    induction l with
    | nil => intro _ _; trivial
    | cons env r ih =>
      intro hs hl
      obtain ⟨hk, ⟨L, o, hf, hn, ho, hd⟩, hr⟩ := hl
      have hL : L ∈ X.fs := hs L (by unfold frs; rw [List.filterMap_cons, hf]; exact List.mem_cons_self)
      obtain ⟨sl, e⟩ := I.base.slot L o ho (I.ok.frf L hL) hL fun z => I.ok.exfs L z hL
      exact ⟨hk, ⟨L, _, hf, hn, e, hd⟩, ih (fun b hb => hs b (by unfold frs; rw [List.filterMap_cons, hf]; exact List.mem_cons_of_mem _ hb)) hr⟩
  exact all X.outer (fun _ hb => hb) I.ok.funs

/-- the frames that run, for a call -/
theorem Inv.stack (I : Inv X pins σ H s) : s.heap.FunFrames X.base X.stack := by
  rcases I.ok.stk with e | ⟨e, hf⟩
  · rw [e]; exact I.funs
  · rw [e]
    obtain ⟨m, hn, _⟩ := I.loc
    refine .cons (by rw [I.ok.kind]; decide) hf hn ?_ I.funs
    exact Heap.get?_none_of_le (Nat.le_trans I.ok.bsz I.ok.above)
theorem Inv.stkSub (I : Inv X pins σ H s) : ∀ b ∈ frs X.stack, b ∈ X.env.locals :: X.fs := fun b hb => by
  rcases I.ok.stk with e | ⟨e, hf⟩
  · rw [e] at hb; exact List.mem_cons_of_mem _ hb
  · rw [e] at hb
    unfold frs at hb
    rw [List.filterMap_cons, hf] at hb
    exact hb
theorem Inv.stkFree (I : Inv X pins σ H s) : ∀ b ∈ frs X.stack, H b = none := fun b hb => by
  rcases List.mem_cons.mp (I.stkSub b hb) with e | hb
  · rw [e]; exact I.free
  · obtain ⟨_, o, ho, _⟩ := I.ok.funs.mem hb
    exact I.base.free b o ho (I.ok.frf b hb) fun z => I.ok.exfs b z hb

/-- THE STEP: the untracked objects but the frame and the records at ch are kept (the callers' frames up to slots), the frame's map is kept, the new abstract heap is held -/
theorem Inv.step {g' : Array GenState} {t' : Nat} {d' : Drawn} {ch : List Addr} (I : Inv X pins σ H s)
    (hch : ∀ b ∈ ch, (b ∈ X.ex ∨ X.s₀.heap.objs.size ≤ b) ∧ b ≠ X.env.locals ∧ (∀ x c, X.env.cells.lookup x = some c → c ≠ b) ∧ ∀ p ∈ X.pn ++ pins, p.1 ≠ b)
    (keep : ∀ b o, b ≠ X.env.locals → b ∉ X.fs → b ∉ ch → s.heap.get? b = some o → H b = none → h'.get? b = some o)
    (slot : ∀ b o, b ≠ X.env.locals → b ∈ X.fs → b ∉ ch → s.heap.get? b = some o → H b = none → ∃ sl, h'.get? b = some { o with slots := sl }) (free : ∀ b o, b ∉ ch → s.heap.get? b = some o → H b = none → H' b = none)
    (there : ∀ b o, b ∉ ch → s.heap.get? b = some o → ∃ o', h'.get? b = some o')
    (tups : ∀ b xs, H b = some (.tup xs) → H' b = some (.tup xs)) (frzs : ∀ b o u, H b = some (.frz o u) → H' b = some (.frz o u)) (tbls : ∀ b ps, H b = some (.tbl ps) → ∃ more, H' b = some (.tbl (ps ++ more)))
    (ns : ∀ m, s.heap.Ns X.env.locals m → h'.Ns X.env.locals m) (hok : HOk X.prog X.w H' h') (hg : AllBare g') :
    Inv X pins σ H' { s with heap := h', gens := g', drawn := d', toks := t' } := by
  have neL : ∀ b o, X.s₀.heap.get? b = some o → b ≠ X.env.locals := fun b o e => Nat.ne_of_lt (Nat.lt_of_lt_of_le (Heap.lt_size e) I.ok.above)
  have neC : ∀ b o, X.s₀.heap.get? b = some o → b ∉ X.ex → b ∉ ch := fun b o e hx hb => by
    rcases (hch b hb).1 with z | z
    · exact hx z
    · exact absurd (Nat.lt_of_lt_of_le (Heap.lt_size e) z) (Nat.lt_irrefl _)
  have cellK : ∀ x c, X.env.cells.lookup x = some c → ∀ v, s.heap.IsCell c v → h'.IsCell c v := fun x c e v ⟨o, ho, hd⟩ => by
    have nch : c ∉ ch := fun z => (hch c z).2.2.1 x c e rfl
    by_cases hc : c ∈ X.fs
    · obtain ⟨sl, q⟩ := slot c o (I.cne x c e) hc nch ho (I.freeC x c e)
      exact ⟨_, q, hd⟩
    · exact ⟨o, keep c o (I.cne x c e) hc nch ho (I.freeC x c e), hd⟩
  refine ⟨I.ok, I.os, hg, ⟨fun b o e n hb hx => ?_, fun b o e n hb hx => ?_, fun b o e n hx => ?_, fun b o e hx => ?_, fun b xs e => tups b xs (I.base.tups b xs e), fun b o xs e => frzs b o xs (I.base.frzs b o xs e), fun b ps e => ?_⟩, ?_, fun x c e => ?_, ?_, fun x c e => ?_, fun p hp => ?_, hok, I.len⟩
  · exact keep b o (neL b o e) hb (neC b o e hx) (I.base.keep b o e n hb hx) (I.base.free b o e n hx)
  · obtain ⟨sl, e1⟩ := I.base.slot b o e n hb hx
    obtain ⟨sl', e2⟩ := slot b _ (neL b o e) hb (neC b o e hx) e1 (I.base.free b o e n hx)
    exact ⟨sl', e2⟩
  · obtain ⟨o', e1⟩ := I.base.there b o e hx
    exact free b o' (neC b o e hx) e1 (I.base.free b o e n hx)
  · obtain ⟨o', e1⟩ := I.base.there b o e hx
    exact there b o' (neC b o e hx) e1
  · obtain ⟨m1, e1⟩ := I.base.tbls b ps e
    obtain ⟨m2, e2⟩ := tbls b _ e1
    exact ⟨m1 ++ m2, by rw [e2, Array.append_assoc]⟩
  · obtain ⟨m, hn, hl⟩ := I.loc
    refine ⟨m, ns m hn, fun i x v e1 e2 e3 => ?_⟩
    obtain ⟨u, r, l⟩ := hl i x v e1 e2 e3
    refine ⟨u, r, ?_⟩
    rcases l with l | ⟨k, c, e, z⟩
    · exact .inl l
    · exact .inr ⟨k, c, e, cellK x c e _ z⟩
  · obtain ⟨v, z⟩ := I.cell x c e
    exact ⟨v, cellK x c e v z⟩
  · obtain ⟨m, ⟨o, _, _, ho, _⟩, _⟩ := I.loc
    exact free _ o (fun z => (hch _ z).2.1 rfl) ho I.free
  · obtain ⟨v, o, ho, hd⟩ := I.cell x c e
    exact free c o (fun z => (hch c z).2.2.1 x c e rfl) ho (I.freeC x c e)
  · obtain ⟨e, n, ne, nf, d⟩ := I.pin p hp
    have nch : p.1 ∉ ch := fun z => (hch p.1 z).2.2.2 p hp rfl
    exact ⟨keep p.1 p.2 ne nf nch e n, free p.1 p.2 nch e n, ne, nf, d⟩
/-- .. where the frame's own object is kept too -/
theorem Inv.un {t' : Nat} (I : Inv X pins σ H s) (u : Un X.fs [] H H' s.heap h') (hok : HOk X.prog X.w H' h') : Inv X pins σ H' { s with heap := h', toks := t' } := by
  obtain ⟨m, ⟨o, es, ep, ho, r⟩, _⟩ := id I.loc
  obtain ⟨sl, hL⟩ := u.any ho I.free (by simp)
  exact I.step (g' := s.gens) (d' := s.drawn) (ch := []) (fun _ z => nomatch z) (fun b o _ hb _ e n => u.keep b o e n hb (by simp)) (fun b o _ hb _ e n => u.slot b o e n hb (by simp)) (fun b o _ e n => u.free b o e n (by simp)) (fun b o _ e => u.there b o e (by simp)) u.tups u.frzs u.tbls (fun m' hm => by
    obtain ⟨o', es', ep', ho', r'⟩ := hm
    rw [ho] at ho'; cases ho'
    exact ⟨_, es', ep', hL, r'⟩) hok I.bare
/-- behind a call (or a comprehension's block): the slots of this frame may have changed too, the records at ch may have turned -/
theorem Inv.call {g' : Array GenState} {t' : Nat} {d' : Drawn} {ch : List Addr} (I : Inv X pins σ H s) (u : Un (frs X.stack) ch H H' s.heap h') (hok : HOk X.prog X.w H' h') (hg : AllBare g')
    (hch : ∀ b ∈ ch, (b ∈ X.ex ∨ X.s₀.heap.objs.size ≤ b) ∧ b ≠ X.env.locals ∧ (∀ x c, X.env.cells.lookup x = some c → c ≠ b) ∧ ∀ p ∈ X.pn ++ pins, p.1 ≠ b) :
    Inv X pins σ H' { s with heap := h', gens := g', drawn := d', toks := t' } := by
  obtain ⟨m, ⟨o, es, ep, ho, r⟩, _⟩ := id I.loc
  obtain ⟨sl, hL⟩ := u.any ho I.free fun z => (hch _ z).2.1 rfl
  exact I.step (ch := ch) hch (fun b o hL hb hc e n => u.keep b o e n (fun z => (List.mem_cons.mp (I.stkSub b z)).elim hL hb) hc) (fun b o _ _ hc e n => u.any e n hc) (fun b o hc e n => u.free b o e n hc) (fun b o hc e => u.there b o e hc) u.tups u.frzs u.tbls (fun m' hm => by
    obtain ⟨o', es', ep', ho', r'⟩ := hm
    rw [ho] at ho'; cases ho'
    exact ⟨_, es', ep', hL, r'⟩) hok hg
/-- an untracked record of ours (an iterator) has turned -/
theorem Inv.turned {t' : Nat} {it : Addr} (I : Inv X pins σ H s) (k : ∀ b o, b ≠ it → s.heap.get? b = some o → h'.get? b = some o) (hn : H it = none) (hL : it ≠ X.env.locals)
    (h1 : it ∈ X.ex ∨ X.s₀.heap.objs.size ≤ it) (h2 : ∀ x c, X.env.cells.lookup x = some c → c ≠ it) (h3 : ∀ p ∈ X.pn ++ pins, p.1 ≠ it) : Inv X pins σ H { s with heap := h', toks := t' } := by
  have nit : ∀ b u, H b = some u → b ≠ it := fun b u e z => by rw [z, hn] at e; cases e
  refine I.step (g' := s.gens) (d' := s.drawn) (ch := [it]) (fun b hb => ?_) (fun b o _ _ hc e _ => k b o (fun z => hc (by simp [z])) e) (fun b o _ _ hc e _ => ⟨o.slots, k b o (fun z => hc (by simp [z])) e⟩) (fun _ _ _ _ n => n)
    (fun b o hc e => ⟨o, k b o (fun z => hc (by simp [z])) e⟩) (fun _ _ e => e) (fun _ _ _ e => e) (fun b ps e => ⟨#[], by rw [e]; simp⟩) (fun m hm => ?_) (fun b u e => ?_) I.bare
  · have e : b = it := by simpa using hb
    subst e
    exact ⟨h1, hL, h2, h3⟩
  · obtain ⟨o, es, ep, ho, r⟩ := hm
    exact ⟨o, es, ep, k _ o (Ne.symm hL) ho, r⟩
  · refine (I.hok b u e).stay (fun c v hc q => k c v ?_ q) (fun _ q => q) fun _ _ q => q
    rcases hc with z | z
    · rw [z]; exact nit b u e
    · exact nit c _ z
theorem Inv.tok (I : Inv X pins σ H s) (t : Nat) : Inv X pins σ H { s with toks := t } := I.un (h' := s.heap) (t' := t) Un.refl I.hok
/-- all objects kept -/
theorem Inv.kept {t' : Nat} (I : Inv X pins σ H s) (k : ∀ b u, s.heap.get? b = some u → h'.get? b = some u) : Inv X pins σ H { s with heap := h', toks := t' } := I.un (Un.kept k) (I.hok.kept k)
/-- a new object laid and tracked -/
theorem Inv.laid {a : Addr} {o : HO} {t' : Nat} (I : Inv X pins σ H s) (k : ∀ b u, s.heap.get? b = some u → h'.get? b = some u) (hp : s.heap.objs.size ≤ a) (new : ObjOk X.prog X.w (upd H a o) h' a o) :
    Inv X pins σ (upd H a o) { s with heap := h', toks := t' } := I.un (Un.laid k hp (I.hok.fresh hp)) (I.hok.laid k hp new)
/-- an object written -/
theorem Inv.write {x e : Addr} {o : HO} {t' : Nat} (I : Inv X pins σ H s) (mu : Mut (H x)) (he : e = x ∨ H e = some (.own x)) (k : ∀ b u, b ≠ e → s.heap.get? b = some u → h'.get? b = some u) (heo : ∃ u, h'.get? e = some u)
    (new : ObjOk X.prog X.w (upd H x o) h' x o) : Inv X pins σ (upd H x o) { s with heap := h', toks := t' } := I.un (Un.write mu he k heo) (I.hok.write mu he k heo new)
/-- forgetting slots, pins -/
theorem Inv.weak {σ' : List (Option V)} (I : Inv X pins σ H s) (hl : σ'.length = σ.length) (w : ∀ (i : Nat) v, σ'[i]? = some (some v) → σ[i]? = some (some v)) : Inv X pins σ' H s :=
  ⟨I.ok, I.os, I.bare, I.base, let ⟨m, hn, hl'⟩ := I.loc; ⟨m, hn, fun i x v e1 e2 e3 => hl' i x v e1 (w i v e2) e3⟩, I.cell, I.free, I.freeC, I.pin, I.hok, hl.trans I.len⟩
theorem Inv.pins_of {pins' : List (Addr × Obj)} (I : Inv X pins σ H s) (h : ∀ p ∈ pins', s.heap.get? p.1 = some p.2 ∧ H p.1 = none ∧ p.1 ≠ X.env.locals ∧ p.1 ∉ X.fs ∧ ∀ v, p.2.data ≠ .cell v) : Inv X pins' σ H s :=
  ⟨I.ok, I.os, I.bare, I.base, I.loc, I.cell, I.free, I.freeC, fun p hp => (List.mem_append.mp hp).elim (fun z => I.pin p (List.mem_append_left _ z)) (h p), I.hok, I.len⟩

theorem nodup_ix {N : List Str} (hN : N.Nodup) {i j : Nat} {x : Str} (a : N[i]? = some x) (b : N[j]? = some x) : i = j := by
  obtain ⟨h1, e1⟩ := List.getElem?_eq_some_iff.mp a
  obtain ⟨h2, e2⟩ := List.getElem?_eq_some_iff.mp b
  exact (List.getElem_inj hN).mp (e1.trans e2.symm)

/-- a name is stored; what changed -/
theorem store_ok2 {M : Model} {A : Around} {E : Value → Shared → Prop} {i : Nat} {x : Str} {v : V} {u : Value} {Q : Unit → Shared → Prop} (I : Inv X pins σ H s) (hN : X.N.Nodup) (hi : X.N[i]? = some x) (hx : Loc X.env.scope x) (r : RelV v u)
    (h : ∀ s', Inv X pins (σ.set i (some v)) H s' → (∃ a, Heap.SameBut a s.heap s'.heap ∧ (a = X.env.locals ∨ X.env.cells.lookup x = some a)) → Q () s') (hf : X.fn x = true ∨ X.env.scope.names.lookup x = some .local := by first | exact .inl rfl | exact .inr rfl | assumption) : wpAny M A (storeName X.env x u) Q E s := by
  obtain ⟨m, hn, hl⟩ := id I.loc
  have hcls : (X.env.scope.kind == .class || (X.env.scope.kind == .module && X.env.locals != X.env.globals)) = false := by rw [I.ok.kind]; rfl
  have hiσ : i < σ.length := by rw [I.len]; exact (List.getElem?_eq_some_iff.mp hi).1
  have cne := I.cne
  have tracked : ∀ {a : Addr} {h' : Heap}, (∃ o, s.heap.get? a = some o ∧ H a = none) → Heap.SameBut a s.heap h' → HOk X.prog X.w H h' := fun {a h'} ha hs b ob e => by
    obtain ⟨_, _, hfree⟩ := ha
    refine (I.hok b ob e).stay (fun c w' hc q => (hs.2 c ?_).trans q) (fun _ q => q) fun _ _ q => q
    rintro rfl
    rcases hc with rfl | hc
    · rw [hfree] at e; cases e
    · rw [hfree] at hc; cases hc
  rcases hx with hk | hk
  · refine wpAny_storeName_local hk hn (fun h' hn' hs => ?_) hcls
    obtain ⟨oL, _, _, hoL, _⟩ := id hn
    refine h _ ⟨I.ok, I.os, I.bare, ⟨fun b o e n hb hx => ?_, fun b o e n hb hx => ?_, I.base.free, fun b o e hx => ?_, I.base.tups, I.base.frzs, I.base.tbls⟩, ⟨_, hn', fun j y v' e1 e2 e3 => ?_⟩, fun y c e => ?_, I.free, I.freeC, fun p hp => ?_, tracked ⟨oL, hoL, I.free⟩ hs, by simpa using I.len⟩ ⟨_, hs, .inl rfl⟩
    · exact (hs.2 b (Nat.ne_of_lt (Nat.lt_of_lt_of_le (Heap.lt_size e) I.ok.above))).trans (I.base.keep b o e n hb hx)
    · obtain ⟨sl, e1⟩ := I.base.slot b o e n hb hx
      exact ⟨sl, (hs.2 b (Nat.ne_of_lt (Nat.lt_of_lt_of_le (Heap.lt_size e) I.ok.above))).trans e1⟩
    · obtain ⟨o', e1⟩ := I.base.there b o e hx
      exact ⟨o', (hs.2 b (Nat.ne_of_lt (Nat.lt_of_lt_of_le (Heap.lt_size e) I.ok.above))).trans e1⟩
    · by_cases hj : j = i
      · subst hj
        rw [hi] at e1; cases e1
        rw [List.getElem?_set_self hiσ] at e2
        cases e2
        exact ⟨u, r, .inl ⟨hk, by simp⟩⟩
      · rw [List.getElem?_set_ne (Ne.symm hj)] at e2
        obtain ⟨u', r', q⟩ := hl j y v' e1 e2 e3
        refine ⟨u', r', ?_⟩
        rcases q with ⟨k, e⟩ | ⟨k, c, e, z⟩
        · refine .inl ⟨k, ?_⟩
          have : y ≠ x := fun e => hj (nodup_ix hN e1 (e ▸ hi))
          simp [this, e]
        · exact .inr ⟨k, c, e, z.sameBut hs (cne y c e)⟩
    · obtain ⟨w', z⟩ := I.cell y c e
      exact ⟨w', z.sameBut hs (cne y c e)⟩
    · obtain ⟨e, n, ne, nf, d⟩ := I.pin p hp
      exact ⟨(hs.2 p.1 ne).trans e, n, ne, nf, d⟩
  · have hfn : X.fn x = true := by
      rcases hf with z | z
      · exact z
      · rw [z] at hk; cases hk
    obtain ⟨c, hc⟩ := I.ok.has x (.inl hk)
    obtain ⟨w', z⟩ := I.cell x c hc
    refine wpAny_storeName_cell I.ok.kind hk hc z (fun h' hc' hs => ?_)
    obtain ⟨oc, hoc, hocd⟩ := id z
    refine h { s with heap := h' } ⟨I.ok, I.os, I.bare, ⟨fun b o e n hb hx => ?_, fun b o e n hb hx => ?_, I.base.free, fun b o e hx => ?_, I.base.tups, I.base.frzs, I.base.tbls⟩, ⟨m, hn.sameBut hs (Ne.symm (cne x c hc)), fun j y v' e1 e2 e3 => ?_⟩, fun y c' e => ?_, I.free, I.freeC, fun p hp => ?_, tracked ⟨oc, hoc, I.freeC x c hc⟩ hs, by simpa using I.len⟩ ⟨c, hs, .inr hc⟩
    · exact (hs.2 b (Nat.ne_of_lt (Nat.lt_of_lt_of_le (Heap.lt_size e) (I.ok.cab x c hfn hc)))).trans (I.base.keep b o e n hb hx)
    · obtain ⟨sl, e1⟩ := I.base.slot b o e n hb hx
      exact ⟨sl, (hs.2 b (Nat.ne_of_lt (Nat.lt_of_lt_of_le (Heap.lt_size e) (I.ok.cab x c hfn hc)))).trans e1⟩
    · obtain ⟨o', e1⟩ := I.base.there b o e hx
      exact ⟨o', (hs.2 b (Nat.ne_of_lt (Nat.lt_of_lt_of_le (Heap.lt_size e) (I.ok.cab x c hfn hc)))).trans e1⟩
    · by_cases hj : j = i
      · subst hj
        rw [hi] at e1; cases e1
        rw [List.getElem?_set_self hiσ] at e2
        cases e2
        exact ⟨u, r, .inr ⟨.inl hk, c, hc, hc'⟩⟩
      · rw [List.getElem?_set_ne (Ne.symm hj)] at e2
        obtain ⟨u', r', q⟩ := hl j y v' e1 e2 e3
        refine ⟨u', r', ?_⟩
        rcases q with q | ⟨k, c', e, z'⟩
        · exact .inl q
        · refine .inr ⟨k, c', e, z'.sameBut hs ?_⟩
          rintro rfl
          exact hj (nodup_ix hN e1 (I.ok.inj _ _ _ e hc ▸ hi))
    · by_cases hcc : c' = c
      · subst hcc; exact ⟨_, hc'⟩
      · obtain ⟨w2, z2⟩ := I.cell y c' e
        exact ⟨w2, z2.sameBut hs hcc⟩
    · obtain ⟨e, n, ne, nf, d⟩ := I.pin p hp
      refine ⟨(hs.2 p.1 ?_).trans e, n, ne, nf, d⟩
      intro q
      rw [q, hoc] at e
      have q' : oc = p.2 := Option.some.inj e
      exact d w' (by rw [← q']; exact hocd)
theorem store_ok {M : Model} {A : Around} {E : Value → Shared → Prop} {i : Nat} {x : Str} {v : V} {u : Value} {Q : Unit → Shared → Prop} (I : Inv X pins σ H s) (hN : X.N.Nodup) (hi : X.N[i]? = some x) (hx : Loc X.env.scope x) (r : RelV v u)
    (h : ∀ s', Inv X pins (σ.set i (some v)) H s' → Q () s') (hf : X.fn x = true ∨ X.env.scope.names.lookup x = some .local := by first | exact .inl rfl | exact .inr rfl | assumption) : wpAny M A (storeName X.env x u) Q E s :=
  store_ok2 I hN hi hx r (fun s' I' _ => h s' I') hf
/-- behind a call or a block, the state as it is -/
theorem Inv.call' {s' : Shared} {ch : List Addr} (I : Inv X pins σ H s) (ho : s'.os = s.os) (u : Un (frs X.stack) ch H H' s.heap s'.heap) (hok : HOk X.prog X.w H' s'.heap) (hg : AllBare s'.gens)
    (hch : ∀ b ∈ ch, (b ∈ X.ex ∨ X.s₀.heap.objs.size ≤ b) ∧ b ≠ X.env.locals ∧ (∀ x c, X.env.cells.lookup x = some c → c ≠ b) ∧ ∀ p ∈ X.pn ++ pins, p.1 ≠ b) : Inv X pins σ H' s' := by
  obtain ⟨h', g', d', t', o'⟩ := s'
  have e : o' = s.os := ho
  subst e
  exact I.call (g' := g') (t' := t') (d' := d') u hok hg hch
end

/-! ### the judgements -/
/-- an exception: its class, its own dict's address (where it has one), the abstract heap behind it -/
abbrev XK := Value → Option Addr → Hp → Prop
abbrev St := List (Option V)
abbrev VK := V → Hp → Prop
/-- an expression's reading; a test's; an argument list's -/
abbrev TE := St → Hp → VK → Prop
abbrev TT := St → Hp → (Bool → Hp → Prop) → Prop
abbrev TA := St → Hp → (List V → Hp → Prop) → Prop
/-- what is wanted behind a statement -/
structure Ends where
  nx : St → Hp → Prop
  rt : VK
  bk : St → Hp → Prop := fun _ _ => False
  ct : St → Hp → Prop := fun _ _ => False
abbrev TS := Ends → St → Hp → Prop

def EP (X : Cx) (pins : List (Addr × Obj)) (σ : St) (Q : VK) (u : Value) (s' : Shared) : Prop := ∃ v H', Inv X pins σ H' s' ∧ RelV v u ∧ Q v H'
def TP (X : Cx) (pins : List (Addr × Obj)) (σ : St) (Q : Bool → Hp → Prop) (b : Bool) (s' : Shared) : Prop := ∃ H', Inv X pins σ H' s' ∧ Q b H'
def AP (X : Cx) (pins : List (Addr × Obj)) (σ : St) (Q : List V → Hp → Prop) (us : List Value) (s' : Shared) : Prop := ∃ vs H', Inv X pins σ H' s' ∧ Vals vs us ∧ Q vs H'
def SP (X : Cx) (pins : List (Addr × Obj)) (D : Ends) (f : Flow) (s' : Shared) : Prop :=
  match f with
  | .next => ∃ σ' H', Inv X pins σ' H' s' ∧ D.nx σ' H'
  | .brk => ∃ σ' H', Inv X pins σ' H' s' ∧ D.bk σ' H'
  | .cont => ∃ σ' H', Inv X pins σ' H' s' ∧ D.ct σ' H'
  | .ret u => ∃ v σ' H', Inv X pins σ' H' s' ∧ RelV v u ∧ D.rt v H'

def PE (X : Cx) (e : Expr) (t : TE) : Prop :=
  ∀ (pins : List (Addr × Obj)) (s : Shared) (σ : St) (H : Hp) (Q : VK), Inv X pins σ H s → t σ H Q → wpAny (model X.prog X.w) X.A (eval e X.env) (EP X pins σ Q) X.xe s
def PT (X : Cx) (e : Expr) (t : TT) : Prop :=
  ∀ (pins : List (Addr × Obj)) (s : Shared) (σ : St) (H : Hp) (Q : Bool → Hp → Prop), Inv X pins σ H s → t σ H Q → wpAny (model X.prog X.w) X.A (isTrue e X.env (eval e X.env)) (TP X pins σ Q) X.xe s
/-- a test whatever its 'whole' is (and, or) -/
def PW (X : Cx) (e : Expr) (t : TT) : Prop :=
  ∀ (whole : Sem Value) (pins : List (Addr × Obj)) (s : Shared) (σ : St) (H : Hp) (Q : Bool → Hp → Prop), Inv X pins σ H s → t σ H Q → wpAny (model X.prog X.w) X.A (isTrue e X.env whole) (TP X pins σ Q) X.xe s
theorem PW.pt {X : Cx} {e : Expr} {t : TT} (h : PW X e t) : PT X e t := h _
/-- an argument list (no star), from the left -/
def PA (X : Cx) (es : List Expr) (t : TA) : Prop :=
  ∀ (pos : Pos) (pins : List (Addr × Obj)) (s : Shared) (σ : St) (H : Hp) (Q : List V → Hp → Prop), Inv X pins σ H s → t σ H Q → wpAny (model X.prog X.w) X.A (spliced (backTo pos (starEach es X.env))) (AP X pins σ Q) X.xe s
def PS (X : Cx) (st : Stmt) (t : TS) : Prop :=
  ∀ (pins : List (Addr × Obj)) (s : Shared) (σ : St) (H : Hp) (D : Ends), Inv X pins σ H s → t D σ H → wpAny (model X.prog X.w) X.A (exec st X.env) (SP X pins D) X.xe s
def PSs (X : Cx) (st : List Stmt) (t : TS) : Prop :=
  ∀ (pins : List (Addr × Obj)) (s : Shared) (σ : St) (H : Hp) (D : Ends), Inv X pins σ H s → t D σ H → wpAny (model X.prog X.w) X.A (execs st X.env) (SP X pins D) X.xe s
/-- weaken the end -/
theorem thn {α : Type} {t : Sem α} {Q Q' : α → Shared → Prop} {M : Model} {A : Around} {E : Value → Shared → Prop} {s : Shared} (h : wpAny M A t Q E s) (hQ : ∀ a s, Q a s → Q' a s) : wpAny M A t Q' E s := wpAny_mono h hQ fun _ _ x => x
end L2

namespace L2
open PySem PySem.Spec PyProof.Rows
section
variable {X : Cx}

/-! ### names and constants -/
def tVar (i : Nat) : TE := fun σ H Q => ∃ v, σ[i]? = some (some v) ∧ Q v H
def tC (v : V) : TE := fun _ H Q => Q v H
theorem pe_var {i : Nat} {x : Str} {pos : Pos} (hN : X.N[i]? = some x) (hv : Vis X.env.scope x) (hd : (x == ("__debug__" : Str)) = false := by decide) (hcd : (x == ("__classdict__" : Str)) = false := by decide) : PE X (.Name x pos) (tVar i) := by
  intro pins s σ H Q I h
  obtain ⟨v, e, h⟩ := h
  obtain ⟨m, hn, hl⟩ := I.loc
  obtain ⟨u, r, l⟩ := hl i x v hN e hv
  have fin : EP X pins σ Q u s := ⟨v, H, I, r, h⟩
  rcases l with ⟨hk, hm⟩ | ⟨hk, c, hc, hcell⟩
  · exact wpAny_Name (wpAny_loadName_local I.ok.kind hk hn hm fin) hd
  · rcases hk with hk | hk
    · exact wpAny_Name (wpAny_loadName_cell I.ok.kind hk hc hcell fin) hd
    · exact wpAny_Name (wpAny_loadName_free I.ok.kind hk hc hcell fin hcd) hd
theorem pe_int {i j pos} : PE X (.Constant (.int i) j pos) (tC (.int i)) := fun _ _ _ H _ I h => wpAny_Constant_int ⟨.int i, H, I.tok _, ⟨_, rfl⟩, h⟩
theorem pe_bl {b j pos} : PE X (.Constant (.bool b) j pos) (tC (.bl b)) := fun _ _ _ H _ I h => Constant_bool ⟨.bl b, H, I, rfl, h⟩
theorem pe_non {j pos} : PE X (.Constant .none j pos) (tC .non) := fun _ _ _ H _ I h => Constant_none ⟨.non, H, I, rfl, h⟩
theorem pe_str {x j pos} : PE X (.Constant (.str x) j pos) (tC (.str x)) := fun _ _ _ H _ I h => Calls.Constant_str ⟨.str x, H, I.tok _, ⟨_, rfl⟩, h⟩

/-- a global name of the def -/
def Gl (X : Cx) (x : Str) : Prop := X.env.kindOf x = some .globalImplicit
theorem ld_glob {E : Value → Shared → Prop} {pins : List (Addr × Obj)} {s : Shared} {σ : St} {H : Hp} {x : Str} {u : Value} {pos : Pos} {Q : Value → Shared → Prop} (I : Inv X pins σ H s) (hg : Gl X x) (hm : X.mg x = some u) (h : Q u s)
    (hd : (x == ("__debug__" : Str)) = false := by decide) : wpAny (model X.prog X.w) X.A (eval (.Name x pos) X.env) Q E s :=
  Calls.Name_function_global I.ok.kind hg (Calls.loadGlobal_global (by rw [I.ok.glob]; exact I.mod.glob.keeps I.bk) hm h) hd
theorem ld_blt {E : Value → Shared → Prop} {pins : List (Addr × Obj)} {s : Shared} {σ : St} {H : Hp} {x : Str} {u : Value} {pos : Pos} {Q : Value → Shared → Prop} (I : Inv X pins σ H s) (hg : Gl X x) (hm : X.mg x = none) (hv : bootBuiltins x = some u) (h : Q u s)
    (hn : x ≠ "__name__" := by decide) (hd : (x == ("__debug__" : Str)) = false := by decide) : wpAny (model X.prog X.w) X.A (eval (.Name x pos) X.env) Q E s := by
  obtain ⟨mb, h1, h2⟩ := I.mod.blt
  exact Calls.Name_function_global I.ok.kind hg (Calls.loadGlobal_builtin (by rw [I.ok.glob]; exact I.mod.glob.keeps I.bk) hm (by rw [I.ok.blt]; exact h1.keeps I.bk) ((h2 x hn).trans hv) h) hd
/-- a module's constant, a class, a function, as a value -/
theorem pe_glob {x : Str} {v : V} {u : Value} {pos : Pos} (hg : Gl X x) (hm : X.mg x = some u) (r : RelV v u) (hd : (x == ("__debug__" : Str)) = false := by decide) : PE X (.Name x pos) (tC v) :=
  fun _ _ _ H _ I h => ld_glob I hg hm ⟨v, H, I, r, h⟩ hd
theorem pe_bltn {x : Str} {v : V} {u : Value} {pos : Pos} (hg : Gl X x) (hm : X.mg x = none) (hv : bootBuiltins x = some u) (r : RelV v u) (hn : x ≠ "__name__" := by decide) (hd : (x == ("__debug__" : Str)) = false := by decide) : PE X (.Name x pos) (tC v) :=
  fun _ _ _ H _ I h => ld_blt I hg hm hv ⟨v, H, I, r, h⟩ hn hd

/-! ### arithmetic -/
variable {a b : Expr} {ta tb : TE} {pos : Pos}
/-! ### comparisons -/
/-- a comparison as a value, as a test -/
def tB (t : TE) : TT := fun σ H Q => t σ H fun x H1 => ∃ c, x = .bl c ∧ Q c H1
/-- an expression whose value is a bool, as a test -/
theorem pt_val {e : Expr} {t : TE} (h : PE X e t) (he : ∀ whole, isTrue e X.env whole = (do let v ← whole; standAt e.pos; holding [v] (truthy v)) := by intro _; rfl) : PT X e (tB t) := by
  intro pins s σ H Q I hw
  refine isTrue_plain (thn (h pins s σ H _ I hw) fun v s1 ⟨x, H1, I1, r1, q1⟩ => ?_) (he _)
  obtain ⟨d, rfl, q⟩ := q1
  cases r1
  exact wpAny_truthy_bool ⟨H1, I1, q⟩

/-! ### and, or, not -/
variable {tA tB' : TT} {rest : List Expr}
def tAnd (t u : TT) : TT := fun σ H Q => t σ H fun c H1 => if c = true then u σ H1 Q else Q false H1
def tOr (t u : TT) : TT := fun σ H Q => t σ H fun c H1 => if c = true then Q true H1 else u σ H1 Q
def tNot (t : TT) : TT := fun σ H Q => t σ H fun c H1 => Q (!c) H1
theorem pw_and1 (ha : PT X a tA) : PW X (.BoolOp .And [a] pos) tA := by
  intro wh pins s σ H Q I h
  refine isTrue_and (thn (ha pins s σ H Q I h) fun c s1 e => ?_)
  cases c with
  | true => exact isTrue_and_nil e
  | false => exact e
theorem pw_or1 (ha : PT X a tA) : PW X (.BoolOp .Or [a] pos) tA := by
  intro wh pins s σ H Q I h
  refine isTrue_or (thn (ha pins s σ H Q I h) fun c s1 e => ?_)
  cases c with
  | false => exact isTrue_or_nil e
  | true => exact e
theorem pw_and (ha : PT X a tA) (hb : PW X (.BoolOp .And (b :: rest) pos) tB') : PW X (.BoolOp .And (a :: b :: rest) pos) (tAnd tA tB') := by
  intro wh pins s σ H Q I h
  refine isTrue_and (thn (ha pins s σ H _ I h) fun c s1 ⟨H1, I1, q1⟩ => ?_)
  cases c with
  | true => exact hb wh pins s1 σ H1 Q I1 q1
  | false => exact ⟨H1, I1, q1⟩
theorem pw_or (ha : PT X a tA) (hb : PW X (.BoolOp .Or (b :: rest) pos) tB') : PW X (.BoolOp .Or (a :: b :: rest) pos) (tOr tA tB') := by
  intro wh pins s σ H Q I h
  refine isTrue_or (thn (ha pins s σ H _ I h) fun c s1 ⟨H1, I1, q1⟩ => ?_)
  cases c with
  | true => exact ⟨H1, I1, q1⟩
  | false => exact hb wh pins s1 σ H1 Q I1 q1
theorem pt_not (ha : PT X a tA) : PT X (.UnaryOp .Not a pos) (tNot tA) := by
  intro pins s σ H Q I h
  exact isTrue_not (ha pins s σ H (fun c H1 => Q (!c) H1) I h)
/-- .. as values (bools) -/
def tAndV (ta tb : TE) : TE := fun σ H Q => ta σ H fun x H1 => ∃ c, x = .bl c ∧ if c = true then tb σ H1 Q else Q (.bl false) H1
def tOrV (ta tb : TE) : TE := fun σ H Q => ta σ H fun x H1 => ∃ c, x = .bl c ∧ if c = true then Q (.bl true) H1 else tb σ H1 Q
def tNotV (ta : TE) : TE := fun σ H Q => ta σ H fun x H1 => ∃ c, x = .bl c ∧ Q (.bl (!c)) H1
theorem pe_one {op} {t : TE} (h : PE X a t) : PE X (.BoolOp op [a] pos) t := fun pins s σ H Q I hw => BoolOp_one (h pins s σ H Q I hw)
theorem pe_and (ha : PE X a ta) (hb : PE X (.BoolOp .And (b :: rest) pos) tb) : PE X (.BoolOp .And (a :: b :: rest) pos) (tAndV ta tb) := by
  intro pins s σ H Q I h
  refine BoolOp_and (thn (ha pins s σ H _ I h) fun v s1 ⟨x, H1, I1, r1, q1⟩ => ?_)
  obtain ⟨c, rfl, q1⟩ := q1
  cases r1
  refine wpAny_truthy_bool ?_
  cases c with
  | true => exact hb pins s1 σ H1 Q I1 q1
  | false => exact ⟨.bl false, H1, I1, rfl, q1⟩
theorem pe_or (ha : PE X a ta) (hb : PE X (.BoolOp .Or (b :: rest) pos) tb) : PE X (.BoolOp .Or (a :: b :: rest) pos) (tOrV ta tb) := by
  intro pins s σ H Q I h
  refine BoolOp_or (thn (ha pins s σ H _ I h) fun v s1 ⟨x, H1, I1, r1, q1⟩ => ?_)
  obtain ⟨c, rfl, q1⟩ := q1
  cases r1
  refine wpAny_truthy_bool ?_
  cases c with
  | false => exact hb pins s1 σ H1 Q I1 q1
  | true => exact ⟨.bl true, H1, I1, rfl, q1⟩
theorem pe_not (ha : PE X a ta) : PE X (.UnaryOp .Not a pos) (tNotV ta) := by
  intro pins s σ H Q I h
  refine UnaryOp_ (thn (ha pins s σ H _ I h) fun v s1 ⟨x, H1, I1, r1, q1⟩ => ?_)
  obtain ⟨c, rfl, q1⟩ := q1
  cases r1
  exact not_of (wpAny_truthy_bool ⟨.bl (!c), H1, I1, rfl, q1⟩)
end
end L2

namespace L2
open PySem PySem.Spec PyProof.Rows

/-! ### a list, a tuple that is read: tracked, frozen, or an object of the module -/
def SqL (K : PySem.W.Frag) (H : Hp) (a : Addr) (xs : List V) : Prop :=
  Rd H a (.lst xs) ∨
    ∃ (o : Obj) (its : Array Value) (n : Nat), K.lookup a = some o ∧ o.cls = .type "list" ∧ o.dict = none ∧ o.data = .seq its n ∧ its.size ≤ sizeLine ∧ Vals xs its.toList
def SqT (K : PySem.W.Frag) (H : Hp) (a : Addr) (xs : List V) : Prop :=
  Rd H a (.tup xs) ∨
    ∃ (o : Obj) (its : Array Value) (n : Nat), K.lookup a = some o ∧ o.cls = .type "tuple" ∧ o.data = .seq its n ∧ its.size ≤ sizeLine ∧ Vals xs its.toList
def absV : Value → Option V
  | .none => some .non
  | .bool b => some (.bl b)
  | .int i _ => some (.int i)
  | .str x _ => some (.str x)
  | .bytes b _ => some (.byt b)
  | .float b _ => some (.flt b)
  | .ref a => some (.ref a)
  | .type n => some (.ty n)
  | _ => none
theorem RelV.abs {x : V} {u : Value} (r : RelV x u) : absV u = some x := by
  cases x with
  | non => cases r; rfl
  | bl _ => cases r; rfl
  | int _ => obtain ⟨t, rfl⟩ := r; rfl
  | str _ => obtain ⟨t, rfl⟩ := r; rfl
  | byt _ => obtain ⟨t, rfl⟩ := r; rfl
  | flt _ => obtain ⟨t, rfl⟩ := r; rfl
  | ref _ => cases r; rfl
  | ty _ => cases r; rfl
theorem RelV.inj {x y : V} {u : Value} (r : RelV x u) (q : RelV y u) : x = y := Option.some.inj (r.abs.symm.trans q.abs)
theorem Vals.inj : ∀ {xs ys : List V} {us : List Value}, Vals xs us → Vals ys us → xs = ys
  | _, _, _, .nil, .nil => rfl
  | _, _, _, .cons r t, .cons r' t' => by rw [r.inj r', Vals.inj t t']
section
variable {X : Cx} {pins : List (Addr × Obj)} {σ : St} {H : Hp} {s : Shared} {a : Addr} {xs ys : List V}
theorem SqL.of {K : PySem.W.Frag} (h : H a = some (.lst xs)) : SqL K H a xs := .inl (.inl h)
theorem SqT.of {K : PySem.W.Frag} (h : H a = some (.tup xs)) : SqT K H a xs := .inl (.inl h)
theorem Inv.list (I : Inv X pins σ H s) (h : SqL X.K H a xs) : ∃ its : List Value, Vals xs its ∧ PlainL s.heap a its.toArray ∧ xs.length ≤ sizeLine := by
  rcases h with h | ⟨o, its, n, hk, hc, hd, hs, hz, r⟩
  · obtain ⟨z, its, n, r, e⟩ := h.ok I.hok
    exact ⟨its, r, ⟨_, n, e, rfl, rfl, rfl⟩, z⟩
  · refine ⟨its.toList, r, ⟨o, n, I.kIn a o hk, hc, hd, by simpa using hs⟩, ?_⟩
    have e := r.length
    simp only [Array.length_toList] at e
    lia
theorem Inv.tuple (I : Inv X pins σ H s) (h : SqT X.K H a xs) : ∃ its : List Value, Vals xs its ∧ IsTup s.heap a its.toArray ∧ xs.length ≤ sizeLine := by
  rcases h with h | ⟨o, its, n, hk, hc, hs, hz, r⟩
  · obtain ⟨z, its, r, p⟩ := h.ok I.hok
    exact ⟨its, r, p, z⟩
  · refine ⟨its.toList, r, ⟨o, I.kIn a o hk, hc, n, by simpa using hs⟩, ?_⟩
    have e := r.length
    simp only [Array.length_toList] at e
    lia
theorem Inv.tuple_inj (I : Inv X pins σ H s) (h : SqT X.K H a xs) (h' : SqT X.K H a ys) : xs = ys := by
  obtain ⟨its, r, ⟨o, e, _, n, d⟩, _⟩ := I.tuple h
  obtain ⟨its', r', ⟨o', e', _, n', d'⟩, _⟩ := I.tuple h'
  rw [e] at e'; cases e'
  rw [d] at d'
  injection d' with d1 _
  have : its = its' := by simpa using congrArg Array.toList d1
  subst this
  exact r.inj r'
end

/-! ### another wish about exceptions -/
abbrev Cx.wish (X : Cx) (E : Value → Shared → Prop) : Cx := { X with xe := E }
/-- no exception leaves -/
abbrev Cx.nox (X : Cx) : Cx := X.wish fun _ _ => False
theorem Cx.Ok.wish {X : Cx} (ok : X.Ok) (E : Value → Shared → Prop) : (X.wish E).Ok :=
  ⟨ok.mod, ok.kind, ok.glob, ok.blt, ok.above, ok.inj, ok.has, ok.cab, ok.hd, ok.frames, ok.stk, ok.exf, ok.bs, ok.bsz, ok.noex, ok.exfs, ok.funs, ok.frf⟩
theorem Cx.Ok.unwish {X : Cx} {E : Value → Shared → Prop} (ok : (X.wish E).Ok) : X.Ok :=
  ⟨ok.mod, ok.kind, ok.glob, ok.blt, ok.above, ok.inj, ok.has, ok.cab, ok.hd, ok.frames, ok.stk, ok.exf, ok.bs, ok.bsz, ok.noex, ok.exfs, ok.funs, ok.frf⟩
section
variable {X : Cx} {pins : List (Addr × Obj)} {σ : St} {H : Hp} {s : Shared} {E : Value → Shared → Prop}
theorem Inv.wish (I : Inv X pins σ H s) (E : Value → Shared → Prop) : Inv (X.wish E) pins σ H s := ⟨I.ok.wish E, I.os, I.bare, I.base, I.loc, I.cell, I.free, I.freeC, I.pin, I.hok, I.len⟩
theorem Inv.unwish (I : Inv (X.wish E) pins σ H s) : Inv X pins σ H s := ⟨I.ok.unwish, I.os, I.bare, I.base, I.loc, I.cell, I.free, I.freeC, I.pin, I.hok, I.len⟩
theorem SP.unwish {D : Ends} {f : Flow} {s' : Shared} (h : SP (X.wish E) pins D f s') : SP X pins D f s' := by
  cases f with
  | next => obtain ⟨σ', H', I, q⟩ := h; exact ⟨σ', H', I.unwish, q⟩
  | brk => obtain ⟨σ', H', I, q⟩ := h; exact ⟨σ', H', I.unwish, q⟩
  | cont => obtain ⟨σ', H', I, q⟩ := h; exact ⟨σ', H', I.unwish, q⟩
  | ret u => obtain ⟨v, σ', H', I, r, q⟩ := h; exact ⟨v, σ', H', I.unwish, r, q⟩
theorem PSs.nox {st : List Stmt} {t : TS} (h : PSs X.nox st t) : PSs X st t := fun pins s σ H D I hw =>
  wpAny_mono (h pins s σ H D (I.wish _) hw) (fun _ _ q => q.unwish) fun _ _ z => False.elim z
end

/-! ### blocks and small statements -/
section
variable {X : Cx} {st : Stmt} {rest : List Stmt} {t u : TS} {e : Expr} {te : TE} {pos : Pos}
def tNext : TS := fun D σ H => D.nx σ H
def tSeq (t u : TS) : TS := fun D σ H => t { D with nx := u D } σ H
theorem pss_nil : PSs X [] tNext := fun _ _ σ H _ I h => wpAny_execs_nil ⟨σ, H, I, h⟩
theorem pss_cons (h1 : PS X st t) (h2 : PSs X rest u) : PSs X (st :: rest) (tSeq t u) := by
  intro pins s σ H D I h
  refine wpAny_execs_cons (thn (h1 pins s σ H { D with nx := u D } I h) fun f s1 q => ?_)
  cases f with
  | next =>
    obtain ⟨σ', H', I', q⟩ := q
    exact h2 pins s1 σ' H' D I' q
  | ret v => exact q
  | brk => exact q
  | cont => exact q
theorem pss_one (h1 : PS X st t) : PSs X [st] t := by
  intro pins s σ H D I h
  refine wpAny_execs_cons (thn (h1 pins s σ H D I h) fun f s1 q => ?_)
  cases f with
  | next => exact wpAny_execs_nil q
  | ret v => exact q
  | brk => exact q
  | cont => exact q
/-- in a def's body nothing is shown -/
theorem Inv.quiet {pins : List (Addr × Obj)} {σ : St} {H : Hp} {s : Shared} (I : Inv X pins σ H s) : interactive X.env = false := by simp [interactive, I.ok.kind]
/-- an expression whose value is dropped -/
def tDrop (te : TE) : TS := fun D σ H => te σ H fun _ H1 => D.nx σ H1
theorem ps_expr (he : PE X e te) (hs : swapsWith e none pos.line X.env = pure false := by rfl) : PS X (.Expr e pos) (tDrop te) := by
  intro pins s σ H D I h
  exact wpAny_Expr_any (thn (he pins s σ H _ I h) fun v s1 ⟨x, H1, I1, r1, q1⟩ => ⟨σ, H1, I1, q1⟩) I.quiet hs
def tRet (te : TE) : TS := fun D σ H => te σ H D.rt
theorem ps_ret (he : PE X e te) : PS X (.Return (some e) pos) (tRet te) := by
  intro pins s σ H D I h
  exact wpAny_Return_some (thn (he pins s σ H _ I h) fun v s1 ⟨x, H1, I1, r1, q1⟩ => ⟨x, σ, H1, I1, r1, q1⟩)
def tIfS (c : TT) (t u : TS) : TS := fun D σ H => c σ H fun b H1 => if b = true then t D σ H1 else u D σ H1
theorem ps_if {c : Expr} {a b : List Stmt} {tc : TT} (hc : PT X c tc) (ha : PSs X a t) (hb : PSs X b u) : PS X (.If c a b pos) (tIfS tc t u) := by
  intro pins s σ H D I h
  refine wpAny_If (thn (hc pins s σ H _ I h) fun d s1 ⟨H1, I1, q1⟩ => ?_)
  cases d with
  | true => exact ha pins s1 σ H1 D I1 q1
  | false => exact hb pins s1 σ H1 D I1 q1
/-- code that the proof never comes to -/
def tNever : TS := fun _ _ _ => False
theorem ps_never : PS X st tNever := fun _ _ _ _ _ _ h => h.elim
end

/-! ### targets -/
abbrev TG := V → St → Hp → (St → Hp → Prop) → Prop
def PG (X : Cx) (target : Expr) (t : TG) : Prop :=
  ∀ (pins : List (Addr × Obj)) (s : Shared) (σ : St) (H : Hp) (v : V) (u : Value) (Q : St → Hp → Prop), Inv X pins σ H s → RelV v u → t v σ H Q →
    wpAny (model X.prog X.w) X.A (assign target X.env u) (fun _ s' => ∃ σ' H', Inv X pins σ' H' s' ∧ Q σ' H') X.xe s
/-- o[i] = v, by values -/
abbrev TSet := V → V → V → Hp → (Hp → Prop) → Prop
def PSet (X : Cx) (t : TSet) : Prop :=
  ∀ (pins : List (Addr × Obj)) (s : Shared) (σ : St) (H : Hp) (o i v : V) (ov iv u : Value) (Q : Hp → Prop), Inv X pins σ H s → RelV o ov → RelV i iv → RelV v u → t o i v H Q →
    wpAny (model X.prog X.w) X.A (setItem ov iv u) (fun _ s' => ∃ H', Inv X pins σ H' s' ∧ Q H') X.xe s
section
variable {X : Cx} {pos : Pos}
def gName (i : Nat) : TG := fun v σ H Q => Q (σ.set i (some v)) H
theorem pg_name {i : Nat} {x : Str} (hN : X.N.Nodup) (hi : X.N[i]? = some x) (hx : Loc X.env.scope x) (hf : X.fn x = true ∨ X.env.scope.names.lookup x = some .local := by first | exact .inl rfl | exact .inr rfl | assumption) : PG X (.Name x pos) (gName i) := by
  intro pins s σ H v u Q I r h
  exact wpAny_assign_Name (store_ok I hN hi hx r (fun s' I' => ⟨_, H, I', h⟩) hf)
/-- o[i] = .. -/
def gSub (to ti : TE) (t : TSet) : TG := fun v σ H Q => to σ H fun o H1 => ti σ H1 fun i H2 => t o i v H2 fun H3 => Q σ H3
theorem pg_sub {o i : Expr} {to ti : TE} {t : TSet} (ho : PE X o to) (hi : PE X i ti) (hs : PSet X t)
    (ha : ∀ v, assign (.Subscript o i pos) X.env v = (do
      let ov ← holding [v] (eval o X.env)
      let iv ← holding [v, ov] (eval i X.env)
      standAt pos
      holding [v, ov, iv] (setItem ov iv v)
      release [v, ov, iv] []) := by intro _; rfl) : PG X (.Subscript o i pos) (gSub to ti t) := by
  intro pins s σ H v u Q I r h
  rw [ha]
  refine wpAny_bind (wpAny_holding (thn (ho pins s σ H _ I h) fun ov s1 ⟨x, H1, I1, r1, q1⟩ => ?_))
  refine wpAny_bind (wpAny_holding (thn (hi pins s1 σ H1 _ I1 q1) fun iv s2 ⟨y, H2, I2, r2, q2⟩ => ?_))
  refine wpAny_bind (wpAny_standAt (wpAny_bind (wpAny_holding (thn (hs pins s2 σ H2 x y v ov iv u _ I2 r1 r2 r q2) fun _ s3 ⟨H3, I3, q3⟩ => ?_))))
  exact wpAny_release ⟨σ, H3, I3, q3⟩
/-- target = value -/
def tAsg (te : TE) (g : TG) : TS := fun D σ H => te σ H fun x H1 => g x σ H1 D.nx
theorem ps_asg {tg e : Expr} {te : TE} {g : TG} (he : PE X e te) (hg : PG X tg g) (hs : swapsWithSole [tg] e pos.line X.env = pure false := by rfl) (hw : swappedStores [tg] e X.env = pure none := by rfl)
    (h1 : (assignEach [tg] X.env).map (·.2) = [assign tg X.env] := by rfl) : PS X (.Assign [tg] e pos) (tAsg te g) := by
  intro pins s σ H D I h
  refine wpAny_Assign_stores (thn (he pins s σ H _ I h) fun v s1 ⟨x, H1, I1, r1, q1⟩ => ?_) hs hw
  rw [h1]
  exact thn (hg pins s1 σ H1 x v _ I1 r1 q1) fun _ s2 q => q
/-- name = value -/
theorem ps_set {i : Nat} {x : Str} {e : Expr} {te : TE} {pos' : Pos} (hN : X.N.Nodup) (hi : X.N[i]? = some x) (hx : Loc X.env.scope x) (he : PE X e te) (hs : swapsWith e (some (.Name x pos')) pos.line X.env = pure false := by rfl) (hf : X.fn x = true ∨ X.env.scope.names.lookup x = some .local := by first | exact .inl rfl | exact .inr rfl | assumption) :
    PS X (.Assign [.Name x pos'] e pos) (tAsg te (gName i)) := by
  intro pins s σ H D I h
  refine wpAny_Assign_Name (thn (he pins s σ H _ I h) fun v s1 ⟨y, H1, I1, r1, q1⟩ => ?_) hs
  exact store_ok I1 hN hi hx r1 (fun s2 I2 => ⟨_, H1, I2, q1⟩) hf
end

/-! ### while -/
section
variable {X : Cx} {pos : Pos}
end

/-! ### what a loop or a comprehension walks -/
/-- at turn i: it yields x (the heap may grow), or it stops -/
structure It where
  go : Nat → Hp → Prop
  yld : Nat → Hp → V → Hp → Prop
  stop : Nat → Hp → Prop
/-- the iterator's own objects may turn: they are not the frame's, not pinned, younger than the entry (or a comprehension's own) -/
def FpOk (X : Cx) (pins : List (Addr × Obj)) (H : Hp) (b : Addr) : Prop :=
  H b = none ∧ b ≠ X.env.locals ∧ b ∉ X.fs ∧ (b ∈ X.ex ∨ X.s₀.heap.objs.size ≤ b) ∧ (∀ x c, X.env.cells.lookup x = some c → c ≠ b) ∧ ∀ p ∈ X.pn ++ pins, p.1 ≠ b
theorem Inv.fpOk {X : Cx} {pins : List (Addr × Obj)} {σ : St} {H H' : Hp} {s : Shared} {b : Addr} (I : Inv X pins σ H s) (hb : s.heap.objs.size ≤ b) (hn : H' b = none) : FpOk X pins H' b := by
  refine ⟨hn, Nat.ne_of_gt (Nat.lt_of_lt_of_le I.lt hb), I.nofs hb, .inr (Nat.le_trans I.sz hb), fun x c e z => ?_, fun p hp z => ?_⟩
  · obtain ⟨v, q⟩ := I.cell x c e
    exact absurd (Nat.lt_of_lt_of_le q.lt (by rw [z]; exact hb)) (Nat.lt_irrefl _)
  · exact absurd (Nat.lt_of_lt_of_le (Heap.lt_size (I.pin p hp).1) (by rw [z]; exact hb)) (Nat.lt_irrefl _)
structure Turn (P : Program) (w : World) (K : PySem.W.Frag) (tg : Expr) (J : It) (fp : List Addr) (it : Addr) (tn : Nat → Heap → Prop) : Prop where
  mem : it ∈ fp
  obj : ∀ i h, tn i h → ∀ b ∈ fp, ∃ o, h.get? b = some o ∧ ∀ v, o.data ≠ .cell v
  keep : ∀ i h h', tn i h → (∀ b ∈ fp, ∀ o, h.get? b = some o → h'.get? b = some o) → tn i h'
  item : ∀ (X : Cx), X.prog = P → X.w = w → X.K = K → X.calm = true → ∀ (i : Nat) (pins : List (Addr × Obj)) (s : Shared) (σ : St) (H : Hp) (E : Value → Shared → Prop), Inv X pins σ H s → (∀ b ∈ fp, FpOk X pins H b) → tn i s.heap → J.go i H →
    wpAny (model P w) X.A (pyNext (.ref it)) (fun r s1 => ∃ u, r = some u ∧
      wpAny (model P w) X.A (letOwnedTupleGo tg (.ref it) u) (fun _ s2 => ∃ x H', Inv X pins σ H' s2 ∧ RelV x u ∧ J.yld i H x H' ∧ tn (i + 1) s2.heap ∧ ∀ b ∈ fp, H' b = none) E s1) E s
  done : ∀ (X : Cx), X.prog = P → X.w = w → X.K = K → X.calm = true → ∀ (i : Nat) (pins : List (Addr × Obj)) (s : Shared) (σ : St) (H : Hp) (E : Value → Shared → Prop), Inv X pins σ H s → (∀ b ∈ fp, FpOk X pins H b) → tn i s.heap → J.stop i H →
    wpAny (model P w) X.A (pyNext (.ref it)) (fun r s1 => r = none ∧ Inv X pins σ H s1) E s
  self : ∀ (A : Around) (i : Nat) (s : Shared) (Q : Value → Shared → Prop) (E : Value → Shared → Prop), tn i s.heap → Q (.ref it) s → wpAny (model P w) A (pyIter (.ref it)) Q E s
abbrev TI := St → Hp → (It → Hp → Prop) → Prop
/-- an iterator has come -/
def PIE (X : Cx) (pins : List (Addr × Obj)) (σ : St) (tg : Expr) (R : It → Hp → Prop) (itv : Value) (s2 : Shared) : Prop :=
  ∃ (it : Addr) (fp : List Addr) (tn : Nat → Heap → Prop) (J : It) (H' : Hp), itv = .ref it ∧ Inv X pins σ H' s2 ∧ Turn X.prog X.w X.K tg J fp it tn ∧ tn 0 s2.heap ∧ (∀ b ∈ fp, FpOk X pins H' b) ∧ R J H'
def PI (X : Cx) (tg iter : Expr) (wi : TI) : Prop :=
  ∀ (pins : List (Addr × Obj)) (s : Shared) (σ : St) (H : Hp) (R : It → Hp → Prop), Inv X pins σ H s → wi σ H R →
    wpAny (model X.prog X.w) X.A (eval iter X.env) (fun v s1 => wpAny (model X.prog X.w) X.A (pyIter v) (PIE X pins σ tg R) X.xe s1) X.xe s

/-- the step ahead of the store is nothing for an iterator that keeps no tuple -/
theorem go_of {M : Model} {A : Around} {E : Value → Shared → Prop} {s : Shared} {tg : Expr} {it : Addr} {u : Value} {o : Obj} {n : String} {vs : Array Value} {Q : Unit → Shared → Prop} (ho : s.heap.get? it = some o) (hc : o.cls = .type n) (hd : o.data = .fields vs)
    (hn : ["enumerate", "zip", "dict_itemiterator", "dict_reverseitemiterator", "odict_iterator", "itertools.zip_longest", "itertools.pairwise"].contains n = false) (hQ : Q () s) : wpAny M A (letOwnedTupleGo tg (.ref it) u) Q E s := by
  unfold letOwnedTupleGo
  cases tg <;> first
    | exact wpAny_pure hQ
    | (cases u <;> first
        | exact wpAny_pure hQ
        | (refine wpAny_bind (wpAny_load ho ?_)
           rw [hc, hd]
           show wpAny M A (if (["enumerate", "zip", "dict_itemiterator", "dict_reverseitemiterator", "odict_iterator", "itertools.zip_longest", "itertools.pairwise"].contains n && vs[0]? == some (rawInt _)) = true then _ else _) Q E s
           rw [if_neg (by intro h; rw [hn, Bool.false_and] at h; cases h)]
           exact wpAny_pure hQ))

def Itt (K : PySem.W.Frag) (a : Addr) : It :=
  ⟨fun i H => ∃ xs x, SqT K H a xs ∧ xs[i]? = some x, fun i H x H' => H' = H ∧ ∀ xs, SqT K H a xs → xs[i]? = some x, fun i H => ∃ xs, SqT K H a xs ∧ xs.length ≤ i⟩
/-- lo, lo + 1, .. (n of them) -/
def Itr (lo : Int) (n : Nat) : It := ⟨fun i _ => i < n, fun i H x H' => H' = H ∧ x = .int (lo + i), fun i _ => n ≤ i⟩
theorem turn_tuple {P : Program} {w : World} {K : PySem.W.Frag} {tg : Expr} (a it : Addr) : Turn P w K tg (Itt K a) [it] it (fun i h => h.IsTupleIter it a i) where
  mem := by simp
  obj := fun i h st b hb => by
    have e : b = it := by simpa using hb
    subst e
    obtain ⟨o, e, c, d⟩ := st
    exact ⟨o, e, fun v z => by rw [d] at z; cases z⟩
  keep := fun i h h' st k => st.at fun o e => k it (by simp) o e
  item := by
    intro X hP hw hK hc i pins s σ H E I hf st hg
    subst hP hw hK
    obtain ⟨xs, x, hq, hx⟩ := hg
    obtain ⟨its, rv, p, hz⟩ := I.tuple hq
    obtain ⟨u, hu, ru⟩ := rv.get hx
    obtain ⟨f0, f1, f2, f3, f4, f5⟩ := hf it (by simp)
    refine wpAny_pyNext_tuple_item st (show s.heap.IsTuple a its.toArray from p) (x := u) (by simpa using hu) fun h' st' sb => ?_
    have I1 : Inv X pins σ H { s with heap := h' } := I.turned (t' := s.toks) (fun b o hb e => (sb.2 b hb).trans e) f0 f1 f3 f4 f5
    obtain ⟨o, e, c, d⟩ := id st'
    exact ⟨u, rfl, go_of (s := { s with heap := h' }) e c d (by decide) ⟨x, H, I1, ru, ⟨rfl, fun ys hy => by rw [I.tuple_inj hy hq]; exact hx⟩, st', fun b hb => (hf b hb).1⟩⟩
  done := by
    intro X hP hw hK hc i pins s σ H E I hf st hg
    subst hP hw hK
    obtain ⟨xs, hq, hx⟩ := hg
    obtain ⟨its, rv, p, hz⟩ := I.tuple hq
    obtain ⟨f0, f1, f2, f3, f4, f5⟩ := hf it (by simp)
    have hl := rv.length
    exact wpAny_pyNext_tuple_end (I.ok.hd hc) st (show s.heap.IsTuple a its.toArray from p) (by simp; lia) fun h' eb => ⟨rfl, I.turned (t' := s.toks) (fun b o hb e => eb b o hb e) f0 f1 f3 f4 f5⟩
  self := fun _ _ _ _ _ st h => wpAny_pyIter_tupleiter st h
theorem turn_range {P : Program} {w : World} {K : PySem.W.Frag} {tg : Expr} (it : Addr) (lo : Int) (n : Nat) : Turn P w K tg (Itr lo n) [it] it (fun i h => IsRangeIter h it (lo + (i : Nat) * 1) ((n : Int) - (i : Nat)) 1) where
  mem := by simp
  obj := fun i h st b hb => by
    have e : b = it := by simpa using hb
    subst e
    exact ⟨_, st, fun v z => by
      have z' : Data.fields _ = Data.cell v := z
      cases z'⟩
  keep := fun i h h' st k => k it (by simp) _ st
  item := by
    intro X hP hw hK hc i pins s σ H E I hf st hg
    subst hP hw hK
    obtain ⟨f0, f1, f2, f3, f4, f5⟩ := hf it (by simp)
    have W := Walks.range (prog := X.prog) (w := X.w) (I.ok.hd hc) it lo 1 n
    refine W.item i s _ _ hg st fun v h' tk hv st' kk => ?_
    obtain ⟨t, rfl⟩ := hv
    have I1 : Inv X pins σ H { s with heap := h', toks := tk } := I.turned (fun b o hb e => kk b o (by simpa using hb) e) f0 f1 f3 f4 f5
    refine ⟨_, rfl, go_of (s := { s with heap := h', toks := tk }) (n := "range_iterator") st' rfl rfl (by decide) ⟨.int (lo + i), H, I1, ⟨t, ?_⟩, ⟨rfl, rfl⟩, st', fun b hb => (hf b hb).1⟩⟩
    rw [Int.mul_one]
  done := by
    intro X hP hw hK hc i pins s σ H E I hf st hg
    subst hP hw hK
    obtain ⟨f0, f1, f2, f3, f4, f5⟩ := hf it (by simp)
    exact wpAny_pyNext_range_end (I.ok.hd hc) st (by have : n ≤ i := hg; lia) fun h' eb => ⟨rfl, I.turned (t' := s.toks) (fun b o hb e => eb b o hb e) f0 f1 f3 f4 f5⟩
  self := fun _ _ _ _ _ st h => wpAny_pyIter_rangeiter st h
end L2

namespace L2
open PySem PySem.Spec PyProof.Rows
section
variable {X : Cx} {tg : Expr}
def iTup (K : PySem.W.Frag) (tl : TE) : TI := fun σ H R => tl σ H fun x H1 => ∃ a, x = .ref a ∧ (∃ xs, SqT K H1 a xs) ∧ R (Itt K a) H1
theorem pi_tup {l : Expr} {tl : TE} (hl : PE X l tl) : PI X tg l (iTup X.K tl) := by
  intro pins s σ H R I h
  refine thn (hl pins s σ H _ I h) fun v s1 ⟨x, H1, I1, r1, q1⟩ => ?_
  obtain ⟨a, e, ⟨xs, hq⟩, q⟩ := q1
  subst e
  cases r1
  obtain ⟨its, rv, p, hz⟩ := I1.tuple hq
  refine wpAny_pyIter_tuple (show s1.heap.IsTuple a its.toArray from p) ?_
  refine ⟨s1.heap.objs.size, [s1.heap.objs.size], _, _, H1, rfl, I1.kept (t' := s1.toks) fun b o e => Heap.get?_push_of_some _ e, turn_tuple a _, ⟨_, Heap.get?_push_size _ rfl, rfl, rfl⟩, fun b hb => ?_, q⟩
  have e : b = s1.heap.objs.size := by simpa using hb
  subst e
  exact I1.fpOk (Nat.le_refl _) (I1.hok.fresh (Nat.le_refl _))
/-- a range object just made, walked -/
theorem range_it {pins : List (Addr × Obj)} {σ : St} {H : Hp} {s : Shared} {R : It → Hp → Prop} {E : Value → Shared → Prop} {lo hi : Int} {t u v : Tok} {tk : Nat} (I : Inv X pins σ H s) (h1 : -(2 ^ 62) ≤ lo) (h2 : lo < 2 ^ 62) (h3 : -(2 ^ 62) ≤ hi) (h4 : hi < 2 ^ 62)
    (q : R (Itr lo (hi - lo).toNat) H) : wpAny (model X.prog X.w) X.A (pyIter (.ref s.heap.objs.size)) (PIE X pins σ tg R) E { s with heap := s.heap.push { cls := .type "range", data := .fields #[.int lo t, .int hi u, .int 1 v] }, toks := tk } := by
  refine wpAny_pyIter_range (IsRange.new ..) (small_one h1 h2 h3 h4) ?_
  have I1 : Inv X pins σ H { s with heap := s.heap.push { cls := .type "range", data := .fields #[.int lo t, .int hi u, .int 1 v] }, toks := tk } := I.kept fun b o e => Heap.get?_push_of_some _ e
  refine ⟨(s.heap.push { cls := .type "range", data := .fields #[.int lo t, .int hi u, .int 1 v] }).objs.size, [(s.heap.push { cls := .type "range", data := .fields #[.int lo t, .int hi u, .int 1 v] }).objs.size], _, _, H, rfl,
    I1.kept (t' := tk) fun b o e => Heap.get?_push_of_some _ e, turn_range _ lo (hi - lo).toNat, ?_, fun b hb => ?_, q⟩
  · have e1 : lo + ((0 : Nat) : Int) * 1 = lo := by simp
    have e2 : (((hi - lo).toNat : Nat) : Int) - ((0 : Nat) : Int) = Builtin.Range.rangeSize lo hi 1 := by rw [rangeSize_one]; split <;> lia
    show IsRangeIter _ _ (lo + ((0 : Nat) : Int) * 1) ((((hi - lo).toNat : Nat) : Int) - ((0 : Nat) : Int)) 1
    rw [e1, e2]
    exact Heap.get?_push_size _ rfl
  · have e : b = (s.heap.push { cls := .type "range", data := .fields #[.int lo t, .int hi u, .int 1 v] }).objs.size := by simpa using hb
    subst e
    exact I1.fpOk (Nat.le_refl _) (I1.hok.fresh (Nat.le_refl _))
def iRng1 (ta : TA) : TI := fun σ H R => ta σ H fun vs H1 => ∃ j : Int, vs = [.int j] ∧ -(2 ^ 62) ≤ j ∧ j < 2 ^ 62 ∧ R (Itr 0 j.toNat) H1
def iRng2 (ta : TA) : TI := fun σ H R => ta σ H fun vs H1 => ∃ i j : Int, vs = [.int i, .int j] ∧ (-(2 ^ 62) ≤ i ∧ i < 2 ^ 62 ∧ -(2 ^ 62) ≤ j ∧ j < 2 ^ 62) ∧ R (Itr i (j - i).toNat) H1
theorem pi_range1 {a : Expr} {ta : TA} {p pos : Pos} (hg : Gl X "range") (hm : X.mg "range" = none) (ha : PA X [a] ta) (hs : starEach [a] X.env = [(false, eval a X.env)] := by rfl) : PI X tg (.Call (.Name "range" p) [a] [] pos) (iRng1 ta) := by
  intro pins s σ H R I h
  refine Call_ (ld_blt I hg hm boot_range (PyProof.Rows.callWith_type1 (thn (ha pos pins s σ H _ I h) fun us s1 ⟨vs, H1, I1, r1, q1⟩ => ?_) hs rfl))
  obtain ⟨j, e, q1, q2, q⟩ := q1
  subst e
  cases r1 with
  | cons r rr =>
    cases rr
    obtain ⟨t, rfl⟩ := r
    exact call_range_1 (range_it I1 (by lia) (by lia) q1 q2 (by simpa using q))
theorem pi_range2 {a b : Expr} {ta : TA} {p pos : Pos} (hg : Gl X "range") (hm : X.mg "range" = none) (ha : PA X [a, b] ta) (hs : starEach [a, b] X.env = [(false, eval a X.env), (false, eval b X.env)] := by rfl) (hs2 : starEach [b] X.env = [(false, eval b X.env)] := by rfl) :
    PI X tg (.Call (.Name "range" p) [a, b] [] pos) (iRng2 ta) := by
  intro pins s σ H R I h
  refine Call_ (ld_blt I hg hm boot_range (PyProof.Rows.callWith_type1 (thn (ha pos pins s σ H _ I h) fun us s1 ⟨vs, H1, I1, r1, q1⟩ => ?_) (by rw [hs, hs2]) (by rw [hs2]; rfl)))
  obtain ⟨i, j, e, ⟨q1, q2, q3, q4⟩, q⟩ := q1
  subst e
  cases r1 with
  | cons r rr =>
    cases rr with
    | cons r' rr =>
      cases rr
      obtain ⟨t, rfl⟩ := r
      obtain ⟨t', rfl⟩ := r'
      exact call_range_2 (range_it I1 q1 q2 q3 q4 q)

/-! ### for -/
/-- W: the invariant by the turn and a measure; N: what the body is to reach -/
def tFor (wi : TI) (g : TG) (tb : TS) : TS := fun D σ H => wi σ H fun J H1 => ∃ W : Nat → Nat → St → Hp → Prop, (∃ m, W 0 m σ H1) ∧ ∀ i m σ H, W i m σ H →
  (J.stop i H ∧ D.nx σ H) ∨ (J.go i H ∧ ∃ N : St → Hp → Prop, (∀ σ' H', N σ' H' → ∃ m', m' < m ∧ W (i + 1) m' σ' H') ∧ ∀ x H', J.yld i H x H' → g x σ H' fun σ2 H2 => tb { D with nx := N, ct := N, bk := D.nx } σ2 H2)
/-- the records at fp as they stand -/
def pinsAt (fp : List Addr) (h : Heap) : List (Addr × Obj) := fp.filterMap fun b => (h.get? b).map fun o => (b, o)
theorem mem_pinsAt {fp : List Addr} {h : Heap} {b : Addr} {o : Obj} (hb : b ∈ fp) (e : h.get? b = some o) : (b, o) ∈ pinsAt fp h := List.mem_filterMap.mpr ⟨b, hb, by rw [e]; rfl⟩
theorem of_pinsAt {fp : List Addr} {h : Heap} {p : Addr × Obj} (hp : p ∈ pinsAt fp h) : p.1 ∈ fp ∧ h.get? p.1 = some p.2 := by
  obtain ⟨b, hb, e⟩ := List.mem_filterMap.mp hp
  cases q : h.get? b with
  | none => rw [q] at e; cases e
  | some o =>
    rw [q] at e
    have e' : (b, o) = p := Option.some.inj e
    subst e'
    exact ⟨hb, q⟩
theorem Inv.pinned {pins : List (Addr × Obj)} {σ : St} {H : Hp} {s : Shared} {fp : List Addr} (I : Inv X pins σ H s) (hf : ∀ b ∈ fp, FpOk X pins H b) (ho : ∀ b ∈ fp, ∃ o, s.heap.get? b = some o ∧ ∀ v, o.data ≠ .cell v) : Inv X (pins ++ pinsAt fp s.heap) σ H s :=
  I.pins_of fun p hp => (List.mem_append.mp hp).elim (fun z => I.pin p (List.mem_append_right _ z)) fun z => by
    obtain ⟨hb, e⟩ := of_pinsAt z
    obtain ⟨f0, f1, f2, _⟩ := hf p.1 hb
    obtain ⟨o, e', d⟩ := ho p.1 hb
    rw [e] at e'; cases e'
    exact ⟨e, f0, f1, f2, d⟩
theorem Inv.unpinned {pins pl : List (Addr × Obj)} {σ : St} {H : Hp} {s : Shared} (I : Inv X (pins ++ pl) σ H s) : Inv X pins σ H s := I.pins_of fun p hp => I.pin p (List.mem_append_right _ (List.mem_append_left _ hp))
theorem ps_for {iter : Expr} {body : List Stmt} {wi : TI} {g : TG} {tb : TS} {pos : Pos} (hp : PassesOwn (model X.prog X.w) X.A X.env X.xe) (hc : X.calm = true) (hi : PI X tg iter wi) (hg : PG X tg g) (hb : PSs X body tb)
    (hs : ∀ x, foldedSetIterable iter X.env x = pure x := by intro _; rfl) : PS X (.For tg iter body [] pos) (tFor wi g tb) := by
  intro pins s σ H D I h
  refine wpAny_For (thn (hi pins s σ H _ I h) fun v s1 h1 => thn h1 fun itv s2 h2 => ?_) hs
  obtain ⟨it, fp, tn, J, H2, e, I2, T, st2, f2, W, ⟨m0, w0⟩, turn⟩ := h2
  subst e
  -- what stays true of the iterator's objects through the loop
  have stat : ∀ {H' : Hp}, (∀ b ∈ fp, H' b = none) → ∀ b ∈ fp, FpOk X pins H' b := fun hn b hb => ⟨hn b hb, (f2 b hb).2⟩
  refine codeAny_forLoop_any (fun n s' => ∃ i σ' H', Inv X pins σ' H' s' ∧ tn i s'.heap ∧ (∀ b ∈ fp, H' b = none) ∧ W i n σ' H') ?_ m0 ⟨0, σ, H2, I2, st2, fun b hb => (f2 b hb).1, w0⟩
  rintro n s3 ⟨i, σ3, H3, I3, st3, fr3, w3⟩
  rcases turn i n σ3 H3 w3 with ⟨stop, qn⟩ | ⟨go, N, hN, step⟩
  · refine wpAny_passesOwn hp (thn (T.done X rfl rfl rfl hc i pins s3 σ3 H3 X.xe I3 (stat fr3) st3 stop) fun r s4 ⟨hr, I4⟩ => ?_)
    subst hr
    exact wpAny_execs_nil ⟨σ3, H3, I4, qn⟩
  · refine wpAny_passesOwn hp (thn (T.item X rfl rfl rfl hc i pins s3 σ3 H3 X.xe I3 (stat fr3) st3 go) fun r s4 ⟨u, hr, h4⟩ => ?_)
    subst hr
    refine wpAny_passesOwn hp (thn h4 fun _ s5 ⟨x, H5, I5, r5, y5, st5, fr5⟩ => ?_)
    have I5' := I5.pinned (stat fr5) (T.obj _ _ st5)
    refine wpAny_passesOwn hp (thn (hg _ s5 σ3 H5 x u _ I5' r5 (step x H5 y5)) fun _ s6 ⟨σ6, H6, I6, q6⟩ => ?_)
    refine wpAny_passesOwn hp (thn (hb _ s6 σ6 H6 _ I6 q6) fun f s7 q7 => ?_)
    have again : ∀ {σ7 : St} {H7 : Hp}, Inv X (pins ++ pinsAt fp s5.heap) σ7 H7 s7 → N σ7 H7 → ∃ m, m < n ∧ ∃ i σ' H', Inv X pins σ' H' s7 ∧ tn i s7.heap ∧ (∀ b ∈ fp, H' b = none) ∧ W i m σ' H' := fun {σ7 H7} I7 n7 => by
      obtain ⟨m', hm, w7⟩ := hN σ7 H7 n7
      refine ⟨m', hm, i + 1, σ7, H7, I7.unpinned, T.keep _ _ _ st5 fun b hb o e => (I7.pin (b, o) (List.mem_append_right _ (List.mem_append_right _ (mem_pinsAt hb e)))).1, fun b hb => ?_, w7⟩
      obtain ⟨o, e, d⟩ := T.obj _ _ st5 b hb
      exact (I7.pin (b, o) (List.mem_append_right _ (List.mem_append_right _ (mem_pinsAt hb e)))).2.1
    cases f with
    | next => obtain ⟨σ7, H7, I7, n7⟩ := q7; exact again I7 n7
    | cont => obtain ⟨σ7, H7, I7, n7⟩ := q7; exact again I7 n7
    | brk => obtain ⟨σ7, H7, I7, q7⟩ := q7; exact ⟨σ7, H7, I7.unpinned, q7⟩
    | ret v => obtain ⟨x7, σ7, H7, I7, r7, q7⟩ := q7; exact ⟨x7, σ7, H7, I7.unpinned, r7, q7⟩
end

/-! ### the forms one uses -/
theorem for_tup {K : PySem.W.Frag} {a : Addr} {xs : List V} {g : TG} {tb : TS} {D : Ends} {σ : St} {H : Hp} (Pv : Nat → St → Hp → Prop) (h0 : Pv 0 σ H) (hl : ∀ i σ H, i ≤ xs.length → Pv i σ H → SqT K H a xs)
    (hs : ∀ i x σ H, xs[i]? = some x → Pv i σ H → g x σ H fun σ2 H2 => tb { D with nx := Pv (i + 1), ct := Pv (i + 1), bk := D.nx } σ2 H2) (hd : ∀ σ H, Pv xs.length σ H → D.nx σ H) :
    ∃ W : Nat → Nat → St → Hp → Prop, (∃ m, W 0 m σ H) ∧ ∀ i m σ H, W i m σ H →
      ((Itt K a).stop i H ∧ D.nx σ H) ∨ ((Itt K a).go i H ∧ ∃ N : St → Hp → Prop, (∀ σ' H', N σ' H' → ∃ m', m' < m ∧ W (i + 1) m' σ' H') ∧ ∀ x H', (Itt K a).yld i H x H' → g x σ H' fun σ2 H2 => tb { D with nx := N, ct := N, bk := D.nx } σ2 H2) := by
  refine ⟨fun i m σ H => m = xs.length - i ∧ i ≤ xs.length ∧ Pv i σ H, ⟨xs.length, by simp, Nat.zero_le _, h0⟩, ?_⟩
  rintro i m σ H ⟨rfl, hi, p⟩
  have q := hl i σ H hi p
  by_cases hlt : i < xs.length
  · refine .inr ⟨⟨xs, xs[i], q, by simp [hlt]⟩, Pv (i + 1), fun σ' H' p' => ⟨xs.length - (i + 1), by lia, rfl, hlt, p'⟩, fun x H' y => ?_⟩
    obtain ⟨e, y⟩ := y
    subst e
    exact hs i x σ _ (y xs q) p
  · have e : i = xs.length := by lia
    subst e
    exact .inl ⟨⟨xs, q, Nat.le_refl _⟩, hd σ H p⟩
theorem for_range {lo : Int} {n : Nat} {g : TG} {tb : TS} {D : Ends} {σ : St} {H : Hp} (Pv : Nat → St → Hp → Prop) (h0 : Pv 0 σ H)
    (hs : ∀ i σ H, i < n → Pv i σ H → g (.int (lo + i)) σ H fun σ2 H2 => tb { D with nx := Pv (i + 1), ct := Pv (i + 1), bk := D.nx } σ2 H2) (hd : ∀ σ H, Pv n σ H → D.nx σ H) :
    ∃ W : Nat → Nat → St → Hp → Prop, (∃ m, W 0 m σ H) ∧ ∀ i m σ H, W i m σ H →
      ((Itr lo n).stop i H ∧ D.nx σ H) ∨ ((Itr lo n).go i H ∧ ∃ N : St → Hp → Prop, (∀ σ' H', N σ' H' → ∃ m', m' < m ∧ W (i + 1) m' σ' H') ∧ ∀ x H', (Itr lo n).yld i H x H' → g x σ H' fun σ2 H2 => tb { D with nx := N, ct := N, bk := D.nx } σ2 H2) := by
  refine ⟨fun i m σ H => m = n - i ∧ i ≤ n ∧ Pv i σ H, ⟨n, by simp, Nat.zero_le _, h0⟩, ?_⟩
  rintro i m σ H ⟨rfl, hi, p⟩
  by_cases hlt : i < n
  · refine .inr ⟨hlt, Pv (i + 1), fun σ' H' p' => ⟨n - (i + 1), by lia, rfl, hlt, p'⟩, fun x H' y => ?_⟩
    obtain ⟨e, y⟩ := y
    subst e y
    exact hs i σ _ hlt p
  · have e : i = n := by lia
    subst e
    exact .inl ⟨Nat.le_refl _, hd σ H p⟩
end L2

namespace L2
open PySem PySem.Spec PyProof.Rows

abbrev R2 := V → V → Hp → VK → Prop
/-- a two-place operation on values: f is binaryOp op, inplaceOp op or compareOp op -/
def OpR (X : Cx) (f : Value → Value → Sem Value) (r : R2) : Prop :=
  ∀ (pins : List (Addr × Obj)) (s : Shared) (σ : St) (H : Hp) (x y : V) (v u : Value) (Q : VK), Inv X pins σ H s → RelV x v → RelV y u → r x y H Q →
    wpAny (model X.prog X.w) X.A (f v u) (EP X pins σ Q) X.xe s
/-- a one-place operation -/
def UnR (X : Cx) (f : Value → Sem Value) (r : V → Hp → VK → Prop) : Prop :=
  ∀ (pins : List (Addr × Obj)) (s : Shared) (σ : St) (H : Hp) (x : V) (v : Value) (Q : VK), Inv X pins σ H s → RelV x v → r x H Q →
    wpAny (model X.prog X.w) X.A (f v) (EP X pins σ Q) X.xe s
/-- a call of a value that is known (a builtin, a type) with values -/
def CallR (X : Cx) (f : Value) (r : List V → Hp → VK → Prop) : Prop :=
  ∀ (pins : List (Addr × Obj)) (s : Shared) (σ : St) (H : Hp) (xs : List V) (us : List Value) (Q : VK), Inv X pins σ H s → Vals xs us → r xs H Q →
    wpAny (model X.prog X.w) X.A (call f us) (EP X pins σ Q) X.xe s
def tOp (r : R2) (ta tb : TE) : TE := fun σ H Q => ta σ H fun x H1 => tb σ H1 fun y H2 => r x y H2 Q
def tUn (r : V → Hp → VK → Prop) (ta : TE) : TE := fun σ H Q => ta σ H fun x H1 => r x H1 Q
/-- ints in, under C, and a value out -/
def rI (C : Int → Int → Prop) (g : Int → Int → V) : R2 := fun x y H Q => ∃ i j, x = .int i ∧ y = .int j ∧ C i j ∧ Q (g i j) H
def rI0 (g : Int → Int → V) : R2 := fun x y H Q => ∃ i j, x = .int i ∧ y = .int j ∧ Q (g i j) H
def rU (g : Int → V) : V → Hp → VK → Prop := fun x H Q => ∃ i, x = .int i ∧ Q (g i) H

section
variable {X : Cx} {a b c : Expr} {ta tb tc : TE} {pos : Pos}

theorem binT (ha : PE X a ta) (hb : PE X b tb) {pins : List (Addr × Obj)} {s : Shared} {σ : St} {H : Hp} {R : V → V → Hp → Prop} (I : Inv X pins σ H s)
    (h : ta σ H fun x H1 => tb σ H1 fun y H2 => R x y H2) {Q : Value → Shared → Prop} {f : Value → Value → Sem Value}
    (hf : ∀ v u s2 x y H2, Inv X pins σ H2 s2 → RelV x v → RelV y u → R x y H2 → wpAny (model X.prog X.w) X.A (f v u) Q X.xe s2) :
    wpAny (model X.prog X.w) X.A (eval a X.env) (fun v s₁ => wpAny (model X.prog X.w) X.A (eval b X.env) (fun u s₂ => wpAny (model X.prog X.w) X.A (f v u) Q X.xe s₂) X.xe s₁) X.xe s := by
  refine thn (ha pins s σ H _ I h) fun v s1 ⟨x, H1, I1, r1, q1⟩ => ?_
  refine thn (hb pins s1 σ H1 _ I1 q1) fun u s2 ⟨y, H2, I2, r2, q2⟩ => ?_
  exact hf v u s2 x y H2 I2 r1 r2 q2

theorem pe_op {op : Operator} {r : R2} (ho : OpR X (binaryOp op) r) (ha : PE X a ta) (hb : PE X b tb) : PE X (.BinOp a op b pos) (tOp r ta tb) := by
  intro pins s σ H Q I h
  exact wpAny_BinOp (binT ha hb I h fun v u s2 x y H2 I2 rx ry q => ho pins s2 σ H2 x y v u Q I2 rx ry q)
theorem pe_un {op : UnaryOp} {r : V → Hp → VK → Prop} (ho : UnR X (unaryOp op) r) (ha : PE X a ta) : PE X (.UnaryOp op a pos) (tUn r ta) := by
  intro pins s σ H Q I h
  exact UnaryOp_ (thn (ha pins s σ H _ I h) fun v s1 ⟨x, H1, I1, r1, q1⟩ => ho pins s1 σ H1 x v Q I1 r1 q1)
/-! ### ints -/
theorem opI {f : Value → Value → Sem Value} {C : Int → Int → Prop} {g : Int → Int → Int}
    (rule : ∀ (i j : Int) (t u : Tok) (s : Shared) (Q : Value → Shared → Prop) (E : Value → Shared → Prop), C i j → Q (.int (g i j) s.toks) { s with toks := s.toks + 1 } → wpAny (model X.prog X.w) X.A (f (.int i t) (.int j u)) Q E s) :
    OpR X f (rI C fun i j => .int (g i j)) := by
  intro pins s σ H x y v u Q I rx ry h
  obtain ⟨i, j, rfl, rfl, hc, q⟩ := h
  obtain ⟨t, rfl⟩ := rx
  obtain ⟨t', rfl⟩ := ry
  exact rule i j t t' s _ _ hc ⟨.int (g i j), H, I.tok _, ⟨_, rfl⟩, q⟩
theorem opI0 {f : Value → Value → Sem Value} {g : Int → Int → Int}
    (rule : ∀ (i j : Int) (t u : Tok) (s : Shared) (Q : Value → Shared → Prop) (E : Value → Shared → Prop), Q (.int (g i j) s.toks) { s with toks := s.toks + 1 } → wpAny (model X.prog X.w) X.A (f (.int i t) (.int j u)) Q E s) :
    OpR X f (rI0 fun i j => .int (g i j)) := by
  intro pins s σ H x y v u Q I rx ry h
  obtain ⟨i, j, rfl, rfl, q⟩ := h
  obtain ⟨t, rfl⟩ := rx
  obtain ⟨t', rfl⟩ := ry
  exact rule i j t t' s _ _ ⟨.int (g i j), H, I.tok _, ⟨_, rfl⟩, q⟩
theorem opB0 {f : Value → Value → Sem Value} {g : Int → Int → Bool}
    (rule : ∀ (i j : Int) (t u : Tok) (s : Shared) (Q : Value → Shared → Prop) (E : Value → Shared → Prop), Q (.bool (g i j)) s → wpAny (model X.prog X.w) X.A (f (.int i t) (.int j u)) Q E s) :
    OpR X f (rI0 fun i j => .bl (g i j)) := by
  intro pins s σ H x y v u Q I rx ry h
  obtain ⟨i, j, rfl, rfl, q⟩ := h
  obtain ⟨t, rfl⟩ := rx
  obtain ⟨t', rfl⟩ := ry
  exact rule i j t t' s _ _ ⟨.bl (g i j), H, I, rfl, q⟩

def CDiv (i j : Int) : Prop := 0 < j ∧ j < 1073741824
def CPow (i j : Int) : Prop := 0 ≤ j ∧ j ≤ 1000000 ∧ i.natAbs < 2 ^ 64
def CMul (i j : Int) : Prop := (-(2 ^ 64) < i ∧ i < 2 ^ 64) ∨ (-(2 ^ 64) < j ∧ j < 2 ^ 64)
theorem CMul.ok {i j : Int} (h : CMul i j) : IntMulOk i j := by
  rcases h with ⟨h1, h2⟩ | ⟨h1, h2⟩
  · exact .of_left (intBits_le_64 h1 h2)
  · exact .of_right (intBits_le_64 h1 h2)
theorem op_add : OpR X (binaryOp .Add) (rI0 fun i j => .int (i + j)) := opI0 fun _ _ _ _ _ _ _ q => add_int q
theorem op_sub : OpR X (binaryOp .Sub) (rI0 fun i j => .int (i - j)) := opI0 fun _ _ _ _ _ _ _ q => sub_int q
theorem op_mul : OpR X (binaryOp .Mult) (rI CMul fun i j => .int (i * j)) := opI fun _ _ _ _ _ _ _ hc q => mul_int q hc.ok
/-- // by a positive divisor -/
theorem op_fdiv : OpR X (binaryOp .FloorDiv) (rI CDiv fun i j => .int (i / j)) := opI fun i j _ _ _ _ _ hc q => by
  have h1 : (0 : Int) < j := hc.1
  have h2 : j < 1073741824 := hc.2
  exact floordiv_int (by lia) (by rw [Int.fdiv_eq_ediv_of_nonneg i (by lia)]; exact q) (.inl (PyProof.noPylong_small (by lia)))
/-- % by a positive divisor of any size -/
theorem op_mod : OpR X (binaryOp .Mod) (rI (fun _ j => 0 < j) fun i j => .int (i % j)) := opI fun i j _ _ _ _ _ hc q => by
  have h1 : (0 : Int) < j := hc
  exact mod_int' (by lia) (by rw [Int.fmod_eq_emod_of_nonneg i (by lia)]; exact q)
theorem op_pow : OpR X (binaryOp .Pow) (rI CPow fun i j => .int (i ^ j.toNat)) := opI fun _ _ _ _ _ _ _ hc q => pow_int_small hc.1 hc.2.1 hc.2.2 q
theorem unI {f : Value → Sem Value} {g : Int → Int}
    (rule : ∀ (i : Int) (t : Tok) (s : Shared) (Q : Value → Shared → Prop) (E : Value → Shared → Prop), Q (.int (g i) s.toks) { s with toks := s.toks + 1 } → wpAny (model X.prog X.w) X.A (f (.int i t)) Q E s) :
    UnR X f (rU fun i => .int (g i)) := by
  intro pins s σ H x v Q I rx h
  obtain ⟨i, rfl, q⟩ := h
  obtain ⟨t, rfl⟩ := rx
  exact rule i t s _ _ ⟨.int (g i), H, I.tok _, ⟨_, rfl⟩, q⟩
theorem un_neg : UnR X (unaryOp .USub) (rU fun i => .int (-i)) := unI fun _ _ _ _ _ q => neg_int q
/-! ### bools among ints: n += (a < b) -/
end

/-! ### comparisons -/
/-- the scalars that == tells apart as data does -/
def scal : V → V → Bool
  | .non, .non => true | .non, .int _ => true | .int _, .non => true | .non, .bl _ => true | .bl _, .non => true | .non, .str _ => true | .str _, .non => true
  | .int _, .int _ => true | .bl _, .bl _ => true | .str _, .str _ => true | .byt _, .byt _ => true
  | .int _, .str _ => true | .str _, .int _ => true | .bl _, .str _ => true | .str _, .bl _ => true
  | _, _ => false
def rEq : R2 := fun x y H Q => scal x y = true ∧ Q (.bl (decide (x = y))) H
def rNe : R2 := fun x y H Q => scal x y = true ∧ Q (.bl (!decide (x = y))) H

theorem dec_int {i j : Int} : decide (V.int i = V.int j) = (i == j) := by
  rw [Bool.eq_iff_iff]
  simp
theorem dec_bl {i j : Bool} : decide (V.bl i = V.bl j) = (i == j) := by
  rw [Bool.eq_iff_iff]
  simp
theorem dec_str {i j : Str} : decide (V.str i = V.str j) = (i == j) := by
  rw [Bool.eq_iff_iff]
  simp
theorem dec_byt {i j : Array UInt8} : decide (V.byt i = V.byt j) = (i.toList == j.toList) := by
  rw [Bool.eq_iff_iff]
  cases i
  cases j
  simp

section
variable {X : Cx} {a b c : Expr} {ta tb tc : TE} {pos : Pos}
theorem fin_bl {pins : List (Addr × Obj)} {σ : St} {H : Hp} {s : Shared} {Q : VK} {k k' : Bool} (I : Inv X pins σ H s) (q : Q (.bl k) H) (e : k = k') : EP X pins σ Q (.bool k') s := by
  subst e
  exact ⟨.bl k, H, I, rfl, q⟩
theorem op_eq : OpR X (compareOp .Eq) rEq := by
  intro pins s σ H x y v u Q I rx ry h
  obtain ⟨hs, q⟩ := h
  cases x with
  | non =>
    cases rx
    cases y with
    | non => cases ry; exact PySem.EqNone.eq_none_none (fin_bl I q (by simp))
    | bl j => cases ry; exact PySem.EqNone.eq_none_bool (fin_bl I q (by simp))
    | int j => obtain ⟨t', rfl⟩ := ry; exact PySem.EqNone.eq_none_int (fin_bl I q (by simp))
    | str j => obtain ⟨t', rfl⟩ := ry; exact PySem.EqNone.eq_none_str (fin_bl I q (by simp))
    | _ => exact absurd (show false = true from hs) Bool.false_ne_true
  | bl i =>
    cases rx
    cases y with
    | non => cases ry; exact PySem.EqNone.eq_bool_none (fin_bl I q (by simp))
    | bl j => cases ry; exact eq_bool (fin_bl I q dec_bl)
    | str j => obtain ⟨t', rfl⟩ := ry; exact PySem.EqMixed.eq_bool_str (fin_bl I q (by simp))
    | _ => exact absurd (show false = true from hs) Bool.false_ne_true
  | int i =>
    obtain ⟨t, rfl⟩ := rx
    cases y with
    | non => cases ry; exact PySem.EqNone.eq_int_none (fin_bl I q (by simp))
    | int j => obtain ⟨t', rfl⟩ := ry; exact eq_int (fin_bl I q dec_int)
    | str j => obtain ⟨t', rfl⟩ := ry; exact PySem.EqMixed.eq_int_str (fin_bl I q (by simp))
    | _ => exact absurd (show false = true from hs) Bool.false_ne_true
  | str i =>
    obtain ⟨t, rfl⟩ := rx
    cases y with
    | non => cases ry; exact PySem.EqNone.eq_str_none (fin_bl I q (by simp))
    | bl j => cases ry; exact PySem.EqMixed.eq_str_bool (fin_bl I q (by simp))
    | int j => obtain ⟨t', rfl⟩ := ry; exact PySem.EqMixed.eq_str_int (fin_bl I q (by simp))
    | str j => obtain ⟨t', rfl⟩ := ry; exact eq_str (fin_bl I q dec_str)
    | _ => exact absurd (show false = true from hs) Bool.false_ne_true
  | byt i =>
    obtain ⟨t, rfl⟩ := rx
    cases y with
    | byt j => obtain ⟨t', rfl⟩ := ry; exact PySem.W.eq_bytes (fin_bl I q dec_byt)
    | _ => exact absurd (show false = true from hs) Bool.false_ne_true
  | _ => cases y <;> exact absurd (show false = true from hs) Bool.false_ne_true
theorem op_ne : OpR X (compareOp .NotEq) rNe := by
  intro pins s σ H x y v u Q I rx ry h
  obtain ⟨hs, q⟩ := h
  cases x with
  | non =>
    cases rx
    cases y with
    | non => cases ry; exact PySem.EqNone.ne_none_none (fin_bl I q (by simp))
    | bl j => cases ry; exact PySem.EqNone.ne_none_bool (fin_bl I q (by simp))
    | int j => obtain ⟨t', rfl⟩ := ry; exact PySem.EqNone.ne_none_int (fin_bl I q (by simp))
    | str j => obtain ⟨t', rfl⟩ := ry; exact PySem.EqNone.ne_none_str (fin_bl I q (by simp))
    | _ => exact absurd (show false = true from hs) Bool.false_ne_true
  | bl i =>
    cases rx
    cases y with
    | non => cases ry; exact PySem.EqNone.ne_bool_none (fin_bl I q (by simp))
    | bl j => cases ry; exact ne_bool (fin_bl I q (congrArg not dec_bl))
    | str j => obtain ⟨t', rfl⟩ := ry; exact PySem.EqMixed.ne_bool_str (fin_bl I q (by simp))
    | _ => exact absurd (show false = true from hs) Bool.false_ne_true
  | int i =>
    obtain ⟨t, rfl⟩ := rx
    cases y with
    | non => cases ry; exact PySem.EqNone.ne_int_none (fin_bl I q (by simp))
    | int j => obtain ⟨t', rfl⟩ := ry; exact ne_int (fin_bl I q (congrArg not dec_int))
    | str j => obtain ⟨t', rfl⟩ := ry; exact PySem.EqMixed.ne_int_str (fin_bl I q (by simp))
    | _ => exact absurd (show false = true from hs) Bool.false_ne_true
  | str i =>
    obtain ⟨t, rfl⟩ := rx
    cases y with
    | non => cases ry; exact PySem.EqNone.ne_str_none (fin_bl I q (by simp))
    | bl j => cases ry; exact PySem.EqMixed.ne_str_bool (fin_bl I q (by simp))
    | int j => obtain ⟨t', rfl⟩ := ry; exact PySem.EqMixed.ne_str_int (fin_bl I q (by simp))
    | str j => obtain ⟨t', rfl⟩ := ry; exact ne_str (fin_bl I q (congrArg not dec_str))
    | _ => exact absurd (show false = true from hs) Bool.false_ne_true
  | byt i =>
    obtain ⟨t, rfl⟩ := rx
    cases y with
    | byt j => obtain ⟨t', rfl⟩ := ry; exact PySem.W.ne_bytes (fin_bl I q (congrArg not dec_byt))
    | _ => exact absurd (show false = true from hs) Bool.false_ne_true
  | _ => cases y <;> exact absurd (show false = true from hs) Bool.false_ne_true

theorem op_lt : OpR X (compareOp .Lt) (rI0 fun i j => .bl (decide (i < j))) := opB0 fun _ _ _ _ _ _ _ q => lt_int q
theorem op_le : OpR X (compareOp .LtE) (rI0 fun i j => .bl (decide (i ≤ j))) := opB0 fun _ _ _ _ _ _ _ q => le_int q
/-- is None, is not None: the right side a value none -/
theorem op_isN : OpR X (compareOp .Is) (fun x y H Q => y = .non ∧ Q (.bl (decide (x = .non))) H) := by
  intro pins s σ H x y v u Q I rx ry h
  obtain ⟨rfl, q⟩ := h
  cases ry
  refine is_none_gen (fin_bl I q ?_)
  cases x <;> first
    | (cases rx; rfl)
    | (obtain ⟨t, rfl⟩ := rx; rfl)
theorem nomark (b : Expr) {op : CmpOp} (h : op ≠ .In := by decide) (h2 : op ≠ .NotIn := by decide) : behindInMarks op b = false := by
  have e1 : (op == CmpOp.In) = false := by cases op <;> first | rfl | exact absurd rfl h
  have e2 : (op == CmpOp.NotIn) = false := by cases op <;> first | rfl | exact absurd rfl h2
  cases b <;> simp [behindInMarks, e1, e2]
/-- a comparison as a value; hm: nomark b, or (for in, not in) by with_unfolding_all rfl -/
theorem pe_cmpR {op : CmpOp} {r : R2} (ho : OpR X (compareOp op) r) (ha : PE X a ta) (hb : PE X b tb) (hm : behindInMarks op b = false) : PE X (.Compare a [op] [b] pos) (tOp r ta tb) := by
  intro pins s σ H Q I h
  exact wpAny_Compare1 (binT ha hb I h fun v u s2 x y H2 I2 rx ry q => ho pins s2 σ H2 x y v u Q I2 rx ry q) hm
/-- a reading of a value as a test -/
def tTest (t : TE) : TT := fun σ H Q => t σ H fun x H' => ∃ k, x = .bl k ∧ Q k H'
theorem pt_cmpR {op : CmpOp} {r : R2} (ho : OpR X (compareOp op) r) (ha : PE X a ta) (hb : PE X b tb) (hm : behindInMarks op b = false) : PT X (.Compare a [op] [b] pos) (tTest (tOp r ta tb)) := by
  intro pins s σ H Q I h
  refine wpAny_isTrue_Compare1 (thn (ha pins s σ H _ I h) fun v s1 ⟨x, H1, I1, r1, q1⟩ => thn (hb pins s1 σ H1 _ I1 q1) fun u s2 ⟨y, H2, I2, r2, q2⟩ =>
    thn (ho pins s2 σ H2 x y v u _ I2 r1 r2 q2) fun c s3 ⟨z, H3, I3, r3, k, e, q3⟩ => ?_) hm
  subst e
  cases r3
  exact wpAny_truthy_bool ⟨H3, I3, q3⟩
/-- a op1 b op2 c -/
def tChain (r r' : R2) (ta tb tc : TE) : TE := fun σ H Q => ta σ H fun x H1 => tb σ H1 fun y H2 => r x y H2 fun z H3 => ∃ k, z = .bl k ∧
  (if k = true then tc σ H3 fun w' H4 => r' y w' H4 Q else Q (.bl false) H3)
theorem pe_chain {op op' : CmpOp} {r r' : R2} (ho : OpR X (compareOp op) r) (ho' : OpR X (compareOp op') r') (ha : PE X a ta) (hb : PE X b tb) (hc : PE X c tc)
    (hm : lastMarks [op, op'] [b, c] = false := by with_unfolding_all rfl) : PE X (.Compare a [op, op'] [b, c] pos) (tChain r r' ta tb tc) := by
  intro pins s σ H Q I h
  refine Compare_chain (thn (ha pins s σ H _ I h) fun v s1 ⟨x, H1, I1, r1, q1⟩ => chain_link (thn (hb pins s1 σ H1 _ I1 q1) fun u s2 ⟨y, H2, I2, r2, q2⟩ =>
    thn (ho pins s2 σ H2 x y v u _ I2 r1 r2 q2) fun d s3 ⟨z, H3, I3, r3, k, e, q3⟩ => ?_)) hm
  subst e
  cases r3
  refine wpAny_truthy_bool ?_
  cases k with
  | false => exact ite_ff ⟨.bl false, H3, I3, rfl, q3⟩
  | true => exact ite_tt (chain_last (thn (hc pins s3 σ H3 _ I3 q3) fun w' s4 ⟨z', H4, I4, r4, q4⟩ => ho' pins s4 σ H4 y z' u w' Q I4 r2 r4 q4))
theorem pt_chain {op op' : CmpOp} {r r' : R2} (ho : OpR X (compareOp op) r) (ho' : OpR X (compareOp op') r') (ha : PE X a ta) (hb : PE X b tb) (hc : PE X c tc)
    (hm : lastMarks [op, op'] [b, c] = false := by with_unfolding_all rfl) : PT X (.Compare a [op, op'] [b, c] pos) (tTest (tChain r r' ta tb tc)) := by
  intro pins s σ H Q I h
  refine isTrue_chain (thn (ha pins s σ H _ I h) fun v s1 ⟨x, H1, I1, r1, q1⟩ => test_link (thn (hb pins s1 σ H1 _ I1 q1) fun u s2 ⟨y, H2, I2, r2, q2⟩ =>
    thn (ho pins s2 σ H2 x y v u _ I2 r1 r2 q2) fun d s3 ⟨z, H3, I3, r3, k, e, q3⟩ => ?_)) hm
  subst e
  cases r3
  refine wpAny_truthy_bool ?_
  cases k with
  | false =>
    obtain ⟨k', e', q'⟩ := q3
    cases e'
    exact ite_ff ⟨H3, I3, q'⟩
  | true =>
    refine ite_tt (test_last (thn (hc pins s3 σ H3 _ I3 q3) fun w' s4 ⟨z', H4, I4, r4, q4⟩ => thn (ho' pins s4 σ H4 y z' u w' _ I4 r2 r4 q4) fun d' s5 ⟨z2, H5, I5, r5, k2, e2, q5⟩ => ?_))
    subst e2
    cases r5
    exact wpAny_truthy_bool ⟨H5, I5, q5⟩

/-! ### truth -/
theorem line63 : (sizeLine : Nat) < 2 ^ 63 := by rw [sizeLine_eq]; decide
/-! ### strs and bytes -/
/-! ### scalar builtins, by CallR -/
theorem vals1 {x : V} {us : List Value} (r : Vals [x] us) : ∃ u, us = [u] ∧ RelV x u := by
  cases r with
  | cons r1 r2 => cases r2; exact ⟨_, rfl, r1⟩
theorem vals2 {x y : V} {us : List Value} (r : Vals [x, y] us) : ∃ u w', us = [u, w'] ∧ RelV x u ∧ RelV y w' := by
  cases r with
  | cons r1 r2 =>
    cases r2 with
    | cons r3 r4 => cases r4; exact ⟨_, _, rfl, r1, r3⟩
theorem call_max2 (hc : X.calm = true) : CallR X (.builtin "max") (fun xs H Q => ∃ i j, xs = [.int i, .int j] ∧ Q (.int (if j > i then j else i)) H) := by
  intro pins s σ H xs us Q I r h
  obtain ⟨i, j, rfl, q⟩ := h
  obtain ⟨u, w', rfl, ⟨t, rfl⟩, ⟨t', rfl⟩⟩ := vals2 r
  refine max_two_ints (I.ok.hd hc) fun h' tk k => ⟨_, H, I.kept k, ?_, q⟩
  by_cases hj : j > i
  · rw [if_pos hj, if_pos hj]; exact ⟨_, rfl⟩
  · rw [if_neg hj, if_neg hj]; exact ⟨_, rfl⟩
theorem call_min2 (hc : X.calm = true) : CallR X (.builtin "min") (fun xs H Q => ∃ i j, xs = [.int i, .int j] ∧ Q (.int (if j < i then j else i)) H) := by
  intro pins s σ H xs us Q I r h
  obtain ⟨i, j, rfl, q⟩ := h
  obtain ⟨u, w', rfl, ⟨t, rfl⟩, ⟨t', rfl⟩⟩ := vals2 r
  refine min_two_ints (I.ok.hd hc) fun h' tk k => ⟨_, H, I.kept k, ?_, q⟩
  by_cases hj : j < i
  · rw [if_pos hj, if_pos hj]; exact ⟨_, rfl⟩
  · rw [if_neg hj, if_neg hj]; exact ⟨_, rfl⟩
theorem call_str_int : CallR X (.type "str") (fun xs H Q => ∃ i, xs = [.int i] ∧ i.natAbs.log2 < 1920 ∧ Q (.str (toString i)) H) := by
  intro pins s σ H xs us Q I r h
  obtain ⟨i, rfl, hz, q⟩ := h
  obtain ⟨u, rfl, t, rfl⟩ := vals1 r
  exact PySem.P.str_of_int hz ⟨.str _, H, I.tok _, ⟨_, rfl⟩, q⟩
end
end L2

namespace L2
open PySem PySem.Spec PyProof.Rows

/-! ### an instance, its attributes a map -/
structure ObjM (h : Heap) (x dx C : Addr) (mA : Str → Option Value) : Prop where
  obj : h.get? x = some (PySem.W.instObj C dx)
  ns : h.Ns1 dx mA
  ne : dx ≠ x

theorem lookIn_ns {h : Heap} {dx : Addr} {mA : Str → Option Value} (n : h.Ns1 dx mA) : ∃ od, h.get? dx = some od ∧ ∀ name, PySem.W.lookIn name od = some (mA name) := by
  obtain ⟨o, es, ep, ho, hd, hk, _, hm⟩ := n
  refine ⟨o, ho, fun name => ?_⟩
  have e := hm name
  unfold nsFind findBy at e
  rw [← Array.find?_toList] at e
  unfold PySem.W.lookIn
  rw [hd]
  dsimp only
  split
  · rename_i y q
    rw [q] at e
    exact congrArg some e
  · rename_i q
    rw [q] at e
    have a : es.toList.any (·.refKey) = false := by
      rw [List.any_eq_false]
      intro y hy
      obtain ⟨z, t, hkey⟩ := hk y (Array.mem_toList_iff.mp hy)
      simp [DictEntry.refKey, hkey]
    have a' : ¬ es.toList.any (·.refKey) = true := by rw [a]; exact Bool.false_ne_true
    rw [if_neg a']
    exact congrArg some e

theorem ObjM.look {h : Heap} {x dx C : Addr} {mA : Str → Option Value} (I : ObjM h x dx C mA) : ∃ od, PySem.W.InstAt h x (PySem.W.instObj C dx) C (some od) ∧ ∀ name, PySem.W.lookIn name od = some (mA name) :=
  let ⟨od, ho, hl⟩ := lookIn_ns I.ns
  ⟨od, ⟨I.obj, rfl, rfl, ho⟩, hl⟩

section
variable {prog : Program} {w : World} {A : Around} {E : Value → Shared → Prop} {s : Shared} {K : PySem.W.Frag} {x dx C f : Addr} {mA : Str → Option Value} {name : Str} {v : Value}

theorem get_map {expr : Bool} {Q : Value → Shared → Prop} (X : K.In s.heap) (I : ObjM s.heap x dx C mA) (hg : PySem.W.plainGet K C name = true) (hh : PySem.W.hasDictIn K C = true)
    (ha : PySem.W.findIn K (.ref C) name = some none) (hv : mA name = some v) (hv' : PySem.W.handedIn v = true) (h : Q v { s with toks := s.toks + 1 }) :
    wpAny (model prog w) A (getAttr (.ref x) name expr) Q E s := by
  obtain ⟨od, J, hl⟩ := I.look
  exact PySem.W.get_value X J (PySem.W.plainGet_of hg).1 (PySem.W.findObj_own hh ha rfl (by rw [hl, hv])) hv' h

theorem get_meth {pl : Sem Bool} {Q : Value × List Value → Shared → Prop} (X : K.In s.heap) (I : ObjM s.heap x dx C mA) (hg : PySem.W.plainGet K C name = true)
    (hf : PySem.W.findIn K (.ref C) name = some (some (.ref f))) (ht : PySem.W.isFn K (.ref f) = true) (hv : mA name = none) (h : Q (.ref f, [.ref x]) s) :
    wpAny (model prog w) A (getMethod (.ref x) name pl) Q E s := by
  obtain ⟨od, J, hl⟩ := I.look
  exact PySem.W.method_fn X J (PySem.W.plainGet_of hg).1 (PySem.W.plainGet_of hg).2 hf (beq_iff_eq.mp ht) (by show (PySem.W.lookIn name od).map (·.isSome) = some false; rw [hl, hv]; rfl) h

theorem set_map {ns : List Str} {Q : Unit → Shared → Prop} (X : K.In s.heap) (I : ObjM s.heap x dx C mA)
    (hs : PySem.W.findIn K (.ref C) "__setattr__" = some (some (.builtin "object.__setattr__"))) (hp : PySem.W.plainOver K C = true) (ht : PySem.W.takerIn K C name = some none) (hh : PySem.W.hasDictIn K C = true)
    (hw : PySem.Within mA ns) (hsz : ns.length ≤ sizeLine)
    (h : ∀ h', ObjM h' x dx C (fun y => if y = name then some v else mA y) → Heap.SameBut dx s.heap h' → Q () { s with heap := h', toks := s.toks + 2 }) :
    wpAny (model prog w) A (setAttr (.ref x) name v) Q E s := by
  obtain ⟨od, J, hl⟩ := I.look
  refine PySem.W.set_plain X J hs (PySem.W.osa_open (s := { s with toks := s.toks + 1 }) (r := none) X J hp ht fun b => ?_)
  obtain ⟨cd, hc, hd'⟩ := PySem.W.any_some hh
  have hx : s.heap.get? x = some ⟨.ref C, some dx, .plain, #[]⟩ := I.obj
  refine wpAny_bind (wpAny_pure (wpAny_bind (wpAny_bind (wpAny_loadPart hx (wpAny_bind (PySem.W.Looks.here (s := { s with toks := s.toks + 1 }) (PySem.W.looks_clsIn X hc) ?_))))))
  rw [hd']
  refine wpAny_pure (a := some dx) (wpAny_bind (wpAny_pure (wpAny_bind ?_)))
  refine wpAny_nsSet1 (s := { s with toks := s.toks + 1 }) I.ns fun h' hn2 hs2 => ?_
  obtain ⟨oD, esD, epD, hoD, hdD, hcD⟩ := hn2.count (PySem.Within.cons name v hw)
  refine wpAny_bind (wpAny_lookBehind hoD (by rw [hdD]; exact pastItsLine_dict (Nat.le_trans hcD (by rw [List.length_cons]; lia))) ?_)
  exact wpAny_pure (h _ ⟨(hs2.2 _ (Ne.symm I.ne)).trans I.obj, hn2, I.ne⟩ hs2)

/-- C(..): the dict at the heap's end, the instance behind it; then its __init__ -/
theorem make_map {R : Result → Shared → Prop} {vs : List Value} {kw : List (Str × Value)} (X : K.In s.heap) (hm : PySem.W.makesIn K C = true)
    (hi : PySem.W.findIn K (.ref C) "__init__" = some (some (.ref f))) (hf : PySem.W.typeIn K (.ref f) = some (.type "function"))
    (h : codeAny (model prog w) (A.under (.builtin "type.__call__" ⟨.ref C :: vs, kw⟩)) (.call (.ref f) ⟨.ref (s.heap.objs.size + 1) :: vs, kw⟩) (PySem.W.InitBack (s.heap.objs.size + 1) R)
      { s with heap := (s.heap.push PySem.W.emptyDict).push (PySem.W.instObj C s.heap.objs.size) }) :
    codeAny (model prog w) A (.call (.ref C) ⟨vs, kw⟩) R s := by
  obtain ⟨hh, g, d, t, os⟩ := s
  exact PySem.W.make_core (PySem.W.makes_of X hm) (PySem.W.looks_findIn X hi) (fun self => PySem.W.bind_fn X self hf) (.inl rfl) h
end

/-! ### the attributes as a list of pairs -/
def putF (f : Str) (v : V) : List (Str × V) → List (Str × V)
  | [] => [(f, v)]
  | (g, x) :: r => if g = f then (g, v) :: r else (g, x) :: putF f v r
theorem lookup_putF (f g : Str) (v : V) : ∀ fs : List (Str × V), (putF f v fs).lookup g = if g = f then some v else fs.lookup g
  | [] => by
    show List.lookup g [(f, v)] = _
    by_cases h : g = f
    · have hb : (g == f) = true := beq_iff_eq.mpr h
      simp only [List.lookup, hb, if_pos h]
    · have hb : (g == f) = false := beq_eq_false_iff_ne.mpr h
      simp only [List.lookup, hb, if_neg h]
  | (k, x) :: r => by
    have ih := lookup_putF f g v r
    rw [show putF f v ((k, x) :: r) = (if k = f then (k, v) :: r else (k, x) :: putF f v r) from rfl]
    by_cases hk : k = f
    · rw [if_pos hk]
      by_cases h : g = k
      · have hb : (g == k) = true := beq_iff_eq.mpr h
        simp only [List.lookup, hb, if_pos (h.trans hk)]
      · have hb : (g == k) = false := beq_eq_false_iff_ne.mpr h
        simp only [List.lookup, hb, if_neg (fun e : g = f => h (e.trans hk.symm))]
    · rw [if_neg hk]
      by_cases h : g = k
      · have hb : (g == k) = true := beq_iff_eq.mpr h
        simp only [List.lookup, hb, if_neg (fun e : g = f => hk (h.symm.trans e))]
      · have hb : (g == k) = false := beq_eq_false_iff_ne.mpr h
        simp only [List.lookup, hb]
        exact ih
theorem keys_putF (f : Str) (v : V) : ∀ fs : List (Str × V), f ∈ (putF f v fs).map (·.1) ∧ ∀ g, g ∈ fs.map (·.1) → g ∈ (putF f v fs).map (·.1)
  | [] => ⟨by simp [putF], fun g h => by simp at h⟩
  | (k, x) :: r => by
    obtain ⟨i1, i2⟩ := keys_putF f v r
    rw [show putF f v ((k, x) :: r) = (if k = f then (k, v) :: r else (k, x) :: putF f v r) from rfl]
    by_cases hk : k = f
    · rw [if_pos hk]
      subst hk
      exact ⟨by simp, fun g h => by simpa using h⟩
    · rw [if_neg hk]
      refine ⟨?_, fun g h => ?_⟩
      · rw [List.map_cons]
        exact List.mem_cons_of_mem _ i1
      · rw [List.map_cons] at h ⊢
        rcases List.mem_cons.mp h with e | e
        · exact List.mem_cons.mpr (.inl e)
        · exact List.mem_cons_of_mem _ (i2 g e)
theorem length_putF (f : Str) (v : V) : ∀ fs : List (Str × V), (putF f v fs).length ≤ fs.length + 1
  | [] => by simp [putF]
  | (k, x) :: r => by
    have ih := length_putF f v r
    rw [show putF f v ((k, x) :: r) = (if k = f then (k, v) :: r else (k, x) :: putF f v r) from rfl]
    by_cases hk : k = f
    · rw [if_pos hk, List.length_cons, List.length_cons]; lia
    · rw [if_neg hk, List.length_cons, List.length_cons]; lia

theorem RelO.some_of {v : V} {o : Option Value} (r : RelO (some v) o) : ∃ u, o = some u ∧ RelV v u := by
  cases o with
  | none => exact (show False from r).elim
  | some u => exact ⟨u, rfl, r⟩
theorem RelO.none_of {o : Option Value} (r : RelO none o) : o = none := by
  cases o with
  | none => rfl
  | some u => exact (show False from r).elim
theorem handed_of {v : V} {u : Value} (r : RelV v u) : PySem.W.handedIn u = true := by
  cases v with
  | non => cases (show u = Value.none from r); rfl
  | bl b => cases (show u = Value.bool b from r); rfl
  | int i => obtain ⟨t, e⟩ := (show ∃ t, u = Value.int i t from r); cases e; rfl
  | str x => obtain ⟨t, e⟩ := (show ∃ t, u = Value.str x t from r); cases e; rfl
  | byt b => obtain ⟨t, e⟩ := (show ∃ t, u = Value.bytes b t from r); cases e; rfl
  | flt b => obtain ⟨t, e⟩ := (show ∃ t, u = Value.float b t from r); cases e; rfl
  | ref a => cases (show u = Value.ref a from r); rfl
  | ty n => cases (show u = Value.type n from r); rfl

section
variable {P : Program} {w : World} {H H' : Hp} {h h' : Heap} {a C dx : Addr} {fs fs' : List (Str × V)}
theorem ins_get (hok : HOk P w H h) (e : H a = some (.ins C dx fs)) : ∃ mA, ObjM h a dx C mA ∧ (∀ f, RelO (fs.lookup f) (mA f)) ∧ PySem.Within mA (fs.map (·.1)) ∧ fs.length ≤ 1000 ∧ H dx = some (.own a) := by
  obtain ⟨d, z, ne, ob, mA, n, r, q⟩ := (show ObjOk P w H h a (.ins C dx fs) from hok a _ e)
  exact ⟨mA, ⟨ob, n, ne⟩, r, q, z, d⟩
end

/-! ### what of the text a class must have -/
structure Cls (K : PySem.W.Frag) (C : Addr) : Prop where
  pg : PySem.W.plainGet K C Str.empty = true
  hd : PySem.W.hasDictIn K C = true
  po : PySem.W.plainOver K C = true
  sa : PySem.W.findIn K (.ref C) "__setattr__" = some (some (.builtin "object.__setattr__"))
theorem Cls.get {K : PySem.W.Frag} {C : Addr} (c : Cls K C) (f : Str) : PySem.W.plainGet K C f = true := c.pg
/-- no class of it has the name -/
def NoAttr (K : PySem.W.Frag) (C : Addr) (f : Str) : Prop := PySem.W.findIn K (.ref C) f = some none
theorem NoAttr.taker {K : PySem.W.Frag} {C : Addr} {f : Str} (n : NoAttr K C f) : PySem.W.takerIn K C f = some none := by
  unfold PySem.W.takerIn
  rw [show PySem.W.findIn K (.ref C) f = some none from n]
  rfl
/-- a method: a plain def of the class or of one above it -/
structure Meth (K : PySem.W.Frag) (C : Addr) (m : Str) (f : Addr) : Prop where
  at_ : PySem.W.findIn K (.ref C) m = some (some (.ref f))
  fn : PySem.W.isFn K (.ref f) = true
  kp : PySem.W.keepIn K (.ref f) = true

section
variable {X : Cx} {pins : List (Addr × Obj)} {σ : St} {H : Hp} {s : Shared} {a C dx : Addr} {fs : List (Str × V)} {f : Str} {v : V} {A : Around} {E : Value → Shared → Prop}

theorem getattr_ok {b : Bool} {Q : Value → Shared → Prop} (I : Inv X pins σ H s) (e : H a = some (.ins C dx fs)) (c : Cls X.K C) (n : NoAttr X.K C f) (l : fs.lookup f = some v)
    (h : ∀ u s', Inv X pins σ H s' → RelV v u → Q u s') : wpAny (model X.prog X.w) A (getAttr (.ref a) f b) Q E s := by
  obtain ⟨mA, O, r, _, _, _⟩ := ins_get I.hok e
  obtain ⟨u, hu, ru⟩ := RelO.some_of (v := v) (o := mA f) (by rw [← l]; exact r f)
  exact get_map I.kIn O (c.get f) c.hd n hu (handed_of ru) (h u _ (I.tok _) ru)

theorem getmeth_ok {m : Str} {g : Addr} {pl : Sem Bool} {Q : Value × List Value → Shared → Prop} (I : Inv X pins σ H s) (e : H a = some (.ins C dx fs)) (c : Cls X.K C) (k : Meth X.K C m g) (l : fs.lookup m = none)
    (h : Q (.ref g, [.ref a]) s) : wpAny (model X.prog X.w) A (getMethod (.ref a) m pl) Q E s := by
  obtain ⟨mA, O, r, _, _, _⟩ := ins_get I.hok e
  have hn : mA m = none := RelO.none_of (by rw [← l]; exact r m)
  exact get_meth I.kIn O (c.get m) k.at_ k.fn hn h

theorem setattr_ok {y : V} {u : Value} {Q : Unit → Shared → Prop} (I : Inv X pins σ H s) (e : H a = some (.ins C dx fs)) (c : Cls X.K C) (n : NoAttr X.K C f) (hl : fs.length < 1000) (ry : RelV y u)
    (h : ∀ s', Inv X pins σ (upd H a (.ins C dx (putF f y fs))) s' → Q () s') : wpAny (model X.prog X.w) A (setAttr (.ref a) f u) Q E s := by
  obtain ⟨mA, O, r, wi, _, ho⟩ := ins_get I.hok e
  have hz : (fs.map (·.1)).length ≤ sizeLine := by rw [List.length_map, sizeLine_eq]; lia
  refine set_map I.kIn O c.sa c.po n.taker c.hd wi hz fun h' O' sb => h _ ?_
  have hd : ∃ o, h'.get? dx = some o := let ⟨o, _, _, e', _⟩ := O'.ns; ⟨o, e'⟩
  refine I.write (x := a) (e := dx) (by rw [e]; exact True.intro) (.inr ho) (fun b q hb z => (sb.2 b hb).trans z) hd ?_
  refine ⟨by rw [upd_ne O.ne]; exact ho, ?_, O.ne, O'.obj, _, O'.ns, fun g => ?_, fun g hg => ?_⟩
  · have := length_putF f y fs; lia
  · show RelO ((putF f y fs).lookup g) (if g = f then some u else mA g)
    rw [lookup_putF]
    by_cases q : g = f
    · rw [if_pos q, if_pos q]; exact ry
    · rw [if_neg q, if_neg q]; exact r g
  · by_cases q : g = f
    · rw [q]; exact (keys_putF f y fs).1
    · refine (keys_putF f y fs).2 g (wi g fun z => hg ?_)
      show (if g = f then some u else mA g) = none
      rw [if_neg q]; exact z

/-- a new instance, tracked, without attributes -/
theorem Inv.made (I : Inv X pins σ H s) : Inv X pins σ (upd (upd H s.heap.objs.size (.own (s.heap.objs.size + 1))) (s.heap.objs.size + 1) (.ins C s.heap.objs.size []))
    { s with heap := (s.heap.push PySem.W.emptyDict).push (PySem.W.instObj C s.heap.objs.size) } := by
  have e1 : (s.heap.push PySem.W.emptyDict).get? s.heap.objs.size = some PySem.W.emptyDict := Heap.get?_push_size s.heap rfl
  have e2 : ((s.heap.push PySem.W.emptyDict).push (PySem.W.instObj C s.heap.objs.size)).get? (s.heap.objs.size + 1) = some (PySem.W.instObj C s.heap.objs.size) := by
    have := Heap.get?_push_size (s.heap.push PySem.W.emptyDict) (o := PySem.W.instObj C s.heap.objs.size) rfl
    rwa [Heap.size_push] at this
  have e3 : (s.heap.push PySem.W.emptyDict).Ns s.heap.objs.size (fun _ => none) := ⟨PySem.W.emptyDict, #[], _, e1, rfl, (fun e he => absurd he (by simp)), fun _ => rfl⟩
  have I1 := I.laid (a := s.heap.objs.size) (o := .own (s.heap.objs.size + 1)) (h' := s.heap.push PySem.W.emptyDict) (t' := s.toks) (fun b u q => Heap.get?_push_of_some _ q) (Nat.le_refl _) ⟨_, e1⟩
  refine I1.laid (a := s.heap.objs.size + 1) (o := .ins C s.heap.objs.size []) (t' := s.toks) (fun b u q => Heap.get?_push_of_some _ q) (Nat.le_of_eq (Heap.size_push _ _)) ?_
  have ne : s.heap.objs.size ≠ s.heap.objs.size + 1 := Nat.ne_of_lt (Nat.lt_succ_self _)
  refine ⟨by rw [upd_ne ne, upd_same], Nat.zero_le _, ne, e2, fun _ => none, (Heap.Ns1.of_empty e3).at fun o q => Heap.get?_push_of_some _ q, fun _ => True.intro, fun y hy => absurd rfl hy⟩

/-- e.f where nothing but the object is asked: through attributeBase (super) and the last hold -/
theorem attr_of {prog : Program} {w : World} {env : Env} {e : Expr} {f : Str} {pos : Pos} {s : Shared} {Q : Value → Shared → Prop} (hb : attributeBase e f env (eval e env) = eval e env)
    (h : wpAny (model prog w) A (eval e env) (fun o s₁ => wpAny (model prog w) A (getAttr o f true) Q E s₁) E s) : wpAny (model prog w) A (eval (.Attribute e f pos) env) Q E s :=
  Attribute_any_ h (by rw [arm_eval_Attribute, hb])
end

/-! ### readings and rules -/
/-- e.f, an attribute of the instance -/
def tFld (K : PySem.W.Frag) (ta : TE) (f : Str) : TE := fun σ H Q => ta σ H fun x H1 => ∃ a C dx fs v, x = .ref a ∧ H1 a = some (.ins C dx fs) ∧ Cls K C ∧ NoAttr K C f ∧ fs.lookup f = some v ∧ Q v H1
/-- e.f = value -/
def sFld (K : PySem.W.Frag) (ta tv : TE) (f : Str) : TS := fun D σ H => tv σ H fun y H1 => ta σ H1 fun x H2 => ∃ a C dx fs, x = .ref a ∧ H2 a = some (.ins C dx fs) ∧ Cls K C ∧ NoAttr K C f ∧ fs.length < 1000 ∧
  D.nx σ (upd H2 a (.ins C dx (putF f y fs)))
section
variable {X : Cx} {o e value : Expr} {f : Str} {pos pos' tpos : Pos} {ta tv : TE}
theorem pe_fld (he : PE X e ta) (hb : attributeBase e f X.env (eval e X.env) = eval e X.env) : PE X (.Attribute e f pos) (tFld X.K ta f) := by
  intro pins s σ H Q I h
  refine attr_of hb (thn (he pins s σ H _ I h) fun u s1 ⟨x, H1, I1, rx, a, C, dx, fs, v, ex, ea, c, n, l, q⟩ => ?_)
  subst ex
  obtain rfl : u = Value.ref a := rx
  exact getattr_ok I1 ea c n l fun u' s2 I2 ru => ⟨v, H1, I2, ru, q⟩
theorem ps_fld (ha : PE X o ta) (hv : PE X value tv) (hs : swapsWith value (some (.Attribute o f pos')) pos.line X.env = pure false) : PS X (.Assign [.Attribute o f pos'] value pos) (sFld X.K ta tv f) := by
  intro pins s σ H D I h
  refine plainObj_wpAny_Assign_Attribute (thn (hv pins s σ H _ I h) fun u s1 ⟨y, H1, I1, ry, q⟩ => thn (ha pins s1 σ H1 _ I1 q) fun ov s2 ⟨x, H2, I2, rx, a, C, dx, fs, ex, ea, c, n, l, q2⟩ => ?_) hs
  subst ex
  obtain rfl : ov = Value.ref a := rx
  exact setattr_ok I2 ea c n l ry fun s3 I3 => ⟨σ, _, I3, q2⟩
end

/-! ### isinstance -/
section
variable {X : Cx} {pins : List (Addr × Obj)} {σ : St} {H : Hp} {s : Shared} {A : Around} {E : Value → Shared → Prop} {Q : Value → Shared → Prop} {c : Value} {b : Bool}
/-- the type of a value, as the fragment's deciders take it; for an instance its class -/
inductive TyOf (K : PySem.W.Frag) (H : Hp) : V → Value → Prop where
  | non : TyOf K H .non (.type "NoneType")
  | bl (x : Bool) : TyOf K H (.bl x) (.type "bool")
  | int (i : Int) : TyOf K H (.int i) (.type "int")
  | str (x : Str) : TyOf K H (.str x) (.type "str")
  | flt (x : UInt64) : TyOf K H (.flt x) (.type "float")
  | lst {a : Addr} {xs : List V} (e : H a = some (.lst xs)) : TyOf K H (.ref a) (.type "list")
  | frz {a : Addr} {o : Obj} {xs : List V} (e : H a = some (.frz o (.lst xs))) : TyOf K H (.ref a) (.type "list")
  | tup {a : Addr} {xs : List V} (e : H a = some (.tup xs)) : TyOf K H (.ref a) (.type "tuple")
  | dK {a : Addr} {kvs : List (Key × V)} (e : H a = some (.dK kvs)) : TyOf K H (.ref a) (.type "dict")
  | dT {a : Addr} {kvs : List (List Key × V)} (e : H a = some (.dT kvs)) : TyOf K H (.ref a) (.type "dict")
  | ins {a C dx : Addr} {fs : List (Str × V)} (e : H a = some (.ins C dx fs)) (cl : Cls K C) (ha : PySem.W.findIn K (.ref C) "__class__" = some (some (.builtin "object.__class__")))
      (hn : PySem.W.specialIn K (.builtin "object.__class__") "__get__" = some (some (.builtin "getset_descriptor.__get__"))) (htk : PySem.W.takesIn K (.builtin "object.__class__") = some true)
      (hm : PySem.W.mroIn K C (.type "object") = some true) : TyOf K H (.ref a) (.ref C)
/-- isinstance(x, c) for one class c, a built-in or an own one: kitOne's answer -/
theorem isinst_ok {x : V} {u t : Value} (I : Inv X pins σ H s) (rx : RelV x u) (ty : TyOf X.K H x t) (e : PySem.W.kitOne X.K t c = some b) (h : ∀ tk, Q (.bool b) { s with toks := tk }) :
    wpAny (model X.prog X.w) A (call (.builtin "isinstance") [u, c]) Q E s := by
  cases ty with
  | non => cases (show u = Value.none from rx); exact PySem.W.kia_one PySem.W.kitx_none I.kIn True.intro e (fun z => nomatch z) h
  | bl y => cases (show u = Value.bool y from rx); exact PySem.W.kia_one PySem.W.kitx_bool I.kIn True.intro e (fun z => nomatch z) h
  | int i => obtain ⟨t, q⟩ := (show ∃ t, u = Value.int i t from rx); cases q; exact PySem.W.kia_one PySem.W.kitx_int I.kIn True.intro e (fun z => nomatch z) h
  | str y => obtain ⟨t, q⟩ := (show ∃ t, u = Value.str y t from rx); cases q; exact PySem.W.kia_one PySem.W.kitx_str I.kIn True.intro e (fun z => nomatch z) h
  | flt y => obtain ⟨t, q⟩ := (show ∃ t, u = Value.float y t from rx); cases q; exact PySem.W.kia_one PySem.W.kitx_float I.kIn True.intro e (fun z => nomatch z) h
  | @lst a xs ea =>
    cases (show u = Value.ref a from rx)
    obtain ⟨_, _, n, _, h1⟩ := (show ObjOk X.prog X.w H s.heap a (.lst xs) from I.hok a _ ea)
    exact PySem.W.kia_one PySem.W.kitx_list I.kIn ⟨_, h1, rfl⟩ e (fun z => nomatch z) h
  | @frz a ob xs ea =>
    cases (show u = Value.ref a from rx)
    obtain ⟨_, _, _, n, _, h1⟩ := (show ObjOk X.prog X.w H s.heap a (.frz ob (.lst xs)) from I.hok a _ ea)
    exact PySem.W.kia_one PySem.W.kitx_list I.kIn ⟨_, h1, rfl⟩ e (fun z => nomatch z) h
  | @tup a xs ea =>
    cases (show u = Value.ref a from rx)
    obtain ⟨_, _, _, p⟩ := (show ObjOk X.prog X.w H s.heap a (.tup xs) from I.hok a _ ea)
    obtain ⟨o, h1, h2, _⟩ := p
    exact PySem.W.kia_one PySem.W.kitx_tuple I.kIn ⟨o, h1, h2⟩ e (fun z => nomatch z) h
  | @dK a kvs ea =>
    cases (show u = Value.ref a from rx)
    obtain ⟨_, _, vs, _, p⟩ := (show ObjOk X.prog X.w H s.heap a (.dK kvs) from I.hok a _ ea)
    obtain ⟨o, es, ep, h1, h2, _⟩ := p
    exact PySem.W.kia_one PySem.W.kitx_dict I.kIn ⟨o, h1, h2.1⟩ e (fun z => nomatch z) h
  | @dT a kvs ea =>
    cases (show u = Value.ref a from rx)
    obtain ⟨_, _, xs, _, o, es, ep, h1, h2, _⟩ := (show ObjOk X.prog X.w H s.heap a (.dT kvs) from I.hok a _ ea)
    exact PySem.W.kia_one PySem.W.kitx_dict I.kIn ⟨o, h1, h2.1⟩ e (fun z => nomatch z) h
  | @ins a C dx fs ea cl ha hn htk hm =>
    cases (show u = Value.ref a from rx)
    obtain ⟨mA, O, _⟩ := ins_get I.hok ea
    obtain ⟨od, J, _⟩ := O.look
    exact PySem.W.kia_one (PySem.W.kitx_own (cl.get _) cl.hd ha hn htk hm) I.kIn J e (fun z => nomatch z) h
end
end L2

namespace L2
open PySem PySem.Spec PyProof.Rows

/-! ### room -/
structure Room (k : Nat) (A : Around) : Prop where
  hd : A.handled = none
  dp : A.depth + 3 * k + 5 < recursionLimit
  un : A.units + 16 * k + 200 < cLine
theorem Room.mono {j k : Nat} {A : Around} (r : Room k A) (h : j ≤ k) : Room j A := ⟨r.hd, by have := r.dp; lia, by have := r.un; lia⟩
theorem Room.deeper {k : Nat} {A : Around} (r : Room (k + 1) A) (env : Env) : Room k (A.deeper env) :=
  ⟨r.hd, by have := r.dp; show A.depth + 1 + 3 * k + 5 < _; lia, by have := r.un; show A.units + 3 + 16 * k + 200 < _; lia⟩
theorem make_depth {A : Around} {C : Addr} {us : List Value} {kw : List (Str × Value)} : (A.under (.builtin "type.__call__" ⟨.ref C :: us, kw⟩)).depth = A.depth + 1 := by
  first | rfl | simp [Around.under, Code.weight, Code.isCreation, Code.isGuard, Code.isCaller, Code.frames, Code.isFrame, guardIds]
theorem make_units {A : Around} {C : Addr} {us : List Value} {kw : List (Str × Value)} : (A.under (.builtin "type.__call__" ⟨.ref C :: us, kw⟩)).units = A.units + 1 := by
  first | rfl | simp [Around.under, Code.cUnits, Code.frames, Code.isFrame]
theorem Room.make {k : Nat} {A : Around} (r : Room (k + 1) A) (C : Addr) (us : List Value) (kw : List (Str × Value)) : Room k (A.under (.builtin "type.__call__" ⟨.ref C :: us, kw⟩)) :=
  ⟨r.hd, by have := r.dp; rw [make_depth]; lia, by have := r.un; rw [make_units]; lia⟩
theorem Room.depth {k : Nat} {A : Around} (r : Room k A) : A.depth < recursionLimit := by have := r.dp; lia
theorem Room.units {k : Nat} {A : Around} (r : Room k A) : A.units + 64 < cLine := by have := r.un; lia
/-! ### argument lists and displays -/
def tNil : TA := fun _ H Q => Q [] H
def tCons (ta : TE) (tr : TA) : TA := fun σ H Q => ta σ H fun x H1 => tr σ H1 fun xs H2 => Q (x :: xs) H2
section
variable {X : Cx} {e : Expr} {es : List Expr} {te : TE} {t : TA} {pos : Pos}
theorem pa_nil : PA X [] tNil := fun _ _ _ _ H Q I h => Calls.spliced_nil ⟨[], H, I, .nil, h⟩
theorem pa_cons (ha : PE X e te) (hr : PA X es t) (hs : starEach (e :: es) X.env = (false, eval e X.env) :: starEach es X.env := by rfl) : PA X (e :: es) (tCons te t) := by
  intro pos pins s σ H Q I h
  rw [hs]
  show wpAny _ _ (spliced ((false, eval e X.env) :: backTo pos (starEach es X.env))) _ _ s
  refine Calls.spliced_cons (thn (ha pins s σ H _ I h) fun u s1 ⟨x, H1, I1, r1, q1⟩ => ?_)
  exact thn (hr pos pins s1 σ H1 _ I1 q1) fun us s2 ⟨xs, H2, I2, r2, q2⟩ => ⟨x :: xs, H2, I2, .cons r1 r2, q2⟩

/-- a tuple, a list of written items -/
def tTup (t : TA) : TE := fun σ H Q => t σ H fun xs H1 => xs.length ≤ sizeLine ∧ ∀ p, H1 p = none → Q (.ref p) (upd H1 p (.tup xs))
def tLst (t : TA) : TE := fun σ H Q => t σ H fun xs H1 => xs.length ≤ sizeLine ∧ ∀ p, H1 p = none → Q (.ref p) (upd H1 p (.lst xs))
theorem pe_tup {x1} (h : PA X es t) : PE X (.Tuple es x1 pos) (tTup t) := by
  intro pins s σ H Q I hq
  refine wpAny_Tuple_spliced (thn (h pos pins s σ H _ I hq) fun us s1 ⟨xs, H1, I1, r, z, q⟩ => ⟨by rw [← r.length]; exact z, ?_⟩)
  have hf : H1 s1.heap.objs.size = none := I1.hok.fresh (Nat.le_refl _)
  refine ⟨.ref s1.heap.objs.size, upd H1 s1.heap.objs.size (.tup xs), I1.laid (t' := s1.toks) (fun b u e => Heap.get?_push_of_some _ e) (Nat.le_refl _) ?_, rfl, q _ hf⟩
  exact ⟨z, us, r, ⟨_, Heap.get?_push_size _ rfl, rfl, _, rfl⟩⟩
theorem pe_lst (h : PA X es t) : PE X (.List es pos) (tLst t) := by
  intro pins s σ H Q I hq
  refine wpAny_List_spliced (thn (h pos pins s σ H _ I hq) fun us s1 ⟨xs, H1, I1, r, z, q⟩ => ⟨by rw [← r.length]; exact z, ?_⟩)
  have hf : H1 s1.heap.objs.size = none := I1.hok.fresh (Nat.le_refl _)
  refine ⟨.ref s1.heap.objs.size, upd H1 s1.heap.objs.size (.lst xs), I1.laid (t' := s1.toks) (fun b u e => Heap.get?_push_of_some _ e) (Nat.le_refl _) ?_, rfl, q _ hf⟩
  exact ⟨z, us, 0, r, Heap.get?_push_size _ rfl⟩
end

/-! ### what a def promises -/
/-- a def's promise: the bound arguments in the parameters' order, the heap, the wanted end, the wanted exception -/
abbrev Sp := List V → Hp → VK → XK → Prop
/-- how an exception lies behind a call (file 08 gives it): the callers' frames, abstract heap and state ahead of the call, the wish, the exception, the state -/
abbrev CXT := List Env → Hp → Shared → XK → Value → Shared → Prop

/-- the state at a call -/
structure Env0 (P : Program) (w : World) (K : PySem.W.Frag) (mg : Str → Option Value) (base : Heap) (A : Around) (outer : List Env) (s : Shared) (H : Hp) : Prop where
  frames : A.frames = some outer
  mod : Mod K mg base
  bs : ∀ b o, base.get? b = some o → s.heap.get? b = some o ∧ H b = none
  bsz : base.objs.size ≤ s.heap.objs.size
  funs : s.heap.FunFrames base outer
  frf : ∀ b ∈ frs outer, H b = none
  hok : HOk P w H s.heap
  bare : AllBare s.gens
/-- a call's end -/
def CE (outer : List Env) (P : Program) (w : World) (H : Hp) (s : Shared) (Q : VK) (u : Value) (s' : Shared) : Prop :=
  ∃ v H', s'.os = s.os ∧ AllBare s'.gens ∧ Un (frs outer) [] H H' s.heap s'.heap ∧ HOk P w H' s'.heap ∧ RelV v u ∧ Q v H'
def CR (CX : CXT) (outer : List Env) (P : Program) (w : World) (H : Hp) (s : Shared) (Q : VK) (E : XK) (r : Result) (s' : Shared) : Prop :=
  match r with
  | .ok (.ret u) => CE outer P w H s Q u s'
  | .ok _ => False
  | .error e => CX outer H s E e s'
structure FnOk (P : Program) (w : World) (K : PySem.W.Frag) (mg : Str → Option Value) (base : Heap) (CX : CXT) (k : Nat) (f : Addr) (fd : FuncData) (ps : List Str) (sp : Sp) : Prop where
  len : ∀ vs H Q E, sp vs H Q E → vs.length = ps.length
  run : ∀ (A : Around) (outer : List Env) (s : Shared) (H : Hp) (args : Args) (us : List Value) (vs : List V) (Q : VK) (E : XK), Room k A → Env0 P w K mg base A outer s H → BindsTo s fd args (ps.zip us) → Vals vs us → sp vs H Q E →
    codeAny (model P w) A (.call (.ref f) args) (CR CX outer P w H s Q E) s
theorem Env0.make {P : Program} {w : World} {K : PySem.W.Frag} {mg : Str → Option Value} {base : Heap} {A : Around} {outer : List Env} {s : Shared} {H : Hp} (e : Env0 P w K mg base A outer s H) (C : Addr) (us : List Value) (kw : List (Str × Value)) :
    Env0 P w K mg base (A.under (.builtin "type.__call__" ⟨.ref C :: us, kw⟩)) outer s H := ⟨by first | exact e.frames | (simpa [Around.under, Code.envs, Code.isFrame, pushEnvs] using e.frames), e.mod, e.bs, e.bsz, e.funs, e.frf, e.hok, e.bare⟩
section
variable {X : Cx} {pins : List (Addr × Obj)} {σ : St} {H : Hp} {s s' : Shared}
/-- from a body: what a callee wants -/
theorem Inv.env0 (I : Inv X pins σ H s) : Env0 X.prog X.w X.K X.mg X.base X.A X.stack s H :=
  ⟨I.ok.frames, I.ok.mod, I.bs, Nat.le_trans I.ok.bsz I.sz, I.stack, I.stkFree, I.hok, I.bare⟩
/-- behind a call -/
theorem Inv.after {Q : VK} {u : Value} (I : Inv X pins σ H s) (h : CE X.stack X.prog X.w H s Q u s') : EP X pins σ Q u s' := by
  obtain ⟨v, H', os, bare, un, hok, r, q⟩ := h
  obtain ⟨hh, g, d, t, os'⟩ := s'
  obtain rfl : os' = s.os := os
  exact ⟨v, H', I.call (h' := hh) (g' := g) (d' := d) (t' := t) (ch := []) un hok bare (fun b z => absurd z (by simp)), r, q⟩
end

/-! ### calls -/
/-- f(..): the written arguments, then the defaults dvs; E: what is wanted of an exception -/
def tCall (sp : Sp) (dvs : List V) (E : XK) (t : TA) : TE := fun σ H Q => t σ H fun vs H1 => sp (vs ++ dvs) H1 Q E
/-- o.m(..) of an instance of the class at C -/
def tMeth (C : Addr) (m : Str) (sp : Sp) (dvs : List V) (E : XK) (ta : TE) (t : TA) : TE := fun σ H Q => ta σ H fun x H1 => ∃ a dx fs, x = .ref a ∧ H1 a = some (.ins C dx fs) ∧ fs.lookup m = none ∧
  t σ H1 fun vs H2 => sp (x :: (vs ++ dvs)) H2 Q E
/-- C(..): a new instance and its dict, then __init__ -/
def tMake (C : Addr) (sp : Sp) (dvs : List V) (E : XK) (t : TA) : TE := fun σ H Q => t σ H fun vs H1 => ∀ x dx, H1 x = none → H1 dx = none → dx ≠ x →
  sp (.ref x :: (vs ++ dvs)) (upd (upd H1 dx (.own x)) x (.ins C dx [])) (fun v H2 => v = .non ∧ Q (.ref x) H2) E

/-- how the parameters are bound: us the positional arguments, kw the keywords' values by name, ds the defaults that fill up -/
def Binds (K : PySem.W.Frag) (fd : FuncData) (ps : List Str) (ds : List Value) : Prop :=
  ∀ (s : Shared) (us : List Value), K.In s.heap → (us ++ ds).length = ps.length → BindsTo s fd ⟨us, []⟩ (ps.zip (us ++ ds))
/-- every parameter is given -/
theorem Binds.all {K : PySem.W.Frag} {fd : FuncData} {ps : List Str} (h : ∀ us : List Value, us.length = ps.length → bindArgs fd ⟨us, []⟩ = pure (ps.zip us)) : Binds K fd ps [] := fun s us _ hl => by
  rw [List.append_nil] at hl ⊢
  exact .of_eq (h us hl)

/-- an exception of a callee reaches what this body wants of exceptions -/
def Passes (CX : CXT) (X : Cx) (E : XK) : Prop := ∀ (pins : List (Addr × Obj)) (σ : St) (H : Hp) (s : Shared) (e : Value) (s' : Shared), Inv X pins σ H s → CX X.stack H s E e s' → X.xe e s'

section
variable {X : Cx} {CX : CXT} {k : Nat} {f C : Addr} {fd : FuncData} {ps : List Str} {sp : Sp} {dvs : List V} {ds : List Value} {E : XK} {x m : Str} {p pos apos : Pos} {e o : Expr} {es : List Expr} {ta : TE} {t : TA}

/-- the callee runs -/
theorem run_fn {pins : List (Addr × Obj)} {σ : St} {H : Hp} {s : Shared} {Q : VK} {us : List Value} {vs : List V} (F : FnOk X.prog X.w X.K X.mg X.base CX k f fd ps sp) (hr : Room k X.A) (hb : Binds X.K fd ps ds) (hd : Vals dvs ds) (hx : Passes CX X E)
    (I : Inv X pins σ H s) (r : Vals vs us) (h : sp (vs ++ dvs) H Q E) : wpAny (model X.prog X.w) X.A (call (.ref f) us) (EP X pins σ Q) X.xe s := by
  have r2 : Vals (vs ++ dvs) (us ++ ds) := r.append hd
  have hl : (us ++ ds).length = ps.length := by rw [← r2.length]; exact F.len _ _ _ _ h
  refine wpAny_call (codeAny_mono (F.run X.A X.stack s H ⟨us, []⟩ (us ++ ds) (vs ++ dvs) Q E hr I.env0 (hb s us I.kIn hl) r2 h) fun r s' hq => ?_)
  cases r with
  | error e => exact hx pins σ H s e s' I hq
  | ok fl =>
    cases fl with
    | ret u => exact I.after hq
    | next => exact False.elim hq
    | brk => exact False.elim hq
    | cont => exact False.elim hq

theorem pe_call (F : FnOk X.prog X.w X.K X.mg X.base CX k f fd ps sp) (hr : Room k X.A) (hg : Gl X x) (hm : X.mg x = some (.ref f)) (hk : PySem.W.keepIn X.K (.ref f) = true) (hb : Binds X.K fd ps ds) (hd : Vals dvs ds) (hx : Passes CX X E)
    (ha : PA X (e :: es) t) (hdb : (x == ("__debug__" : Str)) = false := by decide) (he : starEach (e :: es) X.env = (false, eval e X.env) :: starEach es X.env := by rfl) (hpl : (backTo pos (starEach es X.env)).any (·.1) = false := by rfl) :
    PE X (.Call (.Name x p) (e :: es) [] pos) (tCall sp dvs E t) := by
  intro pins s σ H Q I h
  refine wpAny_Call_Name_kw (ld_glob I hg hm ?_ hdb)
  refine PySem.W.callWith_K (h₀ := X.base) I.ok.mod.kin hk (thn (ha pos pins s σ H _ I h) fun us s1 ⟨vs, H1, I1, r, q⟩ => ⟨I1.kIn, ?_⟩) he hpl
  exact run_fn F hr hb hd hx I1 r q
/-- o.m(e, ..) -/
theorem pe_meth {pl : Sem Bool} (he : PE X o ta) (c : Cls X.K C) (hm : Meth X.K C m f) (F : FnOk X.prog X.w X.K X.mg X.base CX k f fd ps sp) (hr : Room k X.A) (hb : Binds X.K fd ps ds) (hd : Vals dvs ds) (hx : Passes CX X E) (ha : PA X (e :: es) t)
    (hst : starEach (e :: es) X.env = (false, eval e X.env) :: starEach es X.env := by rfl) (hpl : (backTo pos (starEach es X.env)).any (·.1) = false := by rfl)
    (ht : eval (.Call (.Attribute o m apos) (e :: es) [] pos) X.env = (do
      let ov ← eval o X.env
      standAt apos.atName
      let (f, first) ← holding [ov] (getMethod ov m pl)
      callWith pos f first (backTo pos (starEach (e :: es) X.env)) (backToKw pos (keywordEach [] X.env))) := by rfl) :
    PE X (.Call (.Attribute o m apos) (e :: es) [] pos) (tMeth C m sp dvs E ta t) := by
  intro pins s σ H Q I h
  refine PySem.W.methodCall_KW (pl := pl) (thn (he pins s σ H _ I h) fun u s1 ⟨x, H1, I1, rx, a, dx, fs, ex, ea, l, q⟩ => ?_) ht
  subst ex
  obtain rfl : u = Value.ref a := rx
  refine getmeth_ok I1 ea c hm l ?_
  refine PySem.W.callWith_K (first := [.ref a]) (h₀ := X.base) I.ok.mod.kin hm.kp (thn (ha pos pins s1 σ H1 _ I1 q) fun us s2 ⟨vs, H2, I2, r, q2⟩ => ⟨I2.kIn, ?_⟩) hst hpl
  exact run_fn (us := .ref a :: us) (vs := .ref a :: vs) F hr hb hd hx I2 (.cons rfl r) q2
/-- what a class must have to be made -/
structure Mk (K : PySem.W.Frag) (C f : Addr) : Prop where
  makes : PySem.W.makesIn K C = true
  init : PySem.W.findIn K (.ref C) "__init__" = some (some (.ref f))
  fn : PySem.W.isFn K (.ref f) = true
  kp : PySem.W.keepIn K (.ref C) = true

theorem run_make {pins : List (Addr × Obj)} {σ : St} {H : Hp} {s : Shared} {Q : VK} {us : List Value} {vs : List V} (M : Mk X.K C f) (F : FnOk X.prog X.w X.K X.mg X.base CX k f fd ps sp) (hr : Room (k + 1) X.A) (hb : Binds X.K fd ps ds) (hd : Vals dvs ds)
    (hx : Passes CX X E) (I : Inv X pins σ H s) (r : Vals vs us)
    (h : ∀ x dx, H x = none → H dx = none → dx ≠ x → sp (.ref x :: (vs ++ dvs)) (upd (upd H dx (.own x)) x (.ins C dx [])) (fun v H2 => v = .non ∧ Q (.ref x) H2) E) :
    wpAny (model X.prog X.w) X.A (call (.ref C) us) (EP X pins σ Q) X.xe s := by
  have hq := h (s.heap.objs.size + 1) s.heap.objs.size (I.hok.fresh (Nat.le_succ _)) (I.hok.fresh (Nat.le_refl _)) (Nat.ne_of_lt (Nat.lt_succ_self _))
  have I2 := Inv.made (C := C) I
  have r2 : Vals (V.ref (s.heap.objs.size + 1) :: (vs ++ dvs)) (Value.ref (s.heap.objs.size + 1) :: (us ++ ds)) := .cons rfl (r.append hd)
  have hl : (Value.ref (s.heap.objs.size + 1) :: us ++ ds).length = ps.length := by
    have e := r2.length
    rw [F.len _ _ _ _ hq] at e
    exact e.symm
  refine wpAny_call (make_map (f := f) I.kIn M.makes M.init (beq_iff_eq.mp M.fn) (codeAny_mono (F.run _ X.stack _ _ ⟨Value.ref (s.heap.objs.size + 1) :: us, []⟩ (Value.ref (s.heap.objs.size + 1) :: (us ++ ds)) _ _ E (hr.make C us [])
    (I2.env0.make C us []) (hb _ (Value.ref (s.heap.objs.size + 1) :: us) I2.kIn hl) r2 hq) fun r s' hq' => ?_))
  cases r with
  | error e => exact hx pins σ _ _ e s' I2 hq'
  | ok fl =>
    cases fl with
    | ret u =>
      obtain ⟨v, H', I3, rv, ev, q3⟩ := I2.after hq'
      subst ev
      exact ⟨rv, ⟨V.ref (s.heap.objs.size + 1), H', I3, rfl, q3⟩⟩
    | next => exact False.elim hq'
    | brk => exact False.elim hq'
    | cont => exact False.elim hq'
theorem pe_make0 (M : Mk X.K C f) (F : FnOk X.prog X.w X.K X.mg X.base CX k f fd ps sp) (hr : Room (k + 1) X.A) (hg : Gl X x) (hm : X.mg x = some (.ref C)) (hb : Binds X.K fd ps ds) (hd : Vals dvs ds) (hx : Passes CX X E)
    (hdb : (x == ("__debug__" : Str)) = false := by decide) : PE X (.Call (.Name x p) [] [] pos) (tMake C sp dvs E tNil) := by
  intro pins s σ H Q I h
  refine wpAny_Call_Name_kw (ld_glob I hg hm ?_ hdb)
  exact PySem.W.callWith_K0 I.kIn M.kp (run_make (us := []) M F hr hb hd hx I .nil h)
end

/-! ### keywords -/
section
variable {X : Cx} {CX : CXT} {k : Nat} {f C : Addr} {fd : FuncData} {ps ks : List Str} {sp : Sp} {E : XK} {x m : Str} {p pos apos kpos : Pos} {e o : Expr} {es : List Expr} {kws : List Keyword} {te ta : TE} {t tk : TA} {nm : Option Str}
variable {g : List Value → List Value → List Value} {gV : List V → List V → List V}
end

/-! ### a def's body keeps its promise -/
/-- names: the parameters first -/
structure FnScope (N P : List Str) (sc : Scope) : Prop where
  kind : sc.kind = .function
  co : sc.isCoroutine = false
  gen : sc.isGenerator = false
  nd : N.Nodup
  pre : N.take P.length = P
  par : ∀ x ∈ P, sc.names.lookup x = some .local ∨ sc.names.lookup x = some .cell
  nofree : ∀ y ∈ sc.names, y.2 ≠ .free

theorem bindL_out {kindOf : Str → Option NameKind} {x : Str} : ∀ {binds : List (Str × Value)} {m : Str → Option Value}, (∀ v, (x, v) ∉ binds) → bindL kindOf binds m x = m x
  | [], _, _ => rfl
  | (n, v) :: r, m, h => by
    unfold bindL
    rw [bindL_out fun w hw => h w (List.mem_cons_of_mem _ hw)]
    split
    · have : x ≠ n := by rintro rfl; exact h v List.mem_cons_self
      simp [this]
    · rfl
theorem bindC_out {kindOf : Str → Option NameKind} {x : Str} : ∀ {binds : List (Str × Value)} {m : Str → Option Value}, (∀ v, (x, v) ∉ binds) → bindC kindOf binds m x = m x
  | [], _, _ => rfl
  | (n, v) :: r, m, h => by
    unfold bindC
    rw [bindC_out fun w hw => h w (List.mem_cons_of_mem _ hw)]
    split
    · rfl
    · have : x ≠ n := by rintro rfl; exact h v List.mem_cons_self
      simp [this]
theorem bindL_get {kindOf : Str → Option NameKind} {x : Str} {v : Value} : ∀ {P : List Str} {vs : List Value} {i : Nat} {m : Str → Option Value}, P.Nodup → P[i]? = some x → vs[i]? = some v → kindOf x = some .local →
    bindL kindOf (P.zip vs) m x = some v
  | [], _, _, _, _, h, _, _ => by simp at h
  | _ :: _, [], _, _, _, _, h, _ => by simp at h
  | p :: P, w :: vs, 0, m, nd, h1, h2, hk => by
    simp at h1 h2; subst h1; subst h2
    show bindL kindOf ((p, w) :: P.zip vs) m p = _
    unfold bindL
    rw [bindL_out fun v hv => (List.nodup_cons.mp nd).1 (List.of_mem_zip hv).1, if_pos hk]
    simp
  | p :: P, w :: vs, i + 1, m, nd, h1, h2, hk => by
    show bindL kindOf ((p, w) :: P.zip vs) m x = _
    unfold bindL
    exact bindL_get (i := i) (List.nodup_cons.mp nd).2 (by simpa using h1) (by simpa using h2) hk
theorem bindC_get {kindOf : Str → Option NameKind} {x : Str} {v : Value} : ∀ {P : List Str} {vs : List Value} {i : Nat} {m : Str → Option Value}, P.Nodup → P[i]? = some x → vs[i]? = some v → kindOf x ≠ some .local →
    bindC kindOf (P.zip vs) m x = some v
  | [], _, _, _, _, h, _, _ => by simp at h
  | _ :: _, [], _, _, _, _, h, _ => by simp at h
  | p :: P, w :: vs, 0, m, nd, h1, h2, hk => by
    simp at h1 h2; subst h1; subst h2
    show bindC kindOf ((p, w) :: P.zip vs) m p = _
    unfold bindC
    rw [bindC_out fun v hv => (List.nodup_cons.mp nd).1 (List.of_mem_zip hv).1, if_neg hk]
    simp
  | p :: P, w :: vs, i + 1, m, nd, h1, h2, hk => by
    show bindC kindOf ((p, w) :: P.zip vs) m x = _
    unfold bindC
    exact bindC_get (i := i) (List.nodup_cons.mp nd).2 (by simpa using h1) (by simpa using h2) hk

/-- the names' values at the entry -/
def start (N : List Str) (vs : List V) : St := vs.map some ++ List.replicate (N.length - vs.length) none

/-- the context of a def's body, at its entry; an exception leaves the frame, then lies as CX says -/
def cxOf (CX : CXT) (P : Program) (w : World) (K : PySem.W.Frag) (mg : Str → Option Value) (base : Heap) (N : List Str) (qual : Str) (scope : Scope) (f : Addr) (cd : Value) (A : Around) (outer : List Env) (s : Shared) (H : Hp) (E : XK) : Cx where
  prog := P
  w := w
  K := K
  mg := mg
  base := base
  A := A.deeper (envOfC qual scope s.heap.objs.size f cd)
  N := N
  s₀ := s
  H₀ := H
  env := envOfC qual scope s.heap.objs.size f cd
  outer := outer
  stack := envOfC qual scope s.heap.objs.size f cd :: outer
  ex := []
  calm := true
  fn := fun _ => true
  pn := []
  xe := fun e s' => wpAny (model P w) (A.deeper (envOfC qual scope s.heap.objs.size f cd)) (leaving (envOfC qual scope s.heap.objs.size f cd) e) (fun _ s'' => CX outer H s E e s'') (fun e' s'' => CX outer H s E e' s'') s'

theorem cell_has {sc : Scope} {n : Nat} {x : Str} (h : sc.names.lookup x = some .cell) : ∃ c, (cellsFrom n sc.names []).lookup x = some c := by
  have q := PySem.W.cellsFrom_some sc.names n [] (.inl h)
  exact Option.isSome_iff_exists.mp q

theorem inv_start {CX : CXT} {P : Program} {w : World} {K : PySem.W.Frag} {mg : Str → Option Value} {base : Heap} {N ps : List Str} {qual : Str} {scope : Scope} {f : Addr} {cd : Value} {A : Around} {outer : List Env} {s s1 : Shared} {H : Hp} {E : XK} {us : List Value} {vs : List V}
    (S : FnScope N ps scope) (hd : A.handled = none) (e0 : Env0 P w K mg base A outer s H) (hl : vs.length = ps.length) (r : Vals vs us)
    (x : InCallC s s.heap.objs.size (bindL (envOfC qual scope s.heap.objs.size f cd).kindOf (ps.zip us) fun _ => none) (cellsFrom (s.heap.objs.size + 1) scope.names []) (bindC (envOfC qual scope s.heap.objs.size f cd).kindOf (ps.zip us) fun _ => none) s1) :
    Inv (cxOf CX P w K mg base N qual scope f cd A outer s H E) [] (start N vs) H s1 := by
  have hpl : ps.length ≤ N.length := by have := congrArg List.length S.pre; rw [List.length_take] at this; lia
  obtain ⟨h1, tk, rfl, hk⟩ := x.done
  have noA : ∀ b : Addr, b ∉ (cxOf CX P w K mg base N qual scope f cd A outer s H E).ex := fun b z => absurd (show b ∈ ([] : List Addr) from z) (by simp)
  refine ⟨⟨e0.mod, S.kind, rfl, rfl, Nat.le_refl _, fun y z c h1 h2 => ?_, fun y hy => ?_, fun y c _ h => ?_, fun _ => hd, Around.frames_deeper e0.frames, .inr ⟨rfl, rfl⟩, fun b z => absurd z (noA b), e0.bs, e0.bsz, fun b _ _ => noA b, fun b z => absurd z (noA b), e0.funs, e0.frf⟩,
    rfl, e0.bare, Un.kept hk, ⟨_, x.toInCall.ns, fun i y v h1 h2 h3 => ?_⟩, fun y c h => ⟨_, x.cell y c h⟩, e0.hok.fresh (Nat.le_refl _), fun y c h => ?_, fun p hp => absurd (show p ∈ ([] : List (Addr × Obj)) from hp) (by simp), e0.hok.kept hk, ?_⟩
  · exact name_of_addr x.apart (PySem.mem_of_lookup h1) (PySem.mem_of_lookup h2)
  · have hy : scope.names.lookup y = some .cell ∨ scope.names.lookup y = some .free := hy
    rcases hy with hy | hy
    · exact cell_has hy
    · exact absurd rfl (S.nofree _ (PySem.mem_of_lookup hy))
  · exact Nat.le_of_lt (x.above y c (PySem.mem_of_lookup h))
  · have hi : i < vs.length := by
      unfold start at h2
      by_cases hi : i < vs.length
      · exact hi
      · rw [List.getElem?_append_right (by simpa using hi)] at h2
        rw [List.getElem?_replicate] at h2
        split at h2 <;> cases h2
    have ha : vs[i]? = some v := by
      unfold start at h2
      rw [List.getElem?_append_left (by simpa using hi), List.getElem?_map] at h2
      cases e : vs[i]? with
      | none => rw [e] at h2; cases h2
      | some a => rw [e] at h2; cases h2; rfl
    obtain ⟨u, hu, rv⟩ := r.get ha
    have hp : ps[i]? = some y := by
      rw [← S.pre, List.getElem?_take_of_lt (by lia)]; exact h1
    have ndP : ps.Nodup := by rw [← S.pre]; exact S.nd.sublist (List.take_sublist _ _)
    refine ⟨u, rv, ?_⟩
    rcases S.par y (List.mem_of_getElem? hp) with k | k
    · exact .inl ⟨k, bindL_get ndP hp hu k⟩
    · obtain ⟨c, e⟩ := cell_has (n := s.heap.objs.size + 1) k
      refine .inr ⟨.inl k, c, e, ?_⟩
      have q := x.cell y c e
      rw [bindC_get ndP hp hu (by show scope.names.lookup y ≠ _; rw [k]; decide)] at q
      exact q
  · exact e0.hok.fresh (Nat.le_of_lt (x.above y c (PySem.mem_of_lookup h)))
  · unfold start
    show _ = N.length
    rw [List.length_append, List.length_map, List.length_replicate]
    lia

/-- THE RULE: a def (or a method) of the text, by its body. The body's reading t is chosen for each entry; it is run at the parameters' values -/
theorem fn_of {CX : CXT} {P : Program} {w : World} {K : PySem.W.Frag} {mg : Str → Option Value} {base : Heap} {k : Nat} {f : Addr} {name qual : Str} {params : Arguments} {body : List Stmt} {scope : Scope} {dV kV doc pm cdv ct oc : Value} {an od : Option Addr}
    {osl : Array (Option Value)} {N ps : List Str} {sp : Sp} (lk : K.lookup f = some ⟨oc, od, .func (PySem.W.fnOf name qual params body scope dV kV doc pm an cdv ct), osl⟩) (hcd : PySem.W.codeIn K cdv qual = true) (S : FnScope N ps scope)
    (len : ∀ vs H Q E, sp vs H Q E → vs.length = ps.length)
    (hbody : ∀ (A : Around) (outer : List Env) (s : Shared) (H : Hp) (vs : List V) (Q : VK) (E : XK), Room k (A.deeper (envOfC qual scope s.heap.objs.size f cdv)) → sp vs H Q E →
      ∃ t, PSs (cxOf CX P w K mg base N qual scope f cdv A outer s H E) body t ∧ t { nx := fun _ H' => Q .non H', rt := Q } (start N vs) H) :
    FnOk P w K mg base CX (k + 1) f (PySem.W.fnOf name qual params body scope dV kV doc pm an cdv ct) ps sp := by
  refine ⟨len, fun A outer s H args us vs Q E hr e0 hb r hsp => ?_⟩
  have hl := len _ _ _ _ hsp
  have KX : K.In s.heap := e0.mod.kin.keeps fun b o e => (e0.bs b o e).1
  have lim : s.heap.NoLimit := e0.mod.nolimit.keeps fun b o e => (e0.bs b o e).1
  have hkind : ∀ y ∈ ps.zip us, scope.names.lookup y.1 = some .local ∨ (scope.names.lookup y.1 = some .cell ∧ ((cellsFrom (s.heap.objs.size + 1) scope.names []).lookup y.1).isSome = true) := fun ⟨n, v⟩ hy => by
    rcases S.par n (List.of_mem_zip hy).1 with q | q
    · exact .inl q
    · exact .inr ⟨q, PySem.W.cellsFrom_some _ _ _ (.inl q)⟩
  refine codeAny_call_function hr.depth (KX _ _ lk) rfl S.co S.gen rfl (PySem.W.codeRec_of KX hcd) (hb _ _ _ _ ?_)
  refine wpAny_newFunctionEnv_cells S.kind hkind fun env he s1 x => ?_
  subst he
  refine ⟨lim.keeps x.toInCall.keep, codeAny_func ?_⟩
  obtain ⟨t, ht, hq⟩ := hbody A outer s H vs Q E (hr.deeper _) hsp
  have I : Inv (cxOf CX P w K mg base N qual scope f cdv A outer s H E) [] (start N vs) H s1 := inv_start S hr.hd e0 hl r x
  refine wpAny_mono (ht [] s1 (start N vs) H _ I hq) (fun fl s' hs => ?_) fun e s' hs => hs
  have fin : ∀ {σ' : St} {H' : Hp} {v : V} {u : Value}, Inv (cxOf CX P w K mg base N qual scope f cdv A outer s H E) [] σ' H' s' → RelV v u → Q v H' → CE outer P w H s Q u s' :=
    fun {σ' H' v u} J rv q => ⟨v, H', J.os, J.bare, J.base, J.hok, rv, q⟩
  cases fl with
  | ret u =>
    obtain ⟨v, σ', H', J, rv, q⟩ := hs
    exact fin J rv q
  | next =>
    obtain ⟨σ', H', J, q⟩ := hs
    exact fin (v := V.non) (u := Value.none) J rfl q
  | brk =>
    obtain ⟨_, _, _, q⟩ := hs
    exact False.elim q
  | cont =>
    obtain ⟨_, _, _, q⟩ := hs
    exact False.elim q
end L2

namespace L2
open PySem PySem.Spec PyProof.Rows
section
variable {X : Cx} {x : Str} {p pos : Pos} {e : Expr} {es : List Expr} {t : TA} {id T : String} {r : List V → Hp → VK → Prop}

def tCB (r : List V → Hp → VK → Prop) (t : TA) : TE := fun σ H Q => t σ H fun vs H1 => r vs H1 Q
/-- f(e, ..), f a built-in function -/
theorem pe_callB (hc : CallR X (.builtin id) r) (hg : Gl X x) (hm : X.mg x = none) (hv : bootBuiltins x = some (.builtin id)) (ha : PA X (e :: es) t) (hn : x ≠ "__name__" := by decide) (hdb : (x == ("__debug__" : Str)) = false := by decide)
    (he : starEach (e :: es) X.env = (false, eval e X.env) :: starEach es X.env := by rfl) (hpl : (backTo pos (starEach es X.env)).any (·.1) = false := by rfl) : PE X (.Call (.Name x p) (e :: es) [] pos) (tCB r t) := by
  intro pins s σ H Q I h
  refine wpAny_Call_Name_kw (ld_blt I hg hm hv ?_ hn hdb)
  exact PyProof.Rows.callWith_builtin1 (thn (ha pos pins s σ H _ I h) fun us s1 ⟨vs, H1, I1, r1, q1⟩ => hc pins s1 σ H1 vs us Q I1 r1 q1) he hpl
/-- T(e, ..), T a built-in type -/
theorem pe_callTy (hc : CallR X (.type T) r) (hg : Gl X x) (hm : X.mg x = none) (hv : bootBuiltins x = some (.type T)) (ha : PA X (e :: es) t) (hn : x ≠ "__name__" := by decide) (hdb : (x == ("__debug__" : Str)) = false := by decide)
    (he : starEach (e :: es) X.env = (false, eval e X.env) :: starEach es X.env := by rfl) (hpl : (backTo pos (starEach es X.env)).any (·.1) = false := by rfl) : PE X (.Call (.Name x p) (e :: es) [] pos) (tCB r t) := by
  intro pins s σ H Q I h
  refine wpAny_Call_Name_kw (ld_blt I hg hm hv ?_ hn hdb)
  exact PyProof.Rows.callWith_type1 (thn (ha pos pins s σ H _ I h) fun us s1 ⟨vs, H1, I1, r1, q1⟩ => hc pins s1 σ H1 vs us Q I1 r1 q1) he hpl
end
end L2

namespace HT
open PySem PyProof.Rows

section
open PySem.SeqAt
open PySem.AutoSeq1 (wpAny_loadPart')
open PySem.MeetsSeq PySem.MeetsSeq2 PySem.MeetsSeq3

end

section
variable {prog : Program} {w : World} {A : Around} {E : Value → Shared → Prop} {s : Shared}

/-! ### t[a:b], not the whole -/
end
end HT

namespace L2
open PySem PySem.Spec PyProof.Rows

/-! ### the parts of a slice -/
section
variable {X : Cx} {e : Expr} {te : TE} {lo hi : Option Expr} {tl th : TO} {pos p2 : Pos}

/-! ### t < u, t + u -/
end
end L2

namespace L2
open PySem PySem.Spec PyProof.Rows

/-! ### places -/
/-- the place that an index of any sign means -/
def ixN (n : Nat) (i : Int) : Option Nat := if 0 ≤ i then (if i < n then some i.toNat else none) else if -(n : Int) ≤ i then some (i + n).toNat else none
def atI {α : Type} (xs : List α) (i : Int) : Option α := (ixN xs.length i).bind fun j => xs[j]?
theorem ixN_seq {n : Nat} {i : Int} {j : Nat} (h : ixN n i = some j) : seqIndex? i n = some j ∧ j < n ∧ -(n : Int) ≤ i ∧ i < n := by
  unfold ixN at h
  by_cases h0 : 0 ≤ i
  · rw [if_pos h0] at h
    by_cases h1 : i < n
    · rw [if_pos h1] at h
      have e : i.toNat = j := Option.some.inj h
      exact ⟨by rw [seqIndex_of h0 h1, e], by lia, by lia, h1⟩
    · rw [if_neg h1] at h; cases h
  · rw [if_neg h0] at h
    by_cases h1 : -(n : Int) ≤ i
    · rw [if_pos h1] at h
      have e : (i + n).toNat = j := Option.some.inj h
      exact ⟨by rw [seqIndex_neg (by lia) h1, e], by lia, h1, by lia⟩
    · rw [if_neg h1] at h; cases h
theorem atI_get {α : Type} {xs : List α} {i : Int} {v : α} (h : atI xs i = some v) : ∃ j, seqIndex? i xs.length = some j ∧ xs[j]? = some v ∧ j < xs.length ∧ -(xs.length : Int) ≤ i ∧ i < xs.length := by
  unfold atI at h
  cases e : ixN xs.length i with
  | none => rw [e] at h; cases h
  | some j =>
    rw [e] at h
    obtain ⟨h1, h2, h3, h4⟩ := ixN_seq e
    exact ⟨j, h1, h, h2, h3, h4⟩
theorem atI_nat {α : Type} {xs : List α} {j : Nat} {v : α} (h : xs[j]? = some v) : atI xs (j : Int) = some v := by
  have hj : j < xs.length := (List.getElem?_eq_some_iff.mp h).1
  have e : ixN xs.length (j : Int) = some j := by
    unfold ixN
    rw [if_pos (by lia), if_pos (by lia)]; simp
  unfold atI; rw [e]; exact h
/-! ### what may be subscripted -/
/-- what stands as an index of a plain subscript -/
def PlainIx (b : Expr) : Prop := ∀ o i, subscripted b false o i = operate [o, i] (getItem o i)
/-- a subscript by values -/
def IxR (X : Cx) (r : R2) : Prop :=
  ∀ (value slice : Expr) (pins : List (Addr × Obj)) (s : Shared) (σ : St) (H : Hp) (x y : V) (v u : Value) (Q : VK), Inv X pins σ H s → RelV x v → RelV y u → r x y H Q →
    subscripted slice false v u = operate [v, u] (getItem v u) → wpAny (model X.prog X.w) X.A (subscriptTail value slice v u) (EP X pins σ Q) X.xe s
/-- a call of a builtin's method by values: the receiver, the arguments -/
def MtR (X : Cx) (id : String) (r : V → List V → Hp → VK → Prop) : Prop :=
  ∀ (pins : List (Addr × Obj)) (s : Shared) (σ : St) (H : Hp) (x : V) (xs : List V) (v : Value) (us : List Value) (Q : VK), Inv X pins σ H s → RelV x v → Vals xs us → r x xs H Q →
    wpAny (model X.prog X.w) X.A (call (.builtin id) (v :: us)) (EP X pins σ Q) X.xe s
section
variable {X : Cx} {a b : Expr} {ta tb : TE} {pos : Pos}
/-- a[b] -/
theorem pe_ix {r : R2} (hr : IxR X r) (ha : PE X a ta) (hb : PE X b tb) (hs : PlainIx b) : PE X (.Subscript a b pos) (tOp r ta tb) := by
  intro pins s σ H Q I h
  exact Subscript_ (binT ha hb I h fun v u s2 x y H2 I2 rx ry q => hr a b pins s2 σ H2 x y v u Q I2 rx ry q (hs _ _))

def rIxL (K : PySem.W.Frag) : R2 := fun x y H Q => ∃ p xs i v, x = .ref p ∧ y = .int i ∧ SqL K H p xs ∧ atI xs i = some v ∧ Q v H
def rIxT (K : PySem.W.Frag) : R2 := fun x y H Q => ∃ p xs i v, x = .ref p ∧ y = .int i ∧ SqT K H p xs ∧ atI xs i = some v ∧ Q v H
theorem ix_list : IxR X (rIxL X.K) := by
  intro value slice pins s σ H x y v u Q I rx ry h hs
  obtain ⟨p, xs, i, z, rfl, rfl, hq, he, q⟩ := h
  cases rx
  obtain ⟨t, rfl⟩ := ry
  obtain ⟨its, r, pl, hz⟩ := I.list hq
  obtain ⟨j, h1, h2, h3, h4, h5⟩ := atI_get he
  obtain ⟨w, ew, rw'⟩ := r.get h2
  have hl := r.length
  have hn := line63
  have fin : EP X pins σ Q w s := ⟨z, H, I, rw', q⟩
  by_cases h0 : 0 ≤ i
  · have hj : i.toNat = j := by
      rw [seqIndex_of h0 h5] at h1
      exact Option.some.inj h1
    exact item_listR pl.isList h0 (by lia) (by rw [hj]; simpa using ew) fin hs
  · have hj : (i + (its.toArray.size : Int)).toNat = j := by
      rw [seqIndex_neg (by lia) h4] at h1
      rw [List.size_toArray, ← hl]
      exact Option.some.inj h1
    exact subscriptTail_builtinR (x := w) pl.isList.typeIs slot_list_getitem.lookup
      (wpAny_getItem_list_neg (Q := fun r s' => r = w ∧ EP X pins σ Q r s') pl.isList (by lia) (by rw [List.size_toArray] <;> lia) (by lia) (by rw [hj]; simpa using ew) ⟨rfl, fin⟩) hs
theorem ix_tup : IxR X (rIxT X.K) := by
  intro value slice pins s σ H x y v u Q I rx ry h hs
  obtain ⟨p, xs, i, z, rfl, rfl, hq, he, q⟩ := h
  cases rx
  obtain ⟨t, rfl⟩ := ry
  obtain ⟨its, r, pl, hz⟩ := I.tuple hq
  obtain ⟨j, h1, h2, h3, h4, h5⟩ := atI_get he
  obtain ⟨w, ew, rw'⟩ := r.get h2
  have hl := r.length
  have hn := line63
  have fin : EP X pins σ Q w s := ⟨z, H, I, rw', q⟩
  exact subscriptTail_builtinR (x := w) pl.typeIs slot_tuple_getitem.lookup
    (getItem_tuple (j := j) (Q := fun r s' => r = w ∧ EP X pins σ Q r s') pl (by lia) (by lia) (by rw [List.size_toArray, ← hl]; exact h1) (by simpa using ew) ⟨rfl, fin⟩) hs
/-! ### xs[i] = v, any sign -/
/-- the list's object behind a store -/
theorem mapSeq_set (its : List Value) (n j : Nat) (u : Value) : Obj.mapSeq (·.setIfInBounds j u) { cls := .type "list", data := .seq its.toArray n } = { cls := .type "list", data := .seq (its.set j u).toArray n } := by
  simp [Obj.mapSeq]
theorem Inv.lst {pins : List (Addr × Obj)} {σ : St} {H : Hp} {s : Shared} {p : Addr} {xs : List V} (I : Inv X pins σ H s) (h : H p = some (.lst xs)) :
    ∃ (its : List Value) (n : Nat), Vals xs its ∧ s.heap.get? p = some { cls := .type "list", data := .seq its.toArray n } ∧ xs.length ≤ sizeLine := by
  obtain ⟨z, its, n, r, e⟩ := I.hok p _ h
  exact ⟨its, n, r, e, z⟩
/-- the list at p is written by an update of its object -/
theorem Inv.lstUpd {pins : List (Addr × Obj)} {σ : St} {H : Hp} {s : Shared} {p : Addr} {xs ys : List V} {its its' : List Value} {n n' : Nat} {f : Obj → Obj} (I : Inv X pins σ H s) (h : H p = some (.lst xs))
    (ho : s.heap.get? p = some { cls := .type "list", data := .seq its.toArray n }) (hf : f { cls := .type "list", data := .seq its.toArray n } = { cls := .type "list", data := .seq its'.toArray n' }) (r : Vals ys its') (hz : ys.length ≤ sizeLine) (t : Nat) :
    Inv X pins σ (upd H p (.lst ys)) { s with heap := s.heap.update p f, toks := t } := by
  have e : (s.heap.update p f).get? p = some { cls := .type "list", data := .seq its'.toArray n' } := by
    rw [Heap.get?_update_self f ho (by rw [hf] <;> rfl), hf]
  refine I.write (x := p) (e := p) (by rw [h]; trivial) (.inl rfl) (fun b u hb q => (Heap.get?_update_other _ _ (Ne.symm hb)).trans q) ⟨_, e⟩ ?_
  exact ⟨hz, its', n', r, e⟩
def rSetL : V → V → V → Hp → (Hp → Prop) → Prop := fun o i v H Q => ∃ p xs k j, o = .ref p ∧ i = .int k ∧ H p = some (.lst xs) ∧ ixN xs.length k = some j ∧ Q (upd H p (.lst (xs.set j v)))
theorem set_list : PSet X rSetL := by
  intro pins s σ H o i v ov iv u Q I ro ri rv h
  obtain ⟨p, xs, k, j, rfl, rfl, hp, hj, q⟩ := h
  cases ro
  obtain ⟨t, rfl⟩ := ri
  obtain ⟨its, n, r, ho, hz⟩ := I.lst hp
  obtain ⟨h1, h2, h3, h4⟩ := ixN_seq hj
  have hl := r.length
  have hn := line63
  have I' : Inv X pins σ (upd H p (.lst (xs.set j v))) { s with heap := s.heap.update p (Obj.mapSeq (·.setIfInBounds j u)) } :=
    I.lstUpd hp ho (mapSeq_set its n j u) (r.set rv j) (by rw [List.length_set]; exact hz) s.toks
  by_cases h0 : 0 ≤ k
  · have hk : k.toNat = j := by
      rw [seqIndex_of h0 h4] at h1
      exact Option.some.inj h1
    exact PySem.W.ki_setAt ho h0 (by lia) (by rw [List.size_toArray, ← hl]; exact h4) (by rw [hk]; exact ⟨_, I', q⟩)
  · have hk : (k + (its.toArray.size : Int)).toNat = j := by
      rw [seqIndex_neg (by lia) h3] at h1
      rw [List.size_toArray, ← hl]
      exact Option.some.inj h1
    exact PySem.W.ki_setBack ho (by lia) (by rw [List.size_toArray, ← hl]; exact h3) (by lia) (by rw [hk]; exact ⟨_, I', q⟩)

/-! ### slices -/
/-! ### in, not in: flat items -/
def flatV : V → Bool
  | .non => true
  | .bl _ => true
  | .int _ => true
  | .str _ => true
  | _ => false
/-- == of flat values -/
def eqV : V → V → Bool
  | .non, .non => true
  | .bl a, .bl b => a == b
  | .bl a, .int b => (if a then 1 else 0) == b
  | .int a, .bl b => a == (if b then 1 else 0)
  | .int a, .int b => a == b
  | .str a, .str b => a == b
  | _, _ => false
theorem eqAt_V {A : Around} {s : Shared} {y x : V} {u v : Value} (ry : RelV y u) (rx : RelV x v) (fy : flatV y = true) (fx : flatV x = true) : SeqAt.EqAt A s u v (eqV y x) := by
  cases y with
  | non =>
    cases ry
    cases x with
    | non => cases rx; exact SeqAt.EqAt.same _
    | bl b => cases rx; exact SeqAt.EqAt.none_bool b
    | int b => obtain ⟨t, rfl⟩ := rx; exact SeqAt.EqAt.none_int b t
    | str b => obtain ⟨t, rfl⟩ := rx; exact SeqAt.EqAt.none_str b t
    | _ => exact absurd (show false = true from fx) Bool.false_ne_true
  | bl a =>
    cases ry
    cases x with
    | non => cases rx; exact SeqAt.EqAt.bool_none a
    | bl b => cases rx; exact SeqAt.EqAt.bool_bool a b
    | int b => obtain ⟨t, rfl⟩ := rx; exact SeqAt.EqAt.bool_int a b t
    | str b => obtain ⟨t, rfl⟩ := rx; exact SeqAt.EqAt.bool_str a b t
    | _ => exact absurd (show false = true from fx) Bool.false_ne_true
  | int a =>
    obtain ⟨t', rfl⟩ := ry
    cases x with
    | non => cases rx; exact SeqAt.EqAt.int_none a t'
    | bl b => cases rx; exact SeqAt.EqAt.int_bool a t' b
    | int b => obtain ⟨t, rfl⟩ := rx; exact SeqAt.EqAt.int_int a t' b t
    | str b => obtain ⟨t, rfl⟩ := rx; exact SeqAt.EqAt.int_str a t' b t
    | _ => exact absurd (show false = true from fx) Bool.false_ne_true
  | str a =>
    obtain ⟨t', rfl⟩ := ry
    cases x with
    | non => cases rx; exact SeqAt.EqAt.str_none a t'
    | bl b => cases rx; exact SeqAt.EqAt.str_bool a t' b
    | int b => obtain ⟨t, rfl⟩ := rx; exact SeqAt.EqAt.str_int a t' b t
    | str b => obtain ⟨t, rfl⟩ := rx; exact SeqAt.EqAt.str_str a t' b t
    | _ => exact absurd (show false = true from fx) Bool.false_ne_true
  | _ => exact absurd (show false = true from fy) Bool.false_ne_true
/-- the items' answers, read off the values (a value's own answer does not lean on its token) -/
def eqU (x : V) (u : Value) : Bool := match u with
  | .none => eqV .non x
  | .bool b => eqV (.bl b) x
  | .int i _ => eqV (.int i) x
  | .str z _ => eqV (.str z) x
  | _ => false
theorem eqU_of {x y : V} {u : Value} (r : RelV y u) (f : flatV y = true) : eqU x u = eqV y x := by
  cases y with
  | non => cases r; rfl
  | bl b => cases r; rfl
  | int i => obtain ⟨t, rfl⟩ := r; rfl
  | str z => obtain ⟨t, rfl⟩ := r; rfl
  | _ => exact absurd (show false = true from f) Bool.false_ne_true
theorem any_eqU {x : V} : ∀ {xs : List V} {us : List Value}, Vals xs us → xs.all flatV = true → us.any (eqU x) = xs.any fun y => eqV y x
  | _, _, .nil, _ => rfl
  | y :: xs, u :: us, .cons r t, f => by
    rw [List.all_cons, Bool.and_eq_true] at f
    rw [List.any_cons, List.any_cons, eqU_of r f.1, any_eqU t f.2]
theorem mem_eqAt {A : Around} {s : Shared} {x : V} {v : Value} (rx : RelV x v) (fx : flatV x = true) : ∀ {xs : List V} {us : List Value}, Vals xs us → xs.all flatV = true → ∀ u ∈ us, SeqAt.EqAt A s u v (eqU x u)
  | _, _, .nil, _ => fun u hu => by cases hu
  | y :: xs, u :: us, .cons r t, f => fun u' hu => by
    rw [List.all_cons, Bool.and_eq_true] at f
    rcases List.mem_cons.mp hu with rfl | hu
    · rw [eqU_of r f.1]; exact eqAt_V r rx f.1 fx
    · exact mem_eqAt rx fx t f.2 u' hu
def inV (x : V) (xs : List V) : Bool := xs.any fun y => eqV y x
/-- x in a list or tuple of flat items -/
def rIn (K : PySem.W.Frag) (neg : Bool) : R2 := fun x y H Q => ∃ p xs, y = .ref p ∧ (SqL K H p xs ∨ SqT K H p xs) ∧ flatV x = true ∧ xs.all flatV = true ∧ Q (.bl (if neg then !inV x xs else inV x xs)) H
theorem op_in_seq : OpR X (compareOp .In) (rIn X.K false) := by
  intro pins s σ H x y v u Q I rx ry h
  obtain ⟨p, xs, rfl, hq, fx, fs, q⟩ := h
  cases ry
  rcases hq with hq | hq
  · obtain ⟨its, r, pl, hz⟩ := I.list hq
    refine SeqAt.in_listAt (eqU x) pl.isList (fun w hw => mem_eqAt rx fx r fs w (by simpa using hw)) ⟨.bl _, H, I, rfl, ?_⟩
    rw [show its.toArray.any (eqU x) = its.any (eqU x) by simp, any_eqU r fs]
    exact q
  · obtain ⟨its, r, pl, hz⟩ := I.tuple hq
    refine SeqAt.in_tupleAt (eqU x) pl (fun w hw => mem_eqAt rx fx r fs w (by simpa using hw)) ⟨.bl _, H, I, rfl, ?_⟩
    rw [show its.toArray.any (eqU x) = its.any (eqU x) by simp, any_eqU r fs]
    exact q
/-! ### len, list(x), tuple(x) of any list or tuple that is read -/
theorem call_len_seq : CallR X (.builtin "len") (fun xs H Q => ∃ p ys, xs = [.ref p] ∧ (SqL X.K H p ys ∨ SqT X.K H p ys) ∧ Q (.int ys.length) H) := by
  intro pins s σ H xs us Q I r h
  obtain ⟨p, ys, rfl, hq, q⟩ := h
  obtain ⟨u, rfl, rx⟩ := vals1 r
  cases rx
  have hn := line63
  rcases hq with hq | hq
  · obtain ⟨its, r', pl, hz⟩ := I.list hq
    have hlen := r'.length
    exact Calls.call_len_list pl.isList (by simp only [List.size_toArray] <;> lia) ⟨.int ys.length, H, I.tok _, ⟨s.toks + 1, by rw [List.size_toArray, hlen]⟩, q⟩
  · obtain ⟨its, r', pl, hz⟩ := I.tuple hq
    have hlen := r'.length
    exact len_tuple pl (by simp only [List.size_toArray] <;> lia) ⟨.int ys.length, H, I.tok _, ⟨s.toks + 1, by rw [List.size_toArray, hlen]⟩, q⟩
theorem call_list_of : CallR X (.type "list") (fun xs H Q => ∃ p ys, xs = [.ref p] ∧ (SqL X.K H p ys ∨ SqT X.K H p ys) ∧ ∀ l, H l = none → Q (.ref l) (upd H l (.lst ys))) := by
  intro pins s σ H xs us Q I r h
  obtain ⟨p, ys, rfl, hq, q⟩ := h
  obtain ⟨u, rfl, rx⟩ := vals1 r
  cases rx
  have fin : ∀ (its : List Value), Vals ys its → ys.length ≤ sizeLine → ∀ (h' : Heap) (c' : Nat), (∀ b o', s.heap.get? b = some o' → h'.get? b = some o') →
      h'.get? s.heap.objs.size = some { cls := .type "list", dict := none, data := .seq its.toArray c', slots := #[] } → EP X pins σ Q (.ref s.heap.objs.size) { s with heap := h' } := fun its r' hz h' c' kp e =>
    ⟨.ref s.heap.objs.size, _, I.laid (t' := s.toks) kp (Nat.le_refl _) (show ObjOk X.prog X.w _ h' _ (.lst ys) from ⟨hz, its, c', r', e⟩), rfl, q _ (I.hok.fresh (Nat.le_refl _))⟩
  rcases hq with hq | hq
  · obtain ⟨its, r', pl, hz⟩ := I.list hq
    have hlen := r'.length
    obtain ⟨o, ho, hc, n, hd⟩ := pl.isList
    exact call_list_seq p (.inl rfl) ho hc hd (fun h' c' kp e => fin its r' hz h' c' kp e) (by simp only [List.size_toArray] <;> lia)
  · obtain ⟨its, r', pl, hz⟩ := I.tuple hq
    have hlen := r'.length
    obtain ⟨o, ho, hc, n, hd⟩ := pl
    exact call_list_seq p (.inr rfl) ho hc hd (fun h' c' kp e => fin its r' hz h' c' kp e) (by simp only [List.size_toArray] <;> lia)
/-! ### the call of a builtin's method: o.m(..) -/
/-- the value is of that builtin type -/
def tyV (K : PySem.W.Frag) (T : String) (x : V) (H : Hp) : Prop := match x with
  | .str _ => T = "str"
  | .int _ => T = "int"
  | .ref p => (T = "list" ∧ ∃ xs, SqL K H p xs) ∨ (T = "tuple" ∧ ∃ o, K.lookup p = some o ∧ o.cls = .type "tuple" ∧ o.dict = none) ∨
      (T = "dict" ∧ ((∃ kvs, H p = some (.dK kvs)) ∨ ∃ kvs, H p = some (.dT kvs))) ∨ (T = "set" ∧ ∃ S n, H p = some (.set S n))
  | _ => False
theorem tyV_is {pins : List (Addr × Obj)} {σ : St} {H : Hp} {s : Shared} {T : String} {x : V} {v : Value} (I : Inv X pins σ H s) (r : RelV x v) (ty : tyV X.K T x H) :
    s.TypeIs v T ∧ ∀ a, v = .ref a → ∃ ob, s.heap.get? a = some ob ∧ ob.dict = none := by
  cases x with
  | str z =>
    obtain ⟨t, rfl⟩ := r
    cases (show T = "str" from ty)
    exact ⟨typeIs_str s z t, fun _ e => nomatch e⟩
  | int i =>
    obtain ⟨t, rfl⟩ := r
    cases (show T = "int" from ty)
    exact ⟨typeIs_int s i t, fun _ e => nomatch e⟩
  | ref p =>
    cases r
    rcases ty with ⟨rfl, xs, hq⟩ | ⟨rfl, o, hk, hc, hd⟩ | ⟨rfl, hk⟩ | ⟨rfl, S, n, hk⟩
    · obtain ⟨its, _, pl, _⟩ := I.list hq
      refine ⟨pl.isList.typeIs, fun a e => ?_⟩
      cases e
      obtain ⟨o, n, e, c, hd, _⟩ := pl
      exact ⟨o, e, hd⟩
    · refine ⟨⟨o, I.kIn p o hk, hc⟩, fun a e => ?_⟩
      cases e
      exact ⟨o, I.kIn _ o hk, hd⟩
    · have z : ∃ o, s.heap.get? p = some o ∧ o.ExactDict := by
        rcases hk with ⟨kvs, hk⟩ | ⟨kvs, hk⟩
        · obtain ⟨_, _, _, _, o, _, _, e, ex, _⟩ := I.hok p _ hk
          exact ⟨o, e, ex⟩
        · obtain ⟨_, _, _, _, o, _, _, e, ex, _⟩ := I.hok p _ hk
          exact ⟨o, e, ex⟩
      obtain ⟨o, e, ex⟩ := z
      refine ⟨⟨o, e, ex.1⟩, fun a e2 => ?_⟩
      cases e2
      exact ⟨o, e, ex.2.1⟩
    · obtain ⟨o, _, _, _, e, ex, _⟩ := I.hok p _ hk
      refine ⟨⟨o, e, ex.1⟩, fun a e2 => ?_⟩
      cases e2
      exact ⟨o, e, ex.2.1⟩
  | _ => exact False.elim ty
def tBM (K : PySem.W.Frag) (T : String) (r : V → List V → Hp → VK → Prop) (to : TE) (t : TA) : TE := fun σ H Q => to σ H fun x H1 => tyV K T x H1 ∧ t σ H1 fun xs H2 => r x xs H2 Q
variable {o e : Expr} {es : List Expr} {to : TE} {t : TA} {name : Str} {apos cpos : Pos} {T id : String} {r : V → List V → Hp → VK → Prop}
theorem pe_bm (pa : PlainAttrs T) (slot : Slot T name id) (hty : typeOf (.builtin id) = pure (.type "method_descriptor")) (hm : MtR X id r) (ho : PE X o to) (ha : PA X (e :: es) t)
    (hbase : attributeBase o name X.env (eval o X.env) = eval o X.env := by rfl)
    (hfew : ((backTo cpos (starEach (e :: es) X.env)).all (fun x => !x.1) && (backToKw cpos (keywordEach [] X.env)).all (fun x => x.1.isSome)
      && decide ((e :: es).length + ([] : List Keyword).length + (if ([] : List Keyword).isEmpty then 0 else 1) < 30)) = true := by rfl)
    (hline : (apos.endLine == cpos.line) = true := by rfl) (hs : starEach (e :: es) X.env = (false, eval e X.env) :: starEach es X.env := by rfl) (hplain : (backTo cpos (starEach es X.env)).any (·.1) = false := by rfl) :
    PE X (.Call (.Attribute o name apos) (e :: es) [] cpos) (tBM X.K T r to t) := by
  intro pins s σ H Q I h
  refine wpAny_Call_method_late hbase hfew hline rfl (thn (ho pins s σ H _ I h) fun v s1 ⟨x, H1, I1, r1, ty, q1⟩ => ?_)
  obtain ⟨h1, h2⟩ := tyV_is I1 r1 ty
  refine ⟨T, id, pa, slot, hty, h1, h2, ?_⟩
  have hA := ha cpos pins s1 σ H1 _ I1 q1
  rw [hs] at hA ⊢
  refine Calls.callWith_builtin (by show (false || (backTo cpos (starEach es X.env)).any (·.1)) = false; rw [hplain] <;> rfl) (Calls.evalArgs_plain ?_)
  exact thn hA fun us s2 ⟨vs, H2, I2, r2, q2⟩ => hm pins s2 σ H2 x vs v us Q I2 r1 r2 q2
/- xs.append(e), list.index on a module's tuple .. are MtR facts of 06m -/
end
end L2

namespace L2
open PySem PySem.Spec PyProof.Rows

def MtM (X : Cx) (id : String) (r : V → List V → Hp → VK → Prop) : Prop :=
  ∀ (pins : List (Addr × Obj)) (s : Shared) (σ : St) (H : Hp) (x : V) (xs : List V) (v : Value) (us : List Value) (Q : VK), Inv X pins σ H s → RelV x v → Vals xs us → r x xs H Q →
    wpAny (model X.prog X.w) X.A (call (.builtin id) (v :: us)) (EP X pins σ Q) X.xe s

/-! ### lists of values -/
theorem Vals.one : ∀ {x : V} {us : List Value}, Vals [x] us → ∃ u, us = [u] ∧ RelV x u
  | _, _, .cons r .nil => ⟨_, rfl, r⟩
section
variable {X : Cx} {pins : List (Addr × Obj)} {σ : St} {H : Hp} {s : Shared} {l b : Addr} {xs ys zs : List V}

/-! ### the two steps: a tracked list is rewritten, a new list is laid -/
theorem Inv.lset {its its' : List Value} {n : Nat} {f : Array Value → Array Value} {t' : Nat} (I : Inv X pins σ H s) (hH : H l = some (.lst xs))
    (e : s.heap.get? l = some { cls := .type "list", data := .seq its.toArray n }) (hf : f its.toArray = its'.toArray) (hv : Vals ys its') (hz : ys.length ≤ sizeLine) :
    Inv X pins σ (upd H l (.lst ys)) { s with heap := s.heap.update l (Obj.mapSeq f), toks := t' } := by
  have q := PySem.IsL.update e f
  rw [hf] at q
  refine I.write (x := l) (e := l) (by rw [hH]; exact trivial) (.inl rfl) (fun b' u hb hu => (Heap.get?_update_other s.heap (Obj.mapSeq f) (Ne.symm hb)).trans hu) ⟨_, q⟩ ?_
  exact ⟨hz, its', _, hv, q⟩
theorem Inv.lnew {its : List Value} {t' : Nat} (I : Inv X pins σ H s) (hv : Vals ys its) (hz : ys.length ≤ sizeLine) :
    Inv X pins σ (upd H s.heap.objs.size (.lst ys)) { s with heap := s.heap.push { cls := .type "list", data := .seq its.toArray }, toks := t' } :=
  I.laid (fun _ _ q => Heap.get?_push_of_some _ q) (Nat.le_refl _) ⟨hz, its, 0, hv, Heap.get?_push_size _ rfl⟩
theorem Inv.fresh (I : Inv X pins σ H s) : H s.heap.objs.size = none := I.hok.fresh (Nat.le_refl _)
theorem Inv.lstM (I : Inv X pins σ H s) (hH : H l = some (.lst xs)) : xs.length ≤ sizeLine ∧ ∃ (its : List Value) (n : Nat), Vals xs its ∧ xs.length = its.length ∧ s.heap.get? l = some { cls := .type "list", data := .seq its.toArray n } := by
  obtain ⟨z, its, n, r, e⟩ := I.hok l _ hH
  exact ⟨z, its, n, r, r.length, e⟩

end

section
variable {X : Cx}

/-! ### methods -/
def rAppend : V → List V → Hp → VK → Prop := fun x vs H Q => ∃ l xs y, x = .ref l ∧ vs = [y] ∧ H l = some (.lst xs) ∧ xs.length < sizeLine ∧ Q .non (upd H l (.lst (xs ++ [y])))
theorem mt_append : MtM X "list.append" rAppend := by
  intro pins s σ H x vs v us Q I rx rv h
  obtain ⟨l, xs, y, rfl, rfl, hH, hz, q⟩ := h
  cases rx
  obtain ⟨u, rfl, ru⟩ := rv.one
  obtain ⟨z, its, n, r, hl, e⟩ := I.lstM hH
  refine call_meets F.slot_list_append ⟨_, e, rfl⟩ F.entry_list_append (F.args_list_append_2 _ _) (PySem.list_append l its.toArray n u (by rw [List.size_toArray]; lia)) ⟨e, ?_⟩
  refine ⟨.non, _, I.lset (its' := its ++ [u]) hH e (by simp) (r.append (.cons ru .nil)) ?_, rfl, q⟩
  rw [List.length_append, List.length_singleton]
  lia

/-! ### list + list, list += list, list * int -/
def rCat : R2 := fun x y H Q => ∃ l b xs zs, x = .ref l ∧ y = .ref b ∧ H l = some (.lst xs) ∧ H b = some (.lst zs) ∧ xs.length + zs.length ≤ sizeLine ∧ ∀ p, H p = none → Q (.ref p) (upd H p (.lst (xs ++ zs)))
theorem op_cat : OpR X (binaryOp .Add) rCat := by
  intro pins s σ H x y v u Q I rx ry h
  obtain ⟨l, b, xs, zs, rfl, rfl, hH, hB, hz, q⟩ := h
  cases rx
  cases ry
  obtain ⟨z, its, n, r, hl, e⟩ := I.lstM hH
  obtain ⟨z2, its2, n2, r2, hl2, e2⟩ := I.lstM hB
  refine PySem.P.add_list e e2 ?_ (by rw [List.size_toArray, List.size_toArray]; lia)
  have ea : its.toArray ++ its2.toArray = (its ++ its2).toArray := by simp
  rw [ea]
  exact ⟨.ref _, _, I.lnew (t' := s.toks) (r.append r2) (by rw [List.length_append]; lia), rfl, q _ I.fresh⟩
/-! ### del xs[i] -/
end

/-! ### xs[a:b] = ys -/
section
variable {prog : Program} {w : World} {A : Around} {E : Value → Shared → Prop} {s : Shared}
end

section
variable {X : Cx}
end
end L2

namespace Att
open PySem PySem.W PySem.Calls PyProof.Rows

/-! ### the script -/
theorem ints_of_wellAll {P : Params} {h : Heap} : ∀ (ns : List Int) (vs : List Value), WellAll P h vs (ns.map WData.int) → IntsAre vs ns := by
  intro ns
  induction ns with
  | nil =>
    intro vs w
    rw [List.map_nil] at w
    cases w
    exact .nil
  | cons n ns ih =>
    intro vs w
    rw [List.map_cons] at w
    cases w with
    | cons a b =>
      cases a
      exact .cons _ _ (ih _ b)

theorem script_of {l : OpenLaw} {n : Nat} (hn : l.most = some n) {P : Params} {h : Heap} {args : List WData} {vals : List Value}
    (hpre : l.row.toRowW.claim.pre args = true) (hwl : WellAll P h vals args) :
    ∃ a vs ns, vals = [Value.ref a] ∧ args = [WData.list (ns.map WData.int)] ∧ h.get? a = some { cls := .type "list", data := .seq vs.toArray } ∧ IntsAre vs ns ∧ ns.length ≤ n := by
  have hsh : WShape.hasAll [] args [.list .int] = true := (pre_splitW hpre).1
  have hc : l.pre.holds [] { args := args } = true := (pre_splitW hpre).2
  obtain ⟨d, r, rfl, h1, h2⟩ := hasAllW_cons hsh
  obtain rfl := hasAllW_nil h2
  obtain ⟨xs, rfl, h3⟩ := hasW_list h1
  obtain ⟨ns, rfl⟩ := items_int h3
  have hlen : ns.length ≤ n := by
    unfold OpenLaw.pre at hc
    have h4 : (WTm.not (.lt (.lit (.int (n : Int))) (.len (.arg 0)))).holds [] { args := [.list (ns.map .int)] } = true := by
      have h4 := (holds_andW hc).1
      rw [hn] at h4
      exact h4
    have h5 := condW_of h4 (w_not (w_lt w_lit (w_len_list (w_arg rfl))))
    rw [List.length_map] at h5
    refine Nat.le_of_not_lt fun q => ?_
    have q' : (n : Int) < ((ns.length : Nat) : Int) := by lia
    first
      | (rw [decide_eq_true q'] at h5; exact absurd h5 (by decide))
      | (simp at h5; lia)
  cases hwl with
  | cons w1 w2 =>
    cases w2
    cases w1 with
    | list ho hall => exact ⟨_, _, ns, rfl, rfl, ho, ints_of_wellAll ns _ hall, hlen⟩

theorem post_true (l : OpenLaw) (args : List WData) : l.row.toRowW.claim.post args (.bool true) args = true :=
  postW_of (r := l.row.toRowW) (X := (true == true))
    (show WShape.has [] (.bool true) .bool = true by first | rfl | decide | simp [WShape.has, WShape.arms, WShape.armsAll])
    (show (WTm.eq .res (.lit (.bool true))).value [] { args := args, res := some (.bool true), after := args } = some (.bool (true == true)) from w_eq_bool (w_res rfl) w_lit) rfl

/-! ### the attachment: holds_open's last premise (the goal 'hc' behind k_head) from a wpAny of the law's body -/
/-- the same from a codeAny of the CALL (for a layer whose function contracts speak of calls) -/
theorem attach_call {l : OpenLaw} {n : Nat} {q : Program} {loose : List Str} {XP : (Str → Option Value) → Heap → Prop} {YP : World → Heap → Prop} {d : DefRec}
    (hn : l.most = some n) (hdf : d.params.defaults = [])
    (call : ∀ (w : World) (s₀ s₁ : Shared) (mg mb : Str → Option Value) (fa : Addr) (o : Obj) (pm cd doc : Value) (a : Addr) (vs : List Value) (ns : List Int),
      Ground q loose [] XP w s₀ mg mb s₁.heap → YP w s₁.heap →
      s₁.heap.get? fa = some o → o.data = .func (docDef d.name d.params d.body d.scope pm cd doc) → s₁.heap.CodeRec cd d.name → mg d.name = some (.ref fa) →
      s₁.heap.get? a = some { cls := .type "list", data := .seq vs.toArray } → IntsAre vs ns → ns.length ≤ n → s₁.gens = #[] →
      codeAny (model l.prog w) callerA (.call (.ref fa) ⟨[.ref a], []⟩) (fun r s' => r = .ok (.ret (.bool true)) ∧ OldK s₁.heap s'.heap ∧ s'.os = s₁.os ∧ AllBare s'.gens) s₁) :
    WalkO q loose XP YP l.row.toRowW d [] (fun f vs => PySem.call f vs) := by
  intro w s₀ s₁ mg mb G Y fa o pm cd doc dV kV ho hd hcd hD hmg hg args vals as hpre hlay hrd hwl hlo
  obtain rfl : dV = .none := Dflts.none hD hdf
  obtain rfl : kV = .none := Dflts.noKw hD
  obtain ⟨a, vs, ns, rfl, rfl, hobj, hints, hlen⟩ := script_of hn hpre hwl
  refine enter_call (codeAny_mono (call w s₀ s₁ mg mb fa o pm cd doc a vs ns G Y ho (fd_plain hd) hcd hmg hobj hints hlen hg) fun r s' hq => ?_)
  obtain ⟨rfl, h2, h3, h4⟩ := hq
  exact ⟨.inl ⟨.bool true, .bool true, [], rfl, fun _ => rfl, .bool true, post_true l _, fun _ => ⟨List.Pairwise.nil, fun _ hm => (nomatch hm)⟩⟩, h2, h3, h4⟩

/-! ### rules over ANY heap (no ledger) from facts about the written part K: the library's own take a ledger (News) for what they write -/
section
variable {prog : Program} {w : World} {A : Around} {E : Value → Shared → Prop} {s : Shared} {K : Frag}

/-! the whole heap as the ledger: makes every rule that writes through a ledger a rule over any heap -/
end
end Att

namespace L2
open PySem PySem.Spec PyProof.Rows

theorem vals_ints : ∀ {vs : List Value} {ns : List Int}, IntsAre vs ns → Vals (ns.map V.int) vs
  | _, _, .nil => .nil
  | _, _, .cons n t h => .cons ⟨t, rfl⟩ (vals_ints h)

end L2

namespace L2
open PySem PySem.Spec PyProof.Rows

end L2

/- THE LAST THEOREM (shape; LID, My.* are yours):
   My.Adr: a structure of the addresses that your layer names (classes, functions); My.Txt K t: a structure (Prop) of the equations over K;
   My.txt_mk : {K} {implicit addresses ..} (e1 : nsIn K mainGlobals "law" = some (some (.ref f))) (e2 : K.lookup f = some ⟨oc, od, .func (fnOf "law" "law" params body scope dV kV doc pm an cdv ct), sl⟩) (e3 : codeIn K cdv "law" = true) .. : ∃ t, My.Txt K t

set_option maxRecDepth 100000 in
set_option maxHeartbeats 0 in
theorem PySem.Challenge.cw_LID_holds : PySem.Challenge.rw_LID.Holds := by
  w_on; o_law; k_head; (case hw => w_witness2)
  k_fill
  refine L2.walk_of (l := PySem.Challenge.rw_LID) (n := 63) (k := 40) (x := "script") (CX := fun w => ..) (sp := fun _ => My.sp_law) rfl (by decide) rfl ⟨rfl, by decide, by decide⟩ (fun w h Y => PySem.W.kIn_of Y) ?F ?S ?C
  case F =>
    intro w mg fa h KX G hmg
    have T : ∃ t, My.Txt (L2.KOf KX) t := by
      dsimp only [L2.KOf]                          -- K must stand as «<heap const> w.params» for k_is
      refine' My.txt_mk ?e1 ?e2 ?e3 ..
      (case e1 => PySem.W.k_is)                    -- in the order: a name -> its address -> its object -> its parts
      (case e2 => PySem.W.k_is)
      ..
    obtain ⟨t, T⟩ := T
    have e0 := hmg.symm.trans (PySem.W.mg_of KX G T.law)
    cases e0                                       -- fa is the law's own address
    exact ⟨_, fun s u => .of_eq rfl, fun base kb nb => My.law_fn T kb nb⟩     -- if «.of_eq rfl» comes too early: refine' ⟨_, ?b, fun base kb nb => My.law_fn T kb nb⟩; exact fun s u => .of_eq rfl
  case S => exact fun w H a ns hl hO hS => ..
  case C => exact ..
(the tactic k_is has no namespace: write k_is) -/

/-! SHORT WORDS over the layer: a def of the text, its body, what a loop and a test want. -/
namespace L2
open PySem PySem.Spec PyProof.Rows

/-! ### the text by places -/
/-- the j-th statement of a class's body -/
def inClass (s : Stmt) (j : Nat) : Stmt := match s with
  | .ClassDef _ _ _ body _ _ _ _ _ _ _ => body.getD j (.Pass ⟨0, 0, 0, 0⟩)
  | _ => .Pass ⟨0, 0, 0, 0⟩
def defArgs (s : Stmt) : Arguments := match s with
  | .FunctionDef _ a _ _ _ _ _ _ _ _ => a
  | _ => { posonlyargs := [], args := [], vararg := none, kwonlyargs := [], kw_defaults := [], kwarg := none, defaults := [] }
def defBody (s : Stmt) : List Stmt := match s with
  | .FunctionDef _ _ b _ _ _ _ _ _ _ => b
  | _ => []
def defScope (s : Stmt) : Scope := match s with
  | .FunctionDef _ _ _ _ _ _ sc _ _ _ => sc
  | _ => { kind := .function, names := [], isGenerator := false, isCoroutine := false }

/-! ### no exception leaves a def -/
abbrev CX0 : CXT := fun _ _ _ _ _ _ => False
abbrev E0 : XK := fun _ _ _ => False
theorem pass0 {X : Cx} : Passes CX0 X E0 := fun _ _ _ _ _ _ _ h => h.elim

/-! ### a def (or method) of the text as it stands behind the top -/
structure Fun (K : PySem.W.Frag) (x qual : Str) (st : Stmt) (f : Addr) (fd : FuncData) : Prop where
  ex : ∃ (oc : Value) (od : Option Addr) (kV doc pm : Value) (an : Option Addr) (cdv ct : Value) (osl : Array (Option Value)),
    fd = PySem.W.fnOf x qual (defArgs st) (defBody st) (defScope st) .none kV doc pm an cdv ct ∧ K.lookup f = some ⟨oc, od, .func fd, osl⟩ ∧ PySem.W.codeIn K cdv qual = true
  kp : PySem.W.keepIn K (.ref f) = true
section
variable {P : Program} {w : World} {K : PySem.W.Frag} {mg : Str → Option Value} {base : Heap}
/-- THE RULE for a def: its body as a term of rules, and the reading of that term -/
theorem Fun.ok {x qual : Str} {st : Stmt} {f : Addr} {fd : FuncData} {N ps : List Str} {k : Nat} {sp : Sp} (F : Fun K x qual st f fd) (S : FnScope N ps (defScope st)) (len : ∀ vs H Q E, sp vs H Q E → vs.length = ps.length)
    (hbody : ∀ (cdv : Value) (A : Around) (outer : List Env) (s : Shared) (H : Hp) (vs : List V) (Q : VK) (E : XK), Room k (A.deeper (envOfC qual (defScope st) s.heap.objs.size f cdv)) → sp vs H Q E →
      ∃ t, PSs (cxOf CX0 P w K mg base N qual (defScope st) f cdv A outer s H E).nox (defBody st) t ∧ t { nx := fun _ H' => Q .non H', rt := Q } (start N vs) H) : FnOk P w K mg base CX0 (k + 1) f fd ps sp := by
  obtain ⟨oc, od, kV, doc, pm, an, cdv, ct, osl, rfl, lk, hcd⟩ := F.ex
  refine fn_of lk hcd S len fun A outer s H vs Q E hr hsp => ?_
  obtain ⟨t, h, q⟩ := hbody cdv A outer s H vs Q E hr hsp
  exact ⟨t, h.nox, q⟩
/-- how its arguments bind (no defaults): h is «fun _ _ _ _ _ _ us hl => match us, hl with | [_, _], _ => rfl», one _ a parameter -/
theorem Fun.binds {x qual : Str} {st : Stmt} {f : Addr} {fd : FuncData} {ps : List Str} (F : Fun K x qual st f fd)
    (h : ∀ (kV doc pm : Value) (an : Option Addr) (cdv ct : Value) (us : List Value), us.length = ps.length → bindArgs (PySem.W.fnOf x qual (defArgs st) (defBody st) (defScope st) .none kV doc pm an cdv ct) ⟨us, []⟩ = pure (ps.zip us)) : Binds K fd ps [] := by
  obtain ⟨oc, od, kV, doc, pm, an, cdv, ct, osl, rfl, lk, hcd⟩ := F.ex
  exact .all (h kV doc pm an cdv ct)
theorem fun_mk {x qual : Str} {st : Stmt} {f : Addr} {oc : Value} {od an : Option Addr} {osl : Array (Option Value)} {kV doc pm cdv ct : Value} (l : K.lookup f = some ⟨oc, od, .func (PySem.W.fnOf x qual (defArgs st) (defBody st) (defScope st) .none kV doc pm an cdv ct), osl⟩)
    (c : PySem.W.codeIn K cdv qual = true) (k : PySem.W.keepIn K (.ref f) = true) : Fun K x qual st f (PySem.W.fnOf x qual (defArgs st) (defBody st) (defScope st) .none kV doc pm an cdv ct) := ⟨⟨oc, od, kV, doc, pm, an, cdv, ct, osl, rfl, l, c⟩, k⟩
end
theorem hu_of {A : Around} {k : Nat} (hr : Room k A) : A.units + 1 < cLine := Nat.lt_of_le_of_lt (Nat.add_le_add_left (by decide : 1 ≤ 64) _) hr.units
/-! ### expressions in short: the name that stands in the i-th slot -/
section
variable {X : Cx}
theorem pv (i : Nat) {x : Str} {pos : Pos} (hN : X.N[i]? = some x := by rfl) (hv : Vis X.env.scope x := by first | exact Or.inl rfl | exact Or.inr (Or.inl rfl) | exact Or.inr (Or.inr rfl)) (hd : (x == ("__debug__" : Str)) = false := by decide)
    (hcd : (x == ("__classdict__" : Str)) = false := by decide) : PE X (.Name x pos) (tVar i) := pe_var hN hv hd hcd
end

/-! ### tests -/
theorem iteF {A B : Prop} (h : B) : if false = true then A else B := by
  rw [if_neg Bool.false_ne_true]
  exact h
theorem iteT {A B : Prop} (h : A) : if true = true then A else B := by
  rw [if_pos rfl]
  exact h
theorem ite2 {c A B : Prop} [Decidable c] (h1 : c → A) (h2 : ¬ c → B) : if c then A else B := by
  by_cases h : c
  · rw [if_pos h]
    exact h1 h
  · rw [if_neg h]
    exact h2 h
/-! ### heaps -/
/-- all that was tracked is as it was -/
def Same (H H' : Hp) : Prop := ∀ b o, H b = some o → H' b = some o
theorem Same.refl (H : Hp) : Same H H := fun _ _ h => h
theorem Same.trans {H H1 H2 : Hp} (a : Same H H1) (b : Same H1 H2) : Same H H2 := fun c o h => b c o (a c o h)
end L2

set_option Elab.async false
set_option linter.all false
set_option maxRecDepth 100000
namespace L2
open PySem PySem.Spec PyProof.Rows

/-! ### lists of pairs as tables -/
section
variable {κ : Type} [DecidableEq κ]
def valV (kvs : List (κ × V)) (k : κ) : Option V := (kvs.find? fun kv => decide (kv.1 = k)).map (·.2)
/-- in its place, or at the end -/
def putK (kvs : List (κ × V)) (k : κ) (v : V) : List (κ × V) :=
  if (kvs.any fun kv => decide (kv.1 = k)) = true then kvs.map (fun kv => if kv.1 = k then (kv.1, v) else kv) else kvs ++ [(k, v)]
theorem valV_pos {p : κ × V} {r : List (κ × V)} {k : κ} (e : p.1 = k) : valV (p :: r) k = some p.2 := by simp [valV, List.find?_cons, e]
theorem valV_neg {p : κ × V} {r : List (κ × V)} {k : κ} (e : ¬ p.1 = k) : valV (p :: r) k = valV r k := by simp [valV, List.find?_cons, e]
theorem valV_any (k : κ) : ∀ kvs : List (κ × V), (kvs.any fun kv => decide (kv.1 = k)) = (valV kvs k).isSome
  | [] => rfl
  | p :: r => by
    rw [List.any_cons]
    by_cases e : p.1 = k
    · simp only [valV_pos e, decide_eq_true e, Bool.true_or, Option.isSome_some]
    · rw [valV_neg e, decide_eq_false e, Bool.false_or]; exact valV_any k r
theorem length_putK (kvs : List (κ × V)) (k : κ) (v : V) : (putK kvs k v).length ≤ kvs.length + 1 := by
  unfold putK
  split
  · rw [List.length_map]; lia
  · rw [List.length_append, List.length_cons, List.length_nil]; lia
theorem putK_new {kvs : List (κ × V)} {k : κ} (v : V) (h : valV kvs k = none) : putK kvs k v = kvs ++ [(k, v)] := by
  unfold putK
  rw [valV_any, h]
  exact if_neg (by decide)

theorem RelO.isSome_eq {o : Option V} {u : Option Value} (r : RelO o u) : o.isSome = u.isSome := by
  cases o with
  | none => cases u with
    | none => rfl
    | some _ => exact (show False from r).elim
  | some _ => cases u with
    | none => exact (show False from r).elim
    | some _ => rfl
theorem RelO.getD {o : Option V} {u : Option Value} {d : V} {d' : Value} (r : RelO o u) (rd : RelV d d') : RelV (o.getD d) (u.getD d') := by
  cases o with
  | none => cases u with
    | none => exact rd
    | some _ => exact (show False from r).elim
  | some _ => cases u with
    | none => exact (show False from r).elim
    | some _ => exact r

/-- raw tables of the same keys -/
theorem KV.val {kvs : List (κ × V)} {vs : List (κ × Value)} (r : KV kvs vs) (k : κ) : RelO (valV kvs k) (valueAt vs k) := by
  unfold KV at r
  induction r with
  | nil => exact True.intro
  | @cons p q ps qs h t ih =>
    obtain ⟨h1, h2⟩ := h
    by_cases e : p.1 = k
    · have e' : q.1 = k := h1.symm.trans e
      have b : valueAt (q :: qs) k = some q.2 := by simp [valueAt, List.find?_cons, e']
      rw [valV_pos e, b]; exact h2
    · have e' : ¬ q.1 = k := fun z => e (h1.trans z)
      have b : valueAt (q :: qs) k = valueAt qs k := by simp [valueAt, List.find?_cons, e']
      rw [valV_neg e, b]; exact ih
theorem KV.any {kvs : List (κ × V)} {vs : List (κ × Value)} (r : KV kvs vs) (k : κ) : (kvs.any fun kv => decide (kv.1 = k)) = vs.any fun kv => decide (kv.1 = k) := by
  unfold KV at r
  induction r with
  | nil => rfl
  | cons h t ih => rw [List.any_cons, List.any_cons, ih, h.1]
theorem KV.repl {kvs : List (κ × V)} {vs : List (κ × Value)} (r : KV kvs vs) (k : κ) {y : V} {u : Value} (ry : RelV y u) :
    KV (kvs.map fun kv => if kv.1 = k then (kv.1, y) else kv) (vs.map fun kv => if kv.1 = k then (kv.1, u) else kv) := by
  unfold KV at r ⊢
  induction r with
  | nil => exact .nil
  | @cons p q ps qs h t ih =>
    rw [List.map_cons, List.map_cons]
    refine .cons ?_ ih
    obtain ⟨h1, h2⟩ := h
    by_cases e : p.1 = k
    · rw [if_pos e, if_pos (h1.symm.trans e)]; exact ⟨h1, ry⟩
    · rw [if_neg e, if_neg (fun z => e (h1.trans z))]; exact ⟨h1, h2⟩
theorem KV.put {kvs : List (κ × V)} {vs : List (κ × Value)} (r : KV kvs vs) (k : κ) {y : V} {u : Value} (ry : RelV y u) : KV (putK kvs k y) (stored vs k u) := by
  unfold putK stored
  rw [r.any k]
  by_cases e : (vs.any fun kv => decide (kv.1 = k)) = true
  · rw [if_pos e, if_pos e]; exact r.repl k ry
  · rw [if_neg e, if_neg e]; exact Paired.snoc r ⟨rfl, ry⟩
theorem KV.length {kvs : List (κ × V)} {vs : List (κ × Value)} (r : KV kvs vs) : kvs.length = vs.length := Paired.length r
end


/-! ### a tracked dict, its keys ints and texts or tuples of these -/
theorem kV_is {P : Program} {w : World} {k : Key} {u : Value} (r : RelV (kV k) u) : (mixKind P w).is k u = true := by
  cases k with
  | inl i => obtain ⟨t, e⟩ := (show ∃ t, u = Value.int i t from r); subst e; exact mixKind_int P w i t
  | inr x => obtain ⟨t, e⟩ := (show ∃ t, u = Value.str x t from r); subst e; exact mixKind_str P w x t
theorem items_are {P : Program} {w : World} : ∀ {ks : List Key} {us : List Value}, Vals (ks.map kV) us → ItemsAre (mixKind P w) ks us
  | [], _, r => by rw [List.map_nil] at r; cases r; exact .nil
  | k :: ks, _, r => by
    rw [List.map_cons] at r
    cases r with
    | cons h t => exact .cons (kV_is h) (items_are t)

/-- raw entries of a dict with tuple keys -/
abbrev KT (H : Hp) : List (List Key × V) → List (List Key × Addr × Value) → Prop := Paired fun p q => p.1 = q.1 ∧ H q.2.1 = some (.tup (p.1.map kV)) ∧ RelV p.2 q.2.2
theorem KT.val {H : Hp} {kvs : List (List Key × V)} {xs : List (List Key × Addr × Value)} (r : KT H kvs xs) (k : List Key) : RelO (valV kvs k) ((atKey xs k).map (·.2)) := by
  induction r with
  | nil => exact True.intro
  | @cons p q ps qs h t ih =>
    obtain ⟨h1, _, h2⟩ := h
    by_cases e : p.1 = k
    · have e' : q.1 = k := h1.symm.trans e
      have b : atKey (q :: qs) k = some q.2 := by simp [atKey, List.find?_cons, e']
      rw [valV_pos e, b]; exact h2
    · have e' : ¬ q.1 = k := fun z => e (h1.trans z)
      have b : atKey (q :: qs) k = atKey qs k := by simp [atKey, List.find?_cons, e']
      rw [valV_neg e, b]; exact ih
theorem KT.repl {H : Hp} {kvs : List (List Key × V)} {xs : List (List Key × Addr × Value)} (r : KT H kvs xs) (k : List Key) {y : V} {u : Value} (ry : RelV y u) :
    KT H (kvs.map fun kv => if kv.1 = k then (kv.1, y) else kv) (xs.map (putAt k u)) := by
  induction r with
  | nil => exact .nil
  | @cons p q ps qs h t ih =>
    rw [List.map_cons, List.map_cons]
    refine .cons ?_ ih
    obtain ⟨h1, h2, h3⟩ := h
    unfold putAt
    by_cases e : p.1 = k
    · rw [if_pos e, if_pos (h1.symm.trans e)]; exact ⟨h1, h2, ry⟩
    · rw [if_neg e, if_neg (fun z => e (h1.trans z))]; exact ⟨h1, h2, h3⟩
theorem KT.put {H : Hp} {kvs : List (List Key × V)} {xs : List (List Key × Addr × Value)} (r : KT H kvs xs) (k : List Key) {b : Addr} {y : V} {u : Value} (hb : H b = some (.tup (k.map kV))) (ry : RelV y u) :
    KT H (putK kvs k y) (storedH xs k b u) := by
  have e : (kvs.any fun kv => decide (kv.1 = k)) = (atKey xs k).isSome := by
    rw [valV_any, (r.val k).isSome_eq, Option.isSome_map]
  unfold putK storedH
  rw [e]
  by_cases q : (atKey xs k).isSome = true
  · rw [if_pos q, if_pos q]; exact r.repl k ry
  · rw [if_neg q, if_neg q]; exact Paired.snoc r ⟨rfl, hb, ry⟩
theorem KT.keeps {H H' : Hp} {kvs : List (List Key × V)} {xs : List (List Key × Addr × Value)} (r : KT H kvs xs) (ht : ∀ b ys, H b = some (.tup ys) → H' b = some (.tup ys)) : KT H' kvs xs :=
  Paired.mapP r fun _ _ z => ⟨z.1, ht _ _ z.2.1, z.2.2⟩

section
variable {P : Program} {w : World} {H : Hp} {h : Heap} {a : Addr}
theorem rd_of {u : HO} (ok : HOk P w H h) (e : Rd H a u) : ObjOk P w H h a u := e.ok ok
theorem dk_rd {kvs : List (Key × V)} (ok : HOk P w H h) (e : Rd H a (.dK kvs)) : kvs.length ≤ sizeLine ∧ (a == sysModules) = false ∧ ∃ vs, KV kvs vs ∧ h.DictOf (mixKind P w) a vs :=
  show ObjOk P w H h a (.dK kvs) from rd_of ok e
theorem dk_of {kvs : List (Key × V)} (ok : HOk P w H h) (e : H a = some (.dK kvs)) : kvs.length ≤ sizeLine ∧ (a == sysModules) = false ∧ ∃ vs, KV kvs vs ∧ h.DictOf (mixKind P w) a vs := dk_rd ok (.inl e)
/-- a tracked tuple of ints and texts is a key -/
theorem key_of {ks : List Key} (ok : HOk P w H h) (e : H a = some (.tup (ks.map kV))) : (tupleKind (mixKind P w)).is h ks a := by
  obtain ⟨_, its, r, o, h1, h2, n, h3⟩ := (show ObjOk P w H h a (.tup (ks.map kV)) from ok a _ e)
  exact ⟨o, its.toArray, n, h1, h2, h3, by simpa using items_are r⟩
theorem dt_rd {kvs : List (List Key × V)} (ok : HOk P w H h) (e : Rd H a (.dT kvs)) : kvs.length ≤ sizeLine ∧ (a == sysModules) = false ∧
    ∃ xs, KT H kvs xs ∧ h.DictOfH (tupleKind (mixKind P w)) a xs := by
  obtain ⟨z, y, xs, r, o, es, ep, h1, h2, h3, h4, h5⟩ := (show ObjOk P w H h a (.dT kvs) from rd_of ok e)
  refine ⟨z, y, xs, r, o, es, ep, h1, h2, h3, h4, fun x hx => ?_, h5⟩
  have all : ∀ {l : List (List Key × V)} {m : List (List Key × Addr × Value)}, KT H l m → ∀ x ∈ m, (tupleKind (mixKind P w)).is h x.1 x.2.1 := by
    intro l m q
    induction q with
    | nil => intro x hx; exact nomatch hx
    | @cons p q ps qs hq t ih =>
      intro x hx
      rcases List.mem_cons.mp hx with e | hx
      · subst e
        exact key_of ok (by rw [← hq.1]; exact hq.2.1)
      · exact ih x hx
  exact all r x hx
theorem dt_of {kvs : List (List Key × V)} (ok : HOk P w H h) (e : H a = some (.dT kvs)) : kvs.length ≤ sizeLine ∧ (a == sysModules) = false ∧
    ∃ xs, KT H kvs xs ∧ h.DictOfH (tupleKind (mixKind P w)) a xs := dt_rd ok (.inl e)
end

/-- what the dict at a holds at the key y -/
def DGet (H : Hp) (a : Addr) (y : V) (r : Option V) : Prop :=
  (∃ kvs k, Rd H a (.dK kvs) ∧ y = kV k ∧ r = valV kvs k) ∨ ∃ kvs k b, Rd H a (.dT kvs) ∧ y = .ref b ∧ H b = some (.tup (k.map kV)) ∧ r = valV kvs k
/-- the heap behind a[y] = v -/
def DPut (H : Hp) (a : Addr) (y v : V) (H' : Hp) : Prop :=
  (∃ kvs k, H a = some (.dK kvs) ∧ y = kV k ∧ kvs.length < sizeLine ∧ H' = upd H a (.dK (putK kvs k v))) ∨
  ∃ kvs k b, H a = some (.dT kvs) ∧ y = .ref b ∧ H b = some (.tup (k.map kV)) ∧ kvs.length < sizeLine ∧ H' = upd H a (.dT (putK kvs k v))
theorem DGet.t {H : Hp} {a b : Addr} {kvs : List (List Key × V)} {k : List Key} (e : H a = some (.dT kvs)) (eb : H b = some (.tup (k.map kV))) : DGet H a (.ref b) (valV kvs k) := .inr ⟨kvs, k, b, .inl e, rfl, eb, rfl⟩
theorem DPut.k {H : Hp} {a : Addr} {kvs : List (Key × V)} {k : Key} {v : V} (e : H a = some (.dK kvs)) (hl : kvs.length < sizeLine) : DPut H a (kV k) v (upd H a (.dK (putK kvs k v))) := .inl ⟨kvs, k, e, rfl, hl, rfl⟩
theorem DPut.t {H : Hp} {a b : Addr} {kvs : List (List Key × V)} {k : List Key} {v : V} (e : H a = some (.dT kvs)) (eb : H b = some (.tup (k.map kV))) (hl : kvs.length < sizeLine) :
    DPut H a (.ref b) v (upd H a (.dT (putK kvs k v))) := .inr ⟨kvs, k, b, e, rfl, eb, hl, rfl⟩


section
variable {X : Cx} {pins : List (Addr × Obj)} {σ : St} {H : Hp} {s : Shared} {a : Addr} {y v : V} {u r : Value} {o : Option V} {A : Around} {E : Value → Shared → Prop}

theorem Inv.big (I : Inv X pins σ H s) : sysModules < s.heap.objs.size := by
  have h : mainGlobals < s.heap.objs.size := (I.mod.glob.keeps I.bk).lt
  exact Nat.lt_trans (by decide) h

/-- a dict's object is replaced -/
theorem d_write {h' : Heap} {t' : Nat} {ob : HO} (I : Inv X pins σ H s) (mu : Mut (H a)) (hs : Heap.SameBut a s.heap h') (he : ∃ q, h'.get? a = some q) (new : ObjOk X.prog X.w (upd H a ob) h' a ob) :
    Inv X pins σ (upd H a ob) { s with heap := h', toks := t' } :=
  I.write (x := a) (e := a) mu (.inl rfl) (fun b q hb z => (hs.2 b hb).trans z) he new
theorem dk_new {P : Program} {w : World} {H' : Hp} {h' : Heap} {kvs : List (Key × V)} {vs : List (Key × Value)} (z : kvs.length ≤ sizeLine) (hd : (a == sysModules) = false) (rel : KV kvs vs) (dd : h'.DictOf (mixKind P w) a vs) :
    ObjOk P w H' h' a (.dK kvs) := ⟨z, hd, vs, rel, dd⟩
/-- d[y] = v -/
theorem d_setItem {H' : Hp} {Q : Unit → Shared → Prop} (hu : A.units + 1 < cLine) (I : Inv X pins σ H s) (g : DPut H a y v H') (ry : RelV y u) (rv : RelV v r) (h : ∀ s', Inv X pins σ H' s' → Q () s') :
    wpAny (model X.prog X.w) A (setItem (.ref a) u r) Q E s := by
  rcases g with ⟨kvs, k, e, ey, l, eH⟩ | ⟨kvs, k, b, e, ey, eb, l, eH⟩
  · subst ey eH
    obtain ⟨z, hd, vs, rel, dd⟩ := dk_of I.hok e
    have hz : vs.length ≤ sizeLine := by rw [← rel.length]; exact z
    have hl : (putK kvs k v).length ≤ sizeLine := by have := length_putK kvs k v; lia
    refine wpAny_setItem_pairs (hsz := hz) (kV_is ry) dd fun h' dd' hs => h _ ?_
    have he : ∃ q, h'.get? a = some q := let ⟨q, _, _, hq, _⟩ := dd'; ⟨q, hq⟩
    exact d_write I (by rw [e]; exact True.intro) hs he (dk_new hl hd (rel.put k rv) dd')
  · subst ey eH
    cases (show u = Value.ref b from ry)
    obtain ⟨z, hd, xs, rel, dd⟩ := dt_of I.hok e
    have hz : xs.length ≤ sizeLine := by rw [← Paired.length rel]; exact z
    have hl : (putK kvs k v).length ≤ sizeLine := by have := length_putK kvs k v; lia
    refine wpAny_setItem_heap (hsz := hz) (tupleKind_room_in1 hu) (key_of I.hok eb) dd fun h' dd' hs => h _ ?_
    obtain ⟨q, es, ep, hq, h2, h3, h4, _, h5⟩ := dd'
    refine d_write I (by rw [e]; exact True.intro) hs ⟨q, hq⟩ ⟨hl, hd, _, (rel.put k eb rv).keeps fun c ys ec => ?_, q, es, ep, hq, h2, h3, h4, h5⟩
    rw [upd_ne (ne_of ec e (fun z => nomatch z))]
    exact ec
end

section
variable {X : Cx} {pins : List (Addr × Obj)} {σ : St} {H : Hp} {s : Shared} {a : Addr} {kvs : List (Key × V)} {k : Key} {u : Value} {A : Around} {E : Value → Shared → Prop}
end


/-! ### readings and rules -/
/-- d[y] = v -/
def sDPut (td ty tv : TE) : TS := fun D σ H => tv σ H fun v H1 => td σ H1 fun x H2 => ty σ H2 fun y H3 => ∃ a H4, x = .ref a ∧ DPut H3 a y v H4 ∧ D.nx σ H4
section
variable {X : Cx} {o i e value : Expr} {pos pos' tpos : Pos} {td ty tv : TE}
theorem ps_dput (hu : X.A.units + 1 < cLine) (ho : PE X o td) (hi : PE X i ty) (hv : PE X value tv) (hs : swapsWith value (some (.Subscript o i pos')) pos.line X.env = pure false) :
    PS X (.Assign [.Subscript o i pos'] value pos) (sDPut td ty tv) := by
  intro pins s σ H D I h
  refine wpAny_Assign_Subscript (thn (hv pins s σ H _ I h) fun r s1 ⟨v, H1, I1, rv, q1⟩ => thn (ho pins s1 σ H1 _ I1 q1) fun u s2 ⟨x, H2, I2, rx, q2⟩ => thn (hi pins s2 σ H2 _ I2 q2) fun iv s3 ⟨y, H3, I3, ry, a, H4, ex, g, q3⟩ => ?_) hs
  subst ex
  obtain rfl : u = Value.ref a := rx
  exact d_setItem hu I3 g ry rv fun s4 I4 => ⟨σ, H4, I4, q3⟩
end


/-! ### displays -/
theorem dk_empty {P : Program} {w : World} {H : Hp} (h : Heap) (hb : sysModules < h.objs.size) : ObjOk P w H (h.push { cls := .type "dict", data := .dict #[] }) h.objs.size (.dK []) :=
  ⟨Nat.zero_le _, beq_eq_false_iff_ne.mpr (Ne.symm (Nat.ne_of_lt hb)), [], .nil, Heap.DictOf.new h⟩
theorem dt_empty {P : Program} {w : World} {H : Hp} (h : Heap) (hb : sysModules < h.objs.size) : ObjOk P w H (h.push { cls := .type "dict", data := .dict #[] }) h.objs.size (.dT []) :=
  ⟨Nat.zero_le _, beq_eq_false_iff_ne.mpr (Ne.symm (Nat.ne_of_lt hb)), [], .nil, _, #[], 0, Heap.get?_push_size _ rfl, ⟨rfl, rfl, rfl⟩, rfl, rfl, List.nodup_nil⟩
/-- {}, to be a dict of the kind that is wanted -/
def tDNewK : TE := fun _ H Q => ∀ p, H p = none → Q (.ref p) (upd H p (.dK []))
def tDNewT : TE := fun _ H Q => ∀ p, H p = none → Q (.ref p) (upd H p (.dT []))
section
variable {X : Cx} {pos : Pos}
theorem pe_dnewK : PE X (.Dict [] [] pos) tDNewK := fun pins s σ H Q I h =>
  wpAny_Dict_empty ⟨.ref s.heap.objs.size, _, I.laid (a := s.heap.objs.size) (o := .dK []) (t' := s.toks) (fun _ _ q => Heap.get?_push_of_some _ q) (Nat.le_refl _) (dk_empty s.heap I.big), rfl, h _ (I.hok.fresh (Nat.le_refl _))⟩
theorem pe_dnewT : PE X (.Dict [] [] pos) tDNewT := fun pins s σ H Q I h =>
  wpAny_Dict_empty ⟨.ref s.heap.objs.size, _, I.laid (a := s.heap.objs.size) (o := .dT []) (t' := s.toks) (fun _ _ q => Heap.get?_push_of_some _ q) (Nat.le_refl _) (dt_empty s.heap I.big), rfl, h _ (I.hok.fresh (Nat.le_refl _))⟩
end

/-! ### methods -/
/-- a method call o.m(e) of a built-in, with one argument: what must be seen of the text -/
structure M1 (X : Cx) (o : Expr) (m : Str) (apos : Pos) (e : Expr) (cpos : Pos) : Prop where
  base : attributeBase o m X.env (eval o X.env) = eval o X.env
  few : ((backTo cpos (starEach [e] X.env)).all (fun x => !x.1) && (backToKw cpos (keywordEach [] X.env)).all (fun x => x.1.isSome)
    && decide (([e] : List Expr).length + ([] : List Keyword).length + (if ([] : List Keyword).isEmpty then 0 else 1) < 30)) = true
  line : (apos.endLine == cpos.line) = true
  trees : backTo cpos (starEach [e] X.env) = [(false, eval e X.env)]
/-- a is a dict, whatever its keys -/
def IsD (H : Hp) (a : Addr) : Prop := (∃ kvs, Rd H a (.dK kvs)) ∨ ∃ kvs, Rd H a (.dT kvs)
theorem isD_at {X : Cx} {pins : List (Addr × Obj)} {σ : St} {H : Hp} {s : Shared} {a : Addr} (I : Inv X pins σ H s) (d : IsD H a) :
    s.TypeIs (.ref a) "dict" ∧ (∀ b, Value.ref a = .ref b → ∃ ob, s.heap.get? b = some ob ∧ ob.dict = none) ∧ (a == sysModules) = false := by
  rcases d with ⟨kvs, e⟩ | ⟨kvs, e⟩
  · obtain ⟨_, hd, vs, _, dd⟩ := dk_rd I.hok e
    refine ⟨dd.typeIs, fun b q => ?_, hd⟩
    cases q
    obtain ⟨ob, _, _, h1, h2, _⟩ := dd
    exact ⟨ob, h1, h2.2.1⟩
  · obtain ⟨_, hd, xs, _, dd⟩ := dt_rd I.hok e
    refine ⟨dd.typeIs, fun b q => ?_, hd⟩
    cases q
    obtain ⟨ob, _, _, h1, h2, _⟩ := dd
    exact ⟨ob, h1, h2.2.1⟩

section
variable {X : Cx} {pins : List (Addr × Obj)} {σ : St} {H : Hp} {s : Shared} {a : Addr} {y d : V} {u r : Value} {o : Option V} {A : Around} {E : Value → Shared → Prop}
/-- d.get(y) -/
theorem d_get1 {Q : Value → Shared → Prop} (hu : A.units + 1 < cLine) (I : Inv X pins σ H s) (g : DGet H a y o) (ry : RelV y u) (h : ∀ w' s', Inv X pins σ H s' → RelV (o.getD .non) w' → Q w' s') :
    wpAny (model X.prog X.w) A (call (.builtin "dict.get") [.ref a, u]) Q E s := by
  rcases g with ⟨kvs, k, e, ey, l⟩ | ⟨kvs, k, b, e, ey, eb, l⟩
  · subst ey
    obtain ⟨z, hd, vs, rel, dd⟩ := dk_rd I.hok e
    refine call_meetsIn PySem.F.slot_dict_get dd.typeIs PySem.F.entry_dict_get (PySem.F.args_dict_get_2 _ _) (meets_dict_get (mixKind X.prog X.w) a (kV_is ry) hd) ⟨_, dd.mapOf, h _ _ (I.tok _) ?_⟩
    rw [l]
    exact (rel.val k).getD rfl
  · subst ey
    cases (show u = Value.ref b from ry)
    obtain ⟨z, hd, xs, rel, dd⟩ := dt_rd I.hok e
    refine call_meetsIn PySem.F.slot_dict_get dd.typeIs PySem.F.entry_dict_get (PySem.F.args_dict_get_2 _ _) (meetsH_dict_get (tupleKind (mixKind X.prog X.w)) a b hd) ⟨tupleKind_room_in1 hu, k, xs, key_of I.hok eb, dd, h _ _ (I.tok _) ?_⟩
    rw [l]
    exact (rel.val k).getD rfl
end

def tDGet1 (td ty : TE) : TE := fun σ H Q => td σ H fun x H1 => ∃ a, x = .ref a ∧ IsD H1 a ∧ ty σ H1 fun y H2 => ∃ o, DGet H2 a y o ∧ Q (o.getD .non) H2
section
variable {X : Cx} {o e f : Expr} {apos cpos : Pos} {td ty tx : TE}
theorem pe_dget1 (hu : X.A.units + 1 < cLine) (ho : PE X o td) (he : PE X e ty) (m : M1 X o "get" apos e cpos) : PE X (.Call (.Attribute o "get" apos) [e] [] cpos) (tDGet1 td ty) := by
  intro pins s σ H Q I h
  refine wpAny_Call_method m.base m.few m.line PySem.F.plainAttrs_dict PySem.F.slot_dict_get PySem.F.type_dict_get (thn (ho pins s σ H _ I h) fun u s1 ⟨x, H1, I1, rx, a, ex, d, q1⟩ => ?_)
  subst ex
  obtain rfl : u = Value.ref a := rx
  obtain ⟨t1, t2, _⟩ := isD_at I1 d
  refine ⟨t1, t2, ?_⟩
  rw [m.trees]
  refine Calls.callWith_builtin rfl (Calls.evalArgs_plain (Calls.spliced_cons (thn (he pins s1 σ H1 _ I1 q1) fun iv s2 ⟨y, H2, I2, ry, ov, g, q2⟩ => Calls.spliced_nil ?_)))
  exact d_get1 hu I2 g ry fun w' s3 I3 rw' => ⟨_, H2, I3, rw', q2⟩
end

/-! ### dict(d): a copy -/
section
variable {X : Cx} {pins : List (Addr × Obj)} {σ : St} {H : Hp} {s : Shared} {a : Addr} {kvs : List (Key × V)} {A : Around} {E : Value → Shared → Prop}
end


section
variable {X : Cx} {pins : List (Addr × Obj)} {σ : St} {H : Hp} {s : Shared} {a : Addr} {y : V} {u : Value} {A : Around} {E : Value → Shared → Prop}
end
end L2
namespace L2
open PySem PySem.Spec PyProof.Rows
section
variable {X : Cx}
end
/-! ### a dict's pairs: keys that differ -/
section
variable {κ : Type} [DecidableEq κ]
end
end L2

set_option Elab.async false
set_option linter.all false
set_option maxRecDepth 100000
/-! Refusals over the hand layer: an exception of an own class is made, leaves frames, is caught. -/
namespace L2
open PySem PySem.Spec PyProof.Rows

theorem ObjOk.be {P : Program} {w : World} {H : Hp} {h : Heap} {a : Addr} {o : HO} (x : ObjOk P w H h a o) : ∃ u, h.get? a = some u := by
  cases o with
  | lst xs => obtain ⟨_, _, _, _, e⟩ := x; exact ⟨_, e⟩
  | tup xs => obtain ⟨_, _, _, u, e, _⟩ := x; exact ⟨u, e⟩
  | dK kvs => obtain ⟨_, _, _, _, u, _, _, e, _⟩ := x; exact ⟨u, e⟩
  | dT kvs => obtain ⟨_, _, _, _, u, _, _, e, _⟩ := x; exact ⟨u, e⟩
  | set S n => obtain ⟨u, _, _, _, e, _⟩ := x; exact ⟨u, e⟩
  | ins C dx fs => obtain ⟨_, _, _, e, _⟩ := x; exact ⟨_, e⟩
  | own y => exact x
  | xd fs => obtain ⟨_, ⟨u, _, _, e, _⟩, _⟩ := x; exact ⟨u, e⟩
  | rng lo hi => obtain ⟨_, _, _, e⟩ := x; exact ⟨_, e⟩
  | frz ob u => exact ⟨_, x.1⟩
  | tbl ps => exact ⟨_, x⟩
  | met f y => exact ⟨_, x⟩
  | ext φ => exact x.2.1

/-- h' is h but at the hidden addresses; of the frames fs the slots alone may be others -/
structure Near (hid fs : List Addr) (h h' : Heap) : Prop where
  keep : ∀ b o, h.get? b = some o → b ∉ hid → h'.get? b = some o
  slot : ∀ b o, b ∈ fs → h.get? b = some o → ∃ sl, h'.get? b = some { o with slots := sl }
  sub : ∀ b, b ∈ fs → b ∈ hid
/-- from the library's words: everything but the hidden stays, the frames up to slots -/
theorem near_of {hid : List Addr} {l : List Env} {b0 h h' : Heap} (k : (PySem.W.hideAll h hid).StaysIn h') (up : h.UpToSlots h') (fr : h.FunFrames b0 l) (sub : ∀ b, b ∈ frs l → b ∈ hid) : Near hid (frs l) h h' where
  keep := fun b o q n => k b o (PySem.W.hideAll_get _ q n)
  slot := fun b o m q => by
    obtain ⟨_, o', q', d⟩ := fr.mem m
    rw [q] at q'
    cases q'
    exact up b o q d
  sub := sub
theorem hok_near {P : Program} {w : World} {H : Hp} {h h' : Heap} {hid fs : List Addr} (hok : HOk P w H h) (n : Near hid fs h h') (free : ∀ b, b ∈ hid → H b = none) : HOk P w H h' := fun b u q =>
  (hok b u q).stay (fun c v hc r => n.keep c v r fun m => by
    have z := free c m
    rcases hc with rfl | hc
    · rw [q] at z; cases z
    · rw [hc] at z; cases z) (fun _ z => z) fun _ _ z => z
theorem un_near {gs hid fs : List Addr} {H0 H : Hp} {g h h' : Heap} (u : Un gs [] H0 H g h) (n : Near hid fs h h') (out : ∀ b, b ∈ hid → b ∈ fs ∨ g.get? b = none) (inn : ∀ b, b ∈ fs → b ∈ gs ∨ g.get? b = none) : Un gs [] H0 H g h' where
  keep := fun b o q m hb hx => n.keep b o (u.keep b o q m hb hx) fun z => by
    rcases out b z with y | y
    · rcases inn b y with y | y
      · exact hb y
      · rw [q] at y; cases y
    · rw [q] at y; cases y
  slot := fun b o q m hb hx => by
    obtain ⟨sl, e⟩ := u.slot b o q m hb hx
    by_cases z : b ∈ hid
    · rcases out b z with y | y
      · obtain ⟨sl', e'⟩ := n.slot b _ y e
        exact ⟨sl', e'⟩
      · rw [q] at y; cases y
    · exact ⟨sl, n.keep b _ e z⟩
  free := u.free
  there := fun b o q hx => by
    obtain ⟨o', e⟩ := u.there b o q hx
    by_cases z : b ∈ hid
    · rcases out b z with y | y
      · obtain ⟨sl', e'⟩ := n.slot b _ y e
        exact ⟨_, e'⟩
      · rw [q] at y; cases y
    · exact ⟨_, n.keep b _ e z⟩
  tups := u.tups
  frzs := u.frzs
  tbls := u.tbls

/-- the exception at a, of class cls, flies; T is its trace -/
def FlyT (a T : Addr) (cls : Value) (h : Heap) : Prop :=
  ∃ (oe : Obj) (vs : Array Value) (oT : Obj) (ts : Array Value) (a0 : Value), h.get? a = some oe ∧ (oe.cls = cls ∧ vs[0]? = some a0) ∧ oe.data = .fields vs ∧ vs[1]? = some (.ref T) ∧ T ≠ a ∧ h.get? T = some oT ∧ oT.data = .fields ts ∧ ts[3]? = some .none
/-- how an exception lies behind a call -/
def CXE (P : Program) (w : World) : CXT := fun outer H s E e s' =>
  ∃ (a T : Addr) (cls : Value) (H' : Hp), e = .ref a ∧ s'.os = s.os ∧ AllBare s'.gens ∧ Un (frs outer) [] H H' s.heap s'.heap ∧ HOk P w H' s'.heap ∧
    FlyT a T cls s'.heap ∧ s.heap.get? a = none ∧ s.heap.get? T = none ∧ H' a = none ∧ H' T = none ∧ E cls none H'

theorem flyW {a T : Addr} {cls : Value} {h b0 : Heap} {l : List Env} (f : FlyT a T cls h) (fr : h.FunFrames b0 l) : ∃ a0, Heap.FlyingW (PySem.W.hideAll h (a :: T :: frs l)) l a cls a0 h := by
  obtain ⟨oe, vs, oT, ts, a0, e1, e2, e3, e4, e5, e6, e7, e8⟩ := f
  refine ⟨a0, fun b o q => PySem.W.of_hideAll _ q, PySem.W.hideAll_none _ (.head _), PySem.W.funFrames_hide fr (fun env he b hb => ?_), oe, vs, T, oT, ts, e1, e2, e3, e4, PySem.W.hideAll_none _ (.tail _ (.head _)), e5, e6, e7, e8⟩
  exact .tail _ (.tail _ (List.mem_filterMap.mpr ⟨env, he, hb⟩))
/-- its new trace is as new as the old one -/
theorem fly_on {P : Program} {w : World} {a : Addr} {cls a0 : Value} {h h' g b0 : Heap} {H : Hp} {l l' : List Env} {hid : List Addr} (fr : h.FunFrames b0 l) (fl : Heap.FlyingW (PySem.W.hideAll h hid) l' a cls a0 h') (n : Near hid (frs l) h h')
    (gk : ∀ b o, g.get? b = some o → ∃ o', h.get? b = some o') (hh : ∀ b, b ∈ hid → b ∈ frs l ∨ (g.get? b = none ∧ H b = none)) (hok : HOk P w H h) : ∃ T', FlyT a T' cls h' ∧ g.get? T' = none ∧ H T' = none := by
  obtain ⟨_, _, _, oe, vs, T', oT, ts, e1, e2, e3, e4, e5, e6, e7, e8, e9⟩ := fl
  refine ⟨T', ⟨oe, vs, oT, ts, a0, e1, e2, e3, e4, e6, e7, e8, e9⟩, ?_⟩
  by_cases z : T' ∈ hid
  · rcases hh T' z with y | y
    · obtain ⟨_, o, ho, hd⟩ := fr.mem y
      obtain ⟨sl, q⟩ := n.slot T' o y ho
      rw [e7] at q
      cases q
      exact absurd e8 (hd ts)
    · exact y
  · have nh : h.get? T' = none := by
      cases q : h.get? T' with
      | none => rfl
      | some o =>
        have := PySem.W.hideAll_get hid q z
        rw [e5] at this
        cases this
    constructor
    · cases q : g.get? T' with
      | none => rfl
      | some o =>
        obtain ⟨o', q'⟩ := gk _ _ q
        rw [nh] at q'
        cases q'
    · cases q : H T' with
      | none => rfl
      | some u =>
        obtain ⟨v, e⟩ := (hok T' u q).be
        rw [nh] at e
        cases e

section
variable {P : Program} {w : World} {K : PySem.W.Frag} {mg : Str → Option Value} {base : Heap} {N : List Str} {qual : Str} {scope : Scope} {f : Addr} {cd : Value} {A : Around} {outer : List Env} {s : Shared} {H : Hp} {E : XK}
/-- a made exception reaches what this body wants of exceptions -/
def Raises (X : Cx) (E : XK) : Prop := ∀ (pins : List (Addr × Obj)) (σ : St) (H : Hp) (s : Shared) (e : Addr) (cls : Value) (args : List Value) (h' : Heap), Inv X pins σ H s → Heap.MadeExcOf s.heap h' e cls args → E cls none H → X.xe (.ref e) { s with heap := h' }
theorem Inv.gk {X : Cx} {pins : List (Addr × Obj)} {σ : St} {H : Hp} {s : Shared} (I : Inv X pins σ H s) (hx : X.ex = []) : ∀ b o, X.s₀.heap.get? b = some o → ∃ o', s.heap.get? b = some o' := fun b o q => I.base.there b o q (by rw [hx]; simp)
theorem Inv.gn {X : Cx} {pins : List (Addr × Obj)} {σ : St} {H : Hp} {s : Shared} (I : Inv X pins σ H s) (hx : X.ex = []) {b : Addr} (q : s.heap.get? b = none) : X.s₀.heap.get? b = none := by
  cases e : X.s₀.heap.get? b with
  | none => rfl
  | some o =>
    obtain ⟨o', e'⟩ := I.gk hx b o e
    rw [q] at e'
    cases e'
/-- this body's own frame is younger than its entry -/
theorem Inv.ownNew {X : Cx} {pins : List (Addr × Obj)} {σ : St} {H : Hp} {s : Shared} (I : Inv X pins σ H s) : X.s₀.heap.get? X.env.locals = none := Heap.get?_none_of_le I.ok.above
theorem Inv.frsOut {X : Cx} {pins : List (Addr × Obj)} {σ : St} {H : Hp} {s : Shared} (I : Inv X pins σ H s) : ∀ b, b ∈ frs X.stack → b ∈ frs X.outer ∨ X.s₀.heap.get? b = none := fun b hb => by
  rcases List.mem_cons.mp (I.stkSub b hb) with z | z
  · right; rw [z]; exact I.ownNew
  · exact .inl z

theorem raisesE : Raises (cxOf (CXE P w) P w K mg base N qual scope f cd A outer s H E) E := by
  intro pins σ H1 s1 e cls args h' I hx hE
  have fr := I.stack
  have hs : ∀ b, b ∈ frs (cxOf (CXE P w) P w K mg base N qual scope f cd A outer s H E).stack → b ∈ frs (cxOf (CXE P w) P w K mg base N qual scope f cd A outer s H E).stack := fun _ z => z
  have st : (PySem.W.hideAll s1.heap (frs (cxOf (CXE P w) P w K mg base N qual scope f cd A outer s H E).stack)).StaysIn s1.heap := fun b o q => PySem.W.of_hideAll _ q
  have fr2 := PySem.W.funFrames_hide (as := frs (cxOf (CXE P w) P w K mg base N qual scope f cd A outer s H E).stack) fr (fun env he b hb => List.mem_filterMap.mpr ⟨env, he, hb⟩)
  refine wpAny_leaves_madeW (s := { s1 with heap := h' }) I.ok.frames rfl st fr2 hx fun h2 t x1 x2 x3 x4 => ?_
  have nr : Near (frs (cxOf (CXE P w) P w K mg base N qual scope f cd A outer s H E).stack) (frs (cxOf (CXE P w) P w K mg base N qual scope f cd A outer s H E).stack) s1.heap h2 :=
    ⟨fun b o q z => x1.1 b o (PySem.W.hideAll_get _ q z), fun b o z q => by
      obtain ⟨_, o', q', d⟩ := fr.mem z
      rw [q] at q'
      cases q'
      exact x4 b o (hx.keeps b o q) d, fun _ z => z⟩
  obtain ⟨T, fl, gT, nT⟩ := fly_on (P := P) (w := w) (g := s.heap) (H := H1) fr x1 nr (I.gk rfl) (fun b z => .inl z) I.hok
  refine ⟨e, T, cls, H1, rfl, I.os, I.bare, un_near I.base nr (fun b z => .inl z) I.frsOut, hok_near I.hok nr I.stkFree, fl, I.gn rfl hx.new, gT, ?_, nT, hE⟩
  cases q : H1 e with
  | none => rfl
  | some u =>
    obtain ⟨v, z⟩ := (I.hok e u q).be
    rw [hx.new] at z
    cases z
theorem passE : Passes (CXE P w) (cxOf (CXE P w) P w K mg base N qual scope f cd A outer s H E) E := by
  intro pins σ H1 s1 e s' I h
  obtain ⟨a, T, cls, H', rfl, os, bare, un, hok, fl, na, nT, ha, hT, hE⟩ := h
  have J : Inv (cxOf (CXE P w) P w K mg base N qual scope f cd A outer s H E) pins σ H' s' := I.call' (ch := []) os un hok bare (fun b z => absurd z (by simp))
  have fr := J.stack
  obtain ⟨a0, fw⟩ := flyW fl fr
  refine wpAny_leaves_onW J.ok.frames rfl fw fun h2 x1 x2 => ?_
  have nr := near_of x1.1 x2 fr (fun b z => .tail _ (.tail _ z))
  have ga := I.gn rfl na
  have gT := I.gn rfl nT
  have hid : ∀ b, b ∈ a :: T :: frs (cxOf (CXE P w) P w K mg base N qual scope f cd A outer s H E).stack → b ∈ frs (cxOf (CXE P w) P w K mg base N qual scope f cd A outer s H E).stack ∨ (s.heap.get? b = none ∧ H' b = none) := fun b z => by
    rcases List.mem_cons.mp z with rfl | z
    · exact .inr ⟨ga, ha⟩
    · rcases List.mem_cons.mp z with rfl | z
      · exact .inr ⟨gT, hT⟩
      · exact .inl z
  obtain ⟨T2, fl2, gT2, nT2⟩ := fly_on (P := P) (w := w) (g := s.heap) (H := H') fr x1 nr (J.gk rfl) hid J.hok
  refine ⟨a, T2, cls, H', rfl, J.os, J.bare, un_near J.base nr (fun b z => (hid b z).imp id (·.1)) J.frsOut, hok_near J.hok nr (fun b z => ?_), fl2, ga, gT2, ha, nT2, hE⟩
  rcases hid b z with y | y
  · exact J.stkFree b y
  · exact y.2
/-- a def that may refuse -/
theorem Fun.okE {x : Str} {st : Stmt} {fd : FuncData} {ps : List Str} {k : Nat} {sp : Sp} (F : Fun K x qual st f fd) (S : FnScope N ps (defScope st)) (len : ∀ vs H Q E, sp vs H Q E → vs.length = ps.length)
    (hbody : ∀ (cdv : Value) (A : Around) (outer : List Env) (s : Shared) (H : Hp) (vs : List V) (Q : VK) (E : XK), Room k (A.deeper (envOfC qual (defScope st) s.heap.objs.size f cdv)) → sp vs H Q E →
      ∃ t, PSs (cxOf (CXE P w) P w K mg base N qual (defScope st) f cdv A outer s H E) (defBody st) t ∧ t { nx := fun _ H' => Q .non H', rt := Q } (start N vs) H) : FnOk P w K mg base (CXE P w) (k + 1) f fd ps sp := by
  obtain ⟨oc, od, kV, doc, pm, an, cdv, ct, osl, rfl, lk, hcd⟩ := F.ex
  exact fn_of lk hcd S len fun A outer s H vs Q E hr hsp => hbody cdv A outer s H vs Q E hr hsp
end
end L2

set_option Elab.async false
set_option linter.all false
set_option maxRecDepth 100000
namespace L2
open PySem PySem.Spec PyProof.Rows

/-! ### an own class of refusals under ValueError -/
def vmro : List Value := [.type "ValueError", .type "Exception", .type "BaseException", .type "object"]
abbrev ExcC (K : PySem.W.Frag) (C : Addr) : Prop := PySem.W.excIn K C vmro "ValueError.__new__" = true
theorem exc_obj {K : PySem.W.Frag} {h : Heap} {C : Addr} {bmB : List Value} {newId : String} (X : K.In h) (q : PySem.W.excIn K C bmB newId = true) :
    ∃ (bm : List Value) (N : Addr) (nm qn : Str) (bs : List Value) (hd : Bool) (sn : List Str) (sub : List Value) (ab : Bool) (col : Option Bool) (dd : Option Addr) (k0 k1 k2 k3 k5 : Option Value) (mN : Str → Option Value),
      h.get? C = some (excClassObj nm qn C N bs bm hd sn sub ab col dd k0 k1 k2 k3 k5 newId) ∧ h.Ns N mN ∧ mN "__init__" = none ∧ OwnTail h bmB bm ∧ ∀ v, PySem.W.mroIn K C v = some ((Value.ref C :: bm).contains v) := by
  unfold PySem.W.excIn at q
  split at q
  case h_2 => cases q
  rename_i dd cd sl ho
  split at q
  case h_2 => cases q
  rename_i C' bm k0 k1 k2 k3 n k5 hm hs
  simp only [Bool.and_eq_true, beq_iff_eq, Bool.not_eq_true'] at q
  obtain ⟨⟨⟨⟨⟨q1, q2⟩, q3⟩, q4⟩, q5⟩, q6⟩ := q
  subst q1 q2
  have mro : ∀ v, PySem.W.mroIn K C' v = some ((Value.ref C' :: bm).contains v) := fun v => by
    unfold PySem.W.mroIn PySem.W.clsIn
    rw [ho]
    show (if cd.mro.isEmpty = true then none else some (cd.mro.contains v)) = _
    rw [hm]
    rfl
  obtain ⟨nm, bs, mr, ns, qn, hd, sn, sub, ab, col, del⟩ := cd
  dsimp only at hm q3 q5 q6
  subst hm
  subst q3
  obtain ⟨l⟩ := sl
  dsimp only at hs
  subst hs
  exact ⟨bm, ns, nm, qn, bs, hd, sn, sub, ab, col, dd, k0, k1, k2, k3, k5, _, X _ _ ho, .of_isNs (PySem.W.isNs_of_in X q5), PySem.W.nsMap_none_of_in X q5 q6, PySem.W.tail_of_in X q4, mro⟩

section
variable {X : Cx} {C : Addr} {x : Str} {np cpos pos : Pos} {e : Expr} {es : List Expr} {t : TA} {E : XK}
/-! ### raise C(..) -/
def tRaise (C : Addr) (E : XK) (t : TA) : TS := fun _ σ H => t σ H fun vs H1 => vs.length ≤ 100 ∧ E (.ref C) none H1
theorem ps_raise (hx : Raises X E) (hc : X.calm = true) (hg : Gl X x) (hm : X.mg x = some (.ref C)) (hC : ExcC X.K C) (ha : PA X (e :: es) t)
    (hdb : (x == ("__debug__" : Str)) = false := by decide) (he : starEach (e :: es) X.env = (false, eval e X.env) :: starEach es X.env := by rfl) (hpl : (backTo cpos (starEach es X.env)).any (·.1) = false := by rfl) :
    PS X (.Raise (some (.Call (.Name x np) (e :: es) [] cpos)) none pos) (tRaise C E t) := by
  intro pins s σ H D I h
  obtain ⟨bm, N, nm, qn, bs, hd, sn, sub, ab, col, dd, k0, k1, k2, k3, k5, mN, hO, hN, hi, hT, hM⟩ := exc_obj I.mod.kin hC
  have hbase : bm.contains (.type "BaseException") = true := hT.hasType (by decide)
  refine wpAny_Raise_call_subU (C := C) (nm := nm) (q := qn) (N := N) (bs := bs) (bm := bm) (hdct := hd) (sn := sn) (sub := sub) (ab := ab) (col := col) (dd := dd) (k0 := k0) (k1 := k1) (k2 := k2) (k3 := k3) (k5 := k5) (newId := "ValueError.__new__") (mN := mN)
    PySem.F.excBase_ValueError (by decide) PySem.F.excBase_ValueError hbase (I.ok.hd hc) (by rw [he]; show (false || (backTo cpos (starEach es X.env)).any (·.1)) = false; rw [hpl]; rfl) hi (ld_glob I hg hm ⟨rfl, ?_⟩ hdb)
  have hA := ha cpos pins s σ H _ I h
  rw [he] at hA ⊢
  refine Calls.evalArgs_plain (thn hA fun us s1 ⟨vs, H1, I1, r1, hl, q1⟩ => ?_)
  have k : ∀ b o, X.base.get? b = some o → s1.heap.get? b = some o := I1.bk
  refine ⟨rfl, ?_, k _ _ hO, hN.keeps k, hT.keeps k, fun h' e' hx' => hx pins σ H1 s1 e' _ _ h' I1 hx' q1⟩
  show us.length ≤ sizeLine
  rw [← r1.length]
  exact Nat.le_trans hl (by decide)
end

/-! ### calls whose exceptions are taken where S holds of the names -/
def PassesS (CX : CXT) (X : Cx) (E : XK) (S : St → Prop) : Prop := ∀ (pins : List (Addr × Obj)) (σ : St) (H : Hp) (s : Shared) (e : Value) (s' : Shared), S σ → Inv X pins σ H s → CX X.stack H s E e s' → X.xe e s'
section
variable {X : Cx} {CX : CXT} {k : Nat} {f : Addr} {fd : FuncData} {ps : List Str} {sp : Sp} {dvs : List V} {ds : List Value} {E : XK} {x : Str} {p pos : Pos} {e : Expr} {es : List Expr} {t : TA} {S : St → Prop}
end

/-! ### the same state for another wish, other standing pins, another Around -/
theorem Inv.re {X : Cx} {pins pins2 pn2 : List (Addr × Obj)} {σ : St} {H : Hp} {s : Shared} {A2 : Around} {c2 : Bool} {xe2 : Value → Shared → Prop} (I : Inv X pins σ H s) (hd : c2 = true → A2.handled = none) (hf : A2.frames = X.A.frames)
    (hp : ∀ p, p ∈ pn2 ++ pins2 → p ∈ X.pn ++ pins) : Inv { X with A := A2, calm := c2, xe := xe2, pn := pn2 } pins2 σ H s :=
  ⟨⟨I.ok.mod, I.ok.kind, I.ok.glob, I.ok.blt, I.ok.above, I.ok.inj, I.ok.has, I.ok.cab, hd, hf.trans I.ok.frames, I.ok.stk, I.ok.exf, I.ok.bs, I.ok.bsz, I.ok.noex, I.ok.exfs, I.ok.funs, I.ok.frf⟩,
    I.os, I.bare, I.base, I.loc, I.cell, I.free, I.freeC, fun p z => I.pin p (hp p z), I.hok, I.len⟩
theorem Inv.un_re {X : Cx} {pins pins2 pn2 : List (Addr × Obj)} {σ : St} {H : Hp} {s : Shared} {A2 : Around} {c2 : Bool} {xe2 : Value → Shared → Prop} (I : Inv { X with A := A2, calm := c2, xe := xe2, pn := pn2 } pins2 σ H s) (hd : X.calm = true → X.A.handled = none)
    (hf : X.A.frames = A2.frames) (hp : ∀ p, p ∈ X.pn ++ pins → p ∈ pn2 ++ pins2) : Inv X pins σ H s :=
  ⟨⟨I.ok.mod, I.ok.kind, I.ok.glob, I.ok.blt, I.ok.above, I.ok.inj, I.ok.has, I.ok.cab, hd, hf.trans I.ok.frames, I.ok.stk, I.ok.exf, I.ok.bs, I.ok.bsz, I.ok.noex, I.ok.exfs, I.ok.funs, I.ok.frf⟩,
    I.os, I.bare, I.base, I.loc, I.cell, I.free, I.freeC, fun p z => I.pin p (hp p z), I.hok, I.len⟩
theorem SP.map {X Y : Cx} {p q : List (Addr × Obj)} {D : Ends} {f : Flow} {s : Shared} (k : ∀ σ H, Inv X p σ H s → Inv Y q σ H s) (h : SP X p D f s) : SP Y q D f s := by
  cases f with
  | next => obtain ⟨σ', H', I, z⟩ := h; exact ⟨σ', H', k _ _ I, z⟩
  | brk => obtain ⟨σ', H', I, z⟩ := h; exact ⟨σ', H', k _ _ I, z⟩
  | cont => obtain ⟨σ', H', I, z⟩ := h; exact ⟨σ', H', k _ _ I, z⟩
  | ret u => obtain ⟨v, σ', H', I, r, z⟩ := h; exact ⟨v, σ', H', k _ _ I, r, z⟩

/-- an exception object that is held: its class -/
def isExc (a D : Addr) : HO := .ext fun h => ∃ o, h.get? a = some o ∧ o.cls = .ref D ∧ PySem.W.notCls o = true
theorem isExc_ok {P : Program} {w : World} {H : Hp} {h : Heap} {a D : Addr} {o : Obj} (e : h.get? a = some o) (c : o.cls = .ref D) (n : PySem.W.notCls o = true) : ObjOk P w H h a (isExc a D) :=
  ⟨⟨o, e, c, n⟩, ⟨o, e⟩, fun h1 h2 ⟨o1, e1, c1, n1⟩ k => ⟨o1, k _ e1, c1, n1⟩⟩
/-- a thing of the heap that was not tracked is, from now on -/
theorem Inv.track {X : Cx} {pins : List (Addr × Obj)} {σ : St} {H : Hp} {s : Shared} {a : Addr} {o : HO} (I : Inv X pins σ H s) (ha : H a = none) (h0 : X.s₀.heap.get? a = none) (hb : X.base.get? a = none) (hL : X.env.locals ≠ a) (hc : ∀ x c, X.env.cells.lookup x = some c → c ≠ a)
    (hp : ∀ p, p ∈ X.pn ++ pins → p.1 ≠ a) (hs : ∀ b, b ∈ X.fs → b ≠ a) (new : ObjOk X.prog X.w (upd H a o) s.heap a o) : Inv X pins σ (upd H a o) s := by
  have ne : ∀ b u, H b = some u → b ≠ a := fun b u q z => by rw [z, ha] at q; cases q
  refine ⟨I.ok, I.os, I.bare, ⟨I.base.keep, I.base.slot, fun b u q n x => ?_, I.base.there, fun b xs q => ?_, fun b u v q => ?_, fun b ps q => ?_⟩, I.loc, I.cell, ?_, fun x c q => ?_, fun p z => ?_, fun b u q => ?_, I.len⟩
  · rw [upd_ne (fun z => by rw [z, h0] at q; cases q)]
    exact I.base.free b u q n x
  · have z := I.base.tups b xs q
    rw [upd_ne (ne _ _ z)]; exact z
  · have z := I.base.frzs b u v q
    rw [upd_ne (ne _ _ z)]; exact z
  · obtain ⟨m, z⟩ := I.base.tbls b ps q
    exact ⟨m, by rw [upd_ne (ne _ _ z)]; exact z⟩
  · rw [upd_ne hL]; exact I.free
  · rw [upd_ne (hc x c q)]; exact I.freeC x c q
  · obtain ⟨e, n, r⟩ := I.pin p z
    exact ⟨e, by rw [upd_ne (hp p z)]; exact n, r⟩
  · by_cases z : b = a
    · subst z
      rw [upd_same] at q
      cases q
      exact new
    · rw [upd_ne z] at q
      exact (I.hok b u q).stay (fun c v _ r => r) (fun c r => by rw [upd_ne (ne _ _ r)]; exact r) fun c xs r => by rw [upd_ne (ne _ _ r)]; exact r
/-- behind «as e»: the name is gone -/
theorem Inv.gone {X : Cx} {pins : List (Addr × Obj)} {σ : St} {H : Hp} {s : Shared} {h' : Heap} {n : Str} {i : Nat} {v : Option Value} {m : Str → Option Value} {tk : Nat} (I : Inv X pins σ H s) (hN : X.N.Nodup) (hi : X.N[i]? = some n) (hl : X.env.scope.names.lookup n = some .local)
    (hl0 : ∀ (i : Nat) (x : Str) (v : V), X.N[i]? = some x → σ[i]? = some (some v) → Vis X.env.scope x → ∃ u, RelV v u ∧ Look X.env s.heap m x u) (hn' : h'.Ns X.env.locals (fun x => if x = n then v else m x)) (sb : Heap.SameBut X.env.locals s.heap h') : Inv X pins (σ.set i none) H { s with heap := h', toks := tk } := by
  have neL : ∀ b o, X.s₀.heap.get? b = some o → b ≠ X.env.locals := fun b o e => Nat.ne_of_lt (Nat.lt_of_lt_of_le (Heap.lt_size e) I.ok.above)
  refine ⟨I.ok, I.os, I.bare, ⟨fun b o e z hb hx => ?_, fun b o e z hb hx => ?_, I.base.free, fun b o e hx => ?_, I.base.tups, I.base.frzs, I.base.tbls⟩, ⟨_, hn', fun j y v' e1 e2 e3 => ?_⟩, fun y c e => ?_, I.free, I.freeC, fun p hp => ?_, fun b u q => ?_, by simpa using I.len⟩
  · exact (sb.2 b (neL b o e)).trans (I.base.keep b o e z hb hx)
  · obtain ⟨sl, q⟩ := I.base.slot b o e z hb hx
    exact ⟨sl, (sb.2 b (neL b o e)).trans q⟩
  · obtain ⟨o', q⟩ := I.base.there b o e hx
    exact ⟨o', (sb.2 b (neL b o e)).trans q⟩
  · by_cases hj : j = i
    · subst hj
      rw [List.getElem?_set_self (by rw [I.len]; exact (List.getElem?_eq_some_iff.mp hi).1)] at e2
      cases e2
    · rw [List.getElem?_set_ne (Ne.symm hj)] at e2
      obtain ⟨u, r, l⟩ := hl0 j y v' e1 e2 e3
      refine ⟨u, r, ?_⟩
      have ny : y ≠ n := fun z => hj (nodup_ix hN e1 (z ▸ hi))
      rcases l with ⟨k, q⟩ | ⟨k, c, q, z⟩
      · exact .inl ⟨k, by simp [ny, q]⟩
      · exact .inr ⟨k, c, q, z.sameBut sb (I.cne y c q)⟩
  · obtain ⟨w', z⟩ := I.cell y c e
    exact ⟨w', z.sameBut sb (I.cne y c e)⟩
  · obtain ⟨e, z, ne, r⟩ := I.pin p hp
    exact ⟨(sb.2 p.1 ne).trans e, z, ne, r⟩
  · have ne : ∀ c v, H c = some v → c ≠ X.env.locals := fun c v q z => by rw [z, I.free] at q; cases q
    refine (I.hok b u q).stay (fun c v hc r => (sb.2 c ?_).trans r) (fun _ z => z) fun _ _ z => z
    rcases hc with rfl | hc
    · exact ne _ _ q
    · exact ne _ _ hc
end L2

set_option Elab.async false
set_option linter.all false
set_option maxRecDepth 100000
namespace L2
open PySem PySem.Spec PyProof.Rows

/-! ### does an except clause of an own class take an exception of an own class -/
theorem exc_takes {K : PySem.W.Frag} {M : Model} {A : Around} {E : Value → Shared → Prop} {s : Shared} {e C D : Addr} {oe : Obj} {Q : Bool → Shared → Prop} (X : K.In s.heap) (hC : ExcC K C) (hD : ExcC K D) (hs : PySem.W.mroIn K D (.ref C) = some true)
    (he : s.heap.get? e = some oe) (hcls : oe.cls = .ref D) (hq : Q true s) : wpAny M A (excMatches (.ref e) (.ref C)) Q E s := by
  obtain ⟨h, g, d, t, os⟩ := s
  obtain ⟨bm, N, nm, qn, bs, hd, sn, sub, ab, col, dd, k0, k1, k2, k3, k5, mN, hO, hN, hi, hT, hM⟩ := exc_obj X hD
  have hbase : bm.contains (.type "BaseException") = true := hT.hasType (by decide)
  by_cases z : D = C
  · subst z
    exact wpAny_excMatches_sub_self hO he hcls hbase hq
  · obtain ⟨bm', N', nm', qn', bs', hd', sn', sub', ab', col', dd', k0', k1', k2', k3', k5', mN', hO', hN', hi', hT', hM'⟩ := exc_obj X hC
    have hcB : (Value.ref C :: bm').contains (.type "BaseException") = true := by rw [List.contains_cons, hT'.hasType (X := "BaseException") (b := true) (by decide), Bool.or_true]
    have hcC : (Value.ref D :: bm).contains (.ref C) = true := Option.some.inj ((hM (.ref C)).symm.trans hs)
    have f := tc_notTuple
    unfold excMatches
    repeat (first
      | (with_reducible refine wpAny_loadPart_at he ?_; rw [hcls])
      | with_reducible refine wpAny_loadPart_at hO' ?_
      | (with_reducible refine wpAny_isSubtype_exc hO' ?_; rw [hcB])
      | (with_reducible refine wpAny_isSubtype_exc hO ?_; rw [hcC])
      | wp_step)
    exact hq

section
variable {X : Cx} {C : Addr} {x n : Str} {np hpos pos : Pos} {i : Nat} {b₀ : Stmt} {suite body : List Stmt} {S : St → Prop} {tb : XK → TS} {th : TS}
/-- the exception that reached this body lies in it; the clause's class takes it; the suite begins -/
theorem land {pins pins' : List (Addr × Obj)} {σ : St} {H1 : Hp} {s1 s' : Shared} {e : Value} {E1 : XK} {Q : Flow → Shared → Prop} {nm : Option Str} {xe1 : Value → Shared → Prop}
    (hstk : X.stack = X.env :: X.outer) (hfr : X.env.frame = some X.env.locals) (hex : X.ex = []) (hg : Gl X x) (hm : X.mg x = some (.ref C)) (hC : ExcC X.K C) (hcalm : X.calm = true)
    (hE1 : ∀ cls d H', E1 cls d H' → ∃ D, cls = .ref D ∧ ExcC X.K D ∧ PySem.W.mroIn X.K D (.ref C) = some true)
    (J0 : Inv { X with xe := xe1, pn := X.pn ++ pins } pins' σ H1 s1) (hcx : CXE X.prog X.w X.stack H1 s1 E1 e s')
    (go : ∀ (a D : Addr) (H' : Hp) (s2 : Shared), e = .ref a → E1 (.ref D) none H' → H' a = none → (∃ o, s2.heap.get? a = some o ∧ o.cls = .ref D ∧ PySem.W.notCls o = true) → X.s₀.heap.get? a = none → X.base.get? a = none → X.env.locals ≠ a → (∀ x c, X.env.cells.lookup x = some c → c ≠ a) →
      (∀ p, p ∈ X.pn ++ pins → p.1 ≠ a) → (∀ b, b ∈ X.fs → b ≠ a) → Inv X pins σ H' s2 →
      (∀ (Q' : Unit → Shared → Prop) (E' : Value → Shared → Prop), (∀ s3, Inv X pins σ H' s3 → (∃ o, s3.heap.get? a = some o ∧ o.cls = .ref D ∧ PySem.W.notCls o = true) → Q' () s3) → wpAny (model X.prog X.w) (X.A.mark (some (.ref a))) (setFlight (.ref a) none) Q' E' s2) →
      codeAny (model X.prog X.w) (X.A.mark (some (.ref a))) (.handlers (.ref a) [.ExceptHandler none nm (b₀ :: suite) hpos] X.env) (fun r s₂ => match r with
          | .ok f => (match nm with
            | none => Q f s₂
            | some n => wpAny (model X.prog X.w) X.A (do bindName X.env n .none; unbindBehindTheSuite X.env n hpos) (fun _ s₃ => Q f s₃) X.xe s₂)
          | .error x => cameBackBy (model X.prog X.w) X.A X.env X.xe x s₂) s2)
    (hdb : (x == ("__debug__" : Str)) = false := by decide) :
    wpAny (model X.prog X.w) X.A (noteFrame e X.env) (fun _ s₂ => wpAny (model X.prog X.w) X.A (setFlight e none) (fun _ s₃ => wpAny (model X.prog X.w) X.A (handleBy e X.env [.ExceptHandler (some (.Name x np)) nm (b₀ :: suite) hpos]) Q X.xe s₃) X.xe s₂) X.xe s' := by
  obtain ⟨a, T, cls, H', rfl, os, bare, un, hok, fl, na, nT, ha, hT, hE⟩ := hcx
  obtain ⟨D, rfl, hD, hDC⟩ := hE1 _ _ _ hE
  have hpin : ∀ p, p ∈ X.pn ++ pins → p.1 ≠ a := fun p hp z => by
    have q := (J0.pin p (List.mem_append_left _ hp)).1
    rw [z, na] at q
    cases q
  have I0 : Inv X pins σ H1 s1 := J0.un_re J0.ok.hd rfl (fun p hp => List.mem_append_left _ hp)
  have J : Inv X pins σ H' s' := I0.call' (ch := []) os un hok bare (fun b z => absurd z (by simp))
  have fr := J.stack
  obtain ⟨a0, fw⟩ := flyW fl fr
  have sub : ∀ b, b ∈ frs X.stack → b ∈ a :: T :: frs X.stack := fun b z => .tail _ (.tail _ z)
  have hf2 : X.A.frames = some (X.env :: X.outer) := J.ok.frames.trans (by rw [hstk])
  have free : ∀ b, b ∈ a :: T :: frs X.stack → H' b = none := fun b z => by
    rcases List.mem_cons.mp z with rfl | z
    · exact ha
    · rcases List.mem_cons.mp z with rfl | z
      · exact hT
      · exact J.stkFree b z
  have g0 : ∀ {b}, s1.heap.get? b = none → X.s₀.heap.get? b = none := fun q => I0.gn hex q
  have out : ∀ b, b ∈ a :: T :: frs X.stack → b ∈ frs X.stack ∨ X.s₀.heap.get? b = none := fun b z => by
    rcases List.mem_cons.mp z with rfl | z
    · exact .inr (g0 na)
    · rcases List.mem_cons.mp z with rfl | z
      · exact .inr (g0 nT)
      · exact .inl z
  have out1 : ∀ b, b ∈ a :: T :: frs X.stack → b ∈ frs X.stack ∨ s1.heap.get? b = none := fun b z => by
    rcases List.mem_cons.mp z with rfl | z
    · exact .inr na
    · rcases List.mem_cons.mp z with rfl | z
      · exact .inr nT
      · exact .inl z
  -- the state over a heap near to this one
  have over : ∀ h2, Near (a :: T :: frs X.stack) (frs X.stack) s'.heap h2 → Inv X pins σ H' { s' with heap := h2 } := fun h2 nr =>
    I0.call' (s' := { s' with heap := h2 }) (ch := []) os (un_near un nr out1 fun b z => .inl z) (hok_near hok nr free) bare (fun b z => absurd z (by simp))
  rw [hstk] at fw
  refine wpAny_looks_onW hf2 hfr fw fun h4 held4 up4 => ?_
  refine wpAny_landsW held4 fun h5 fw5 up5 => ?_
  have nr5 : Near (a :: T :: frs X.stack) (frs X.stack) s'.heap h5 := near_of (by rw [hstk]; exact fw5.1) (up4.trans up5) fr sub
  have J5 := over h5 nr5
  obtain ⟨oe5, q5, c5⟩ := fw5.there
  have M5 : Inv { X with A := X.A.mark (some (.ref a)), calm := false, xe := fun _ _ => False, pn := X.pn } pins σ H' { s' with heap := h5 } := J5.re (fun z => nomatch z) rfl (fun _ z => z)
  refine wpAny_handleBy_cons (codeAny_handlers_test (ld_glob (X := { X with A := X.A.mark (some (.ref a)), calm := false, xe := fun _ _ => False, pn := X.pn }) M5 hg hm ?_ hdb)) (by intro q; cases q)
  refine exc_takes M5.kIn hC hD hDC q5 c5 ?_
  have held : ∀ {h2}, Heap.FlyingW (PySem.W.hideAll s'.heap (a :: T :: frs (X.env :: X.outer))) (X.env :: X.outer) a (.ref D) a0 h2 → ∃ o, h2.get? a = some o ∧ o.cls = .ref D ∧ PySem.W.notCls o = true := fun fw => by
    obtain ⟨_, _, _, oe, vs, T', oT, ts, e1, e2, e3, _⟩ := fw
    exact ⟨oe, e1, e2.1, by unfold PySem.W.notCls; rw [e3]⟩
  have nL : ∀ {b o}, s1.heap.get? b = some o → b ≠ a := fun q z => by rw [z, na] at q; cases q
  refine go a D H' { s' with heap := h5 } rfl hE ha (held fw5) (g0 na) ?_ ?_ ?_ hpin ?_ J5 ?_
  · cases q : X.base.get? a with
    | none => rfl
    | some o =>
      have := I0.bk a o q
      rw [na] at this
      cases this
  · obtain ⟨m, ⟨o, _, _, q, _⟩, _⟩ := I0.loc
    exact nL q
  · intro y c q
    obtain ⟨v, o, ho, _⟩ := I0.cell y c q
    exact nL ho
  · intro b hb
    obtain ⟨_, o, ho, _⟩ := I0.funs.mem hb
    exact nL ho
  · intro Q' E' hk
    refine lands_againW (s := { s' with heap := h5 }) fw5 fun h6 fw6 up6 => hk _ (over h6 (near_of (by rw [hstk]; exact fw6.1) ((up4.trans up5).trans up6) fr sub)) (held fw6)

/-- what is wanted of an exception of a try's body -/
abbrev tryXe (X : Cx) (pins : List (Addr × Obj)) (D : Ends) (hs : List ExceptHandler) : Value → Shared → Prop := fun e s₁ =>
  wpAny (model X.prog X.w) X.A (noteFrame e X.env) (fun _ s₂ => wpAny (model X.prog X.w) X.A (setFlight e none) (fun _ s₃ => wpAny (model X.prog X.w) X.A (handleBy e X.env hs) (SP X pins D) X.xe s₃) X.xe s₂) X.xe s₁
/-- try: body / except C as n: suite; n stands in slot i -/
def tTryAs (K : PySem.W.Frag) (C : Addr) (i : Nat) (S : St → Prop) (tb : XK → TS) (th : TS) : TS := fun D σ H =>
  tb (fun cls _ H' => ∃ D', cls = .ref D' ∧ ExcC K D' ∧ PySem.W.mroIn K D' (.ref C) = some true ∧ ∀ σ' a, S σ' → H' a = none →
    th { nx := fun σ2 H2 => D.nx (σ2.set i none) H2, rt := D.rt, bk := fun σ2 H2 => D.bk (σ2.set i none) H2, ct := fun σ2 H2 => D.ct (σ2.set i none) H2 } (σ'.set i (some (.ref a))) (upd H' a (isExc a D'))) D σ H
theorem ps_tryAs (hstk : X.stack = X.env :: X.outer) (hfr : X.env.frame = some X.env.locals) (hex : X.ex = []) (hcalm : X.calm = true) (hg : Gl X x) (hm : X.mg x = some (.ref C)) (hC : ExcC X.K C) (hN : X.N.Nodup) (hi : X.N[i]? = some n) (hl : X.env.scope.names.lookup n = some .local)
    (hb : ∀ (xe : Value → Shared → Prop) (pn : List (Addr × Obj)) (E1 : XK), PassesS (CXE X.prog X.w) { X with xe := xe, pn := pn } E1 S → PSs { X with xe := xe, pn := pn } body (tb E1))
    (hth : ∀ (a : Addr), PSs { X with A := X.A.mark (some (.ref a)), calm := false, xe := fun _ _ => False, pn := X.pn } (b₀ :: suite) th) (hdb : (x == ("__debug__" : Str)) = false := by decide) :
    PS X (.Try body [.ExceptHandler (some (.Name x np)) (some n) (b₀ :: suite) hpos] [] [] pos) (tTryAs X.K C i S tb th) := by
  intro pins s σ H D I h
  refine wpAny_Try_except ?_
  have I1 : Inv { X with xe := tryXe X pins D [.ExceptHandler (some (.Name x np)) (some n) (b₀ :: suite) hpos], pn := X.pn ++ pins } [] σ H s :=
    I.re I.ok.hd rfl (fun p z => by simpa using z)
  refine wpAny_mono (hb (tryXe X pins D [.ExceptHandler (some (.Name x np)) (some n) (b₀ :: suite) hpos]) (X.pn ++ pins) _ ?pass [] s σ H D I1 h) (fun f s1 q => ?_) (fun e s1 q => q)
  case pass =>
    intro pins' σ' H1 s1 e s' hS J hcx
    refine land (pins := pins) hstk hfr hex hg hm hC hcalm (fun cls d H' ⟨D', z, a, b, _⟩ => ⟨D', z, a, b⟩) J hcx (fun a D' H' s2 _ hE ha ho g0 gb nL nC nP nF J5 hset => ?_) hdb
    obtain ⟨D2, z, _, _, k⟩ := hE
    cases z
    refine codeAny_handlers_suite_as (hset _ _ fun s3 J3 L3 => ?_)
    obtain ⟨o3, e3, c3, n3⟩ := L3
    have J4 := J3.track (o := isExc a D') ha g0 gb nL nC nP nF (isExc_ok e3 c3 n3)
    refine store_ok J4 hN hi (.inl hl) (v := .ref a) rfl (fun s4 K4 => ?_) (.inr hl)
    have J6 : Inv { X with A := X.A.mark (some (.ref a)), calm := false, xe := fun _ _ => False, pn := X.pn } pins (σ'.set i (some (.ref a))) (upd H' a (isExc a D')) s4 := K4.re (fun z => nomatch z) rfl (fun _ z => z)
    refine wpAny_mono (hth a pins s4 _ _ _ J6 (k σ' a hS ha)) (fun f s5 q => ?_) (fun _ _ z => z.elim)
    have gone : ∀ {σ5 : St} {H5 : Hp}, Inv { X with A := X.A.mark (some (.ref a)), calm := false, xe := fun _ _ => False, pn := X.pn } pins σ5 H5 s5 → ∀ {Q : Unit → Shared → Prop}, (∀ s6, Inv X pins (σ5.set i none) H5 s6 → Q () s6) →
        wpAny (model X.prog X.w) X.A (do bindName X.env n .none; unbindBehindTheSuite X.env n hpos) Q X.xe s5 := fun {σ5 H5} J7 Q hq => by
      have J8 : Inv X pins σ5 H5 s5 := J7.un_re J3.ok.hd rfl (fun _ z => z)
      obtain ⟨m, hn, hl0⟩ := id J8.loc
      exact wpAny_nameGoes_keeps hl hn (by rw [J8.ok.kind]; rfl) fun h' v hn' sb => hq _ (J8.gone hN hi hl hl0 hn' sb)
    cases f with
    | next => obtain ⟨σ5, H5, J7, q⟩ := q; exact gone J7 fun s6 J8 => ⟨_, H5, J8, q⟩
    | brk => obtain ⟨σ5, H5, J7, q⟩ := q; exact gone J7 fun s6 J8 => ⟨_, H5, J8, q⟩
    | cont => obtain ⟨σ5, H5, J7, q⟩ := q; exact gone J7 fun s6 J8 => ⟨_, H5, J8, q⟩
    | ret u => obtain ⟨v, σ5, H5, J7, r, q⟩ := q; exact gone J7 fun s6 J8 => ⟨v, _, H5, J8, r, q⟩
  have back : ∀ σ H, Inv { X with xe := tryXe X pins D [.ExceptHandler (some (.Name x np)) (some n) (b₀ :: suite) hpos], pn := X.pn ++ pins } [] σ H s1 → Inv X pins σ H s1 :=
    fun σ H J => J.un_re J.ok.hd rfl (fun p z => by simpa using z)
  cases f with
  | next => exact wpAny_execs_nil (q.map back)
  | brk => exact q.map back
  | cont => exact q.map back
  | ret u => exact q.map back
end

/-! ### defs that are called within an except suite: nothing is known of what is handled -/
structure RoomH (k : Nat) (A : Around) : Prop where
  dp : A.depth + 3 * k + 5 < recursionLimit
  un : A.units + 16 * k + 200 < cLine
theorem Room.marked {k : Nat} {A : Around} (r : Room k A) (e : Option Value) : RoomH k (A.mark e) := ⟨r.dp, r.un⟩
structure FnOkH (P : Program) (w : World) (K : PySem.W.Frag) (mg : Str → Option Value) (base : Heap) (k : Nat) (f : Addr) (fd : FuncData) (ps : List Str) (sp : Sp) : Prop where
  len : ∀ vs H Q E, sp vs H Q E → vs.length = ps.length
  run : ∀ (A : Around) (outer : List Env) (s : Shared) (H : Hp) (args : Args) (us : List Value) (vs : List V) (Q : VK), RoomH k A → Env0 P w K mg base A outer s H → BindsTo s fd args (ps.zip us) → Vals vs us → sp vs H Q E0 →
    codeAny (model P w) A (.call (.ref f) args) (CR CX0 outer P w H s Q E0) s
section
variable {P : Program} {w : World} {K : PySem.W.Frag} {mg : Str → Option Value} {base : Heap}
theorem Fun.okH {x qual : Str} {st : Stmt} {f : Addr} {fd : FuncData} {N ps : List Str} {k : Nat} {sp : Sp} (F : Fun K x qual st f fd) (S : FnScope N ps (defScope st)) (len : ∀ vs H Q E, sp vs H Q E → vs.length = ps.length)
    (hbody : ∀ (cdv : Value) (A : Around) (outer : List Env) (s : Shared) (H : Hp) (vs : List V) (Q : VK), RoomH k (A.deeper (envOfC qual (defScope st) s.heap.objs.size f cdv)) → sp vs H Q E0 →
      ∃ t, PSs { cxOf CX0 P w K mg base N qual (defScope st) f cdv A outer s H E0 with calm := false, xe := fun _ _ => False } (defBody st) t ∧ t { nx := fun _ H' => Q .non H', rt := Q } (start N vs) H) : FnOkH P w K mg base (k + 1) f fd ps sp := by
  obtain ⟨oc, od, kV, doc, pm, an, cdv, ct, osl, rfl, lk, hcd⟩ := F.ex
  refine ⟨len, fun A outer s H args us vs Q hr e0 hb r hsp => ?_⟩
  have hl := len _ _ _ _ hsp
  have KX : K.In s.heap := e0.mod.kin.keeps fun b o e => (e0.bs b o e).1
  have lim : s.heap.NoLimit := e0.mod.nolimit.keeps fun b o e => (e0.bs b o e).1
  refine codeAny_call_function (by have := hr.dp; lia) (KX _ _ lk) rfl S.co S.gen rfl (PySem.W.codeRec_of KX hcd) (hb _ _ _ _ ?_)
  refine wpAny_newFunctionEnv_cells S.kind (fun ⟨y, v⟩ hy => ?_) fun env he s1 z => ?_
  · rcases S.par y (List.of_mem_zip hy).1 with q | q
    · exact .inl q
    · exact .inr ⟨q, PySem.W.cellsFrom_some _ _ _ (.inl q)⟩
  subst he
  refine ⟨lim.keeps z.toInCall.keep, codeAny_func ?_⟩
  obtain ⟨t, ht, hq⟩ := hbody cdv A outer s H vs Q ⟨by have := hr.dp; show A.depth + 1 + 3 * k + 5 < _; lia, by have := hr.un; show A.units + 3 + 16 * k + 200 < _; lia⟩ hsp
  have I : Inv (cxOf CX0 P w K mg base N qual (defScope st) f cdv { A with handled := none } outer s H E0) [] (start N vs) H s1 := inv_start S rfl ⟨e0.frames, e0.mod, e0.bs, e0.bsz, e0.funs, e0.frf, e0.hok, e0.bare⟩ hl r z
  have J : Inv { cxOf CX0 P w K mg base N qual (defScope st) f cdv A outer s H E0 with calm := false, xe := fun _ _ => False } [] (start N vs) H s1 := I.re (A2 := A.deeper (envOfC qual (defScope st) s.heap.objs.size f cdv)) (c2 := false) (fun z => nomatch z) rfl (fun _ z => z)
  refine wpAny_mono (ht [] s1 (start N vs) H _ J hq) (fun fl s' hs => ?_) fun _ _ z => z.elim
  cases fl with
  | ret u =>
    obtain ⟨v, σ', H', J, rv, q⟩ := hs
    exact ⟨v, H', J.os, J.bare, J.base, J.hok, rv, q⟩
  | next =>
    obtain ⟨σ', H', J, q⟩ := hs
    exact ⟨.non, H', J.os, J.bare, J.base, J.hok, rfl, q⟩
  | brk => obtain ⟨_, _, _, q⟩ := hs; exact q.elim
  | cont => obtain ⟨_, _, _, q⟩ := hs; exact q.elim
end
section
variable {X : Cx} {k : Nat} {f : Addr} {fd : FuncData} {ps : List Str} {sp : Sp} {x : Str} {p pos : Pos} {e : Expr} {es : List Expr} {t : TA}
theorem pe_callH (F : FnOkH X.prog X.w X.K X.mg X.base k f fd ps sp) (hr : RoomH k X.A) (hg : Gl X x) (hm : X.mg x = some (.ref f)) (hk : PySem.W.keepIn X.K (.ref f) = true) (hb : Binds X.K fd ps [])
    (ha : PA X (e :: es) t) (hdb : (x == ("__debug__" : Str)) = false := by decide) (he : starEach (e :: es) X.env = (false, eval e X.env) :: starEach es X.env := by rfl) (hpl : (backTo pos (starEach es X.env)).any (·.1) = false := by rfl) :
    PE X (.Call (.Name x p) (e :: es) [] pos) (tCall sp [] E0 t) := by
  intro pins s σ H Q I h
  refine wpAny_Call_Name_kw (ld_glob I hg hm ?_ hdb)
  refine PySem.W.callWith_K (h₀ := X.base) I.ok.mod.kin hk ?_ he hpl
  refine thn (ha pos pins s σ H _ I h) fun us s1 ⟨vs, H1, I1, r, q⟩ => ⟨I1.kIn, ?_⟩
  have q : sp (vs ++ []) H1 Q E0 := q
  rw [List.append_nil] at q
  have hl : us.length = ps.length := r.length.symm.trans (F.len _ _ _ _ q)
  have hb1 := hb s1 us I1.kIn (by rw [List.append_nil]; exact hl)
  rw [List.append_nil] at hb1
  refine wpAny_call (codeAny_mono (F.run X.A X.stack s1 H1 ⟨us, []⟩ us vs Q hr I1.env0 hb1 r q) ?_)
  intro r s' hq
  rcases r with e | (_ | _ | _ | _)
  all_goals first
    | exact I1.after hq
    | exact hq.elim
end
end L2

set_option Elab.async false
set_option linter.all false
set_option maxRecDepth 100000
namespace L2
open PySem PySem.Spec PyProof.Rows

/-! ### texts: the signs, slices, methods -/
section
variable {X : Cx} {tg : Expr}
/-! ### range(a, b, c), written step -/
end
end L2

set_option Elab.async false
set_option linter.all false
set_option maxRecDepth 100000
namespace L2
open PySem PySem.Spec PyProof.Rows

/-! ### [x in G for x in text], G a text of the module -/
section
variable {X : Cx} {iter : Expr} {ti : TE} {x G : Str} {px px1 px2 cpos pos : Pos} {scope : Scope} {g : Str}
end

/-! ### isinstance, of an exception too -/
structure ExcF (K : PySem.W.Frag) (D : Addr) : Prop where
  hd : PySem.W.hasDictIn K D = true
  ga : PySem.W.findIn K (.ref D) "__getattribute__" = some (some (.builtin "BaseException.__getattribute__"))
  gt : PySem.W.findIn K (.ref D) "__getattr__" = some none
  cl : PySem.W.findIn K (.ref D) "__class__" = some (some (.builtin "object.__class__"))
  sp : PySem.W.specialIn K (.builtin "object.__class__") "__get__" = some (some (.builtin "getset_descriptor.__get__"))
  tk : PySem.W.takesIn K (.builtin "object.__class__") = some true
  mo : PySem.W.mroIn K D (.type "object") = some true
  mb : PySem.W.mroIn K D (.type "BaseException") = some true
section
variable {K : PySem.W.Frag} {prog : Program} {w : World} {A : Around} {E : Value → Shared → Prop} {s : Shared} {a D : Addr} {o : Obj}
open PySem.W Builtin Builtin.ObjectAttr Builtin.Getset_descriptor
theorem exc_find {M : Model} {h : Heap} (X : K.In h) (f : ExcF K D) : Looks M h (find (.ref a) (.ref D) "__class__") (.bind (.builtin "getset_descriptor.__get__") (.builtin "object.__class__")) :=
  (looks_findIn X f.cl).andThen ((looks_specialIn X f.sp).andThen ((show Looks M h (dataDescriptor? (some (.builtin "object.__class__")) (some (.builtin "getset_descriptor.__get__"))) (some (.builtin "getset_descriptor.__get__", .builtin "object.__class__")) from (looks_takesIn X f.tk).andThen .now).andThen (Looks.tag .now)))
theorem exc_get {R : Result → Shared → Prop} {tp : Value} (X : K.In s.heap) (f : ExcF K D) (he : s.heap.get? a = some o) (hc : o.cls = .ref D) (hq : R (.ok (.ret (.ref D))) s) :
    codeAny (model prog w) A (.call (.builtin "getset_descriptor.__get__") ⟨[.builtin "object.__class__", .ref a, tp], []⟩) R s := by
  obtain ⟨h, g, d, t, os⟩ := s
  have L0 : Looks (model prog w) h (typeOf (.ref a)) (.ref D) := hc ▸ (Looks.ld he).andThen .now
  have L1 := looks_mroIn (M := model prog w) X f.mo
  refine codeAny_call_builtin KF.slot_gs.plain KF.entry_gs (KF.slot_gs.check _ _ _ _ _ _ _ _ KF.type_class (KF.args_gs _ _ _) ?_)
  unfold Builtin.«getset_descriptor.__get__» descrGet
  rw [dga_obj]
  refine wpAny_bind (wpAny_pure ?_)
  unfold descrGetter descrCheckInstance descrNameAndClass isInstance
  simp only [KF.owner_class]
  repeat lk
  refine ⟨Code.quiet_builtin _ (by decide +kernel), codeAny_builtin KF.entry_class ?_⟩
  unfold Builtin.«object.__class__» shownTypeOf
  repeat lk
  exact hq
theorem exc_class {Q : Option Value → Shared → Prop} (X : K.In s.heap) (f : ExcF K D) (he : s.heap.get? a = some o) (hc : o.cls = .ref D) (hq : Q (some (.ref D)) { s with toks := s.toks + 1 }) :
    wpAny (model prog w) A (getAttr? (.ref a) "__class__") Q E s := by
  obtain ⟨h, g, d, t, os⟩ := s
  have L0 : Looks (model prog w) h (typeOf (.ref a)) (.ref D) := hc ▸ (Looks.ld he).andThen .now
  have L1 := looks_findIn (M := model prog w) X f.ga
  have L2 := looks_findIn (M := model prog w) X f.gt
  have L3 := exc_find (M := model prog w) (a := a) X f
  have L4 : Looks (model prog w) h (isInstance (.ref a) (.type "BaseException")) true := L0.andThen (looks_mroIn X f.mb)
  unfold getAttr? getAttrBy? getAttrBy
  refine wpAny_bind (wpAny_mkText (wpAny_bind (wpAny_attempt (wpAny_holding (wpAny_bind (L0.at (wpAny_bind (L1.at ?_))))))))
  dsimp only
  have n0 : (Value.builtin "BaseException.__getattribute__" == Value.builtin "object.__getattribute__") = false := by decide +kernel
  rw [if_neg (by rw [n0, Bool.and_false]; exact Bool.false_ne_true)]
  unfold getAttrByItsOwn hookBefore
  rw [if_pos (by rfl)]
  refine wpAny_bind (L2.at ?_)
  refine wpAny_bind (wpAny_attempt (wpAny_holding ?_))
  unfold callGetattribute
  rw [if_neg (by decide)]
  unfold boundAndCalled
  refine wpAny_bind (wpAny_of_eq (PySem.F.excAttr_ValueError.ga.bind (.ref a)) ?_)
  dsimp only
  refine wpAny_call (codeAny_call_builtin PySem.F.excAttr_ValueError.ga.plain PySem.F.entry_bexc_ga ?_)
  have hk : builtinKind "BaseException.__getattribute__" = some .slot := by decide +kernel
  have hsp : splitId "BaseException.__getattribute__" = some ("BaseException", "__getattribute__") := by decide +kernel
  have har := PySem.F.args_bexc_ga (.ref a) (.str "__class__" t)
  simp only [checkBuiltinCall, hk, hsp]
  refine wpAny_bind (L4.at ?_)
  rw [if_neg (by decide)]
  refine wpAny_of_eq (a := ()) har ?_
  unfold Builtin.«object.__getattribute__»
  dsimp only at L3
  repeat ((fail_if_success (with_reducible show wpAny _ _ (call _ _) _ _ _)); lk)
  refine wpAny_call (exc_get (s := ⟨h, g, d, t + 1, os⟩) X f he hc ?_)
  dsimp only
  repeat lk
  exact hq
end
end L2

set_option Elab.async false
set_option linter.all false
set_option maxRecDepth 100000
namespace L2
open PySem PySem.Spec PyProof.Rows
/-- the type of a value, of a held exception too -/
inductive TyX (K : PySem.W.Frag) (H : Hp) : V → Value → Prop where
  | of {x : V} {t : Value} (h : TyOf K H x t) : TyX K H x t
  | exc {a D : Addr} (e : H a = some (isExc a D)) (f : ExcF K D) : TyX K H (.ref a) (.ref D)
theorem kitx_exc {K : PySem.W.Frag} {a D : Addr} (f : ExcF K D) : PySem.W.KitX K (.ref a) (.ref D) (fun h => ∃ o, h.get? a = some o ∧ o.cls = .ref D ∧ PySem.W.notCls o = true) where
  ty := fun M h X ⟨o, e, c, _⟩ => c ▸ (PySem.W.Looks.ld e).andThen .now
  it := fun M h X _ => by
    obtain ⟨cd, hc, _⟩ := PySem.W.any_some f.hd
    unfold PySem.W.clsIn at hc
    split at hc
    · rename_i c' d' cd' sl' ho
      intro A' Q' E' s' k q
      unfold isType loadHead
      exact wpAny_bind (wpAny_loadPart (k _ _ (X _ _ ho)) (wpAny_pure q))
    · cases hc
  ne := fun h tp dd its n sl X htp => by
    obtain ⟨cd, hc, _⟩ := PySem.W.any_some f.hd
    refine Bool.eq_false_iff.mpr fun q => ?_
    have e : D = tp := Value.ref.inj (beq_iff_eq.mp q)
    subst e
    unfold PySem.W.clsIn at hc
    split at hc
    · rename_i c' d' cd' sl' ho
      have z := (X _ _ ho).symm.trans htp
      cases z
    · cases hc
  ca := fun X ⟨o, e, c, _⟩ k => exc_class X f e c k
def clsV : V → Option Value
  | .ty n => some (.type n)
  | .ref C => some (.ref C)
  | _ => none
theorem call_isi {X : Cx} : CallR X (.builtin "isinstance") (fun xs H Q => ∃ x c cv t b, xs = [x, c] ∧ clsV c = some cv ∧ TyX X.K H x t ∧ PySem.W.kitOne X.K t cv = some b ∧ Q (.bl b) H) := by
  intro pins s σ H xs us Q I r h
  obtain ⟨x, c, cv, t, b, rfl, hc, ty, hk, q⟩ := h
  cases r with
  | @cons _ u _ _ rx rr =>
    cases rr with
    | @cons _ v _ _ rc rn =>
      cases rn
      have ev : v = cv := by
        cases c with
        | ty n => cases hc; exact rc
        | ref C => cases hc; exact rc
        | _ => cases hc
      subst ev
      cases ty with
      | of ty => exact isinst_ok I rx ty hk fun tk => ⟨.bl b, H, I.tok tk, rfl, q⟩
      | @exc a D e f =>
        cases (show u = Value.ref a from rx)
        obtain ⟨p, _, _⟩ := (show ObjOk X.prog X.w H s.heap a (isExc a D) from I.hok a _ e)
        exact PySem.W.kia_one (kitx_exc f) I.kIn p hk (fun z => nomatch z) fun tk => ⟨.bl b, H, I.tok tk, rfl, q⟩
def rIsi (K : PySem.W.Frag) : List V → Hp → VK → Prop := fun xs H Q => ∃ x c cv t b, xs = [x, c] ∧ clsV c = some cv ∧ TyX K H x t ∧ PySem.W.kitOne K t cv = some b ∧ Q (.bl b) H
/-- the same with the written part named: within an except suite, where the reading may not speak of the exception -/
theorem call_isiK {X : Cx} (K : PySem.W.Frag) (h : X.K = K) : CallR X (.builtin "isinstance") (rIsi K) := by
  subst h
  exact call_isi
theorem op_in_seqK {X : Cx} (K : PySem.W.Frag) (h : X.K = K) : OpR X (compareOp .In) (rIn K false) := by
  subst h
  exact op_in_seq
/-! ### an if whose ways meet in J -/
section
variable {X : Cx} {c : Expr} {a b : List Stmt} {tc : TT} {t u : TS} {pos : Pos}
end
end L2

set_option Elab.async false
set_option linter.all false
set_option maxRecDepth 100000
/-! Comprehensions over the hand layer: a block of its own, its names, the names that it takes along. -/
namespace L2
open PySem PySem.Spec PyProof.Rows

/-! ### the cells that a block takes along -/
def clStep (env : Env) (a : List (Str × Addr)) (x : Str × NameKind) : List (Str × Addr) := if (x.2 == NameKind.free) = true then (x.1, (env.cells.lookup x.1).getD 0) :: a else a
def clOf (env : Env) (l : List (Str × NameKind)) : List (Str × Addr) := l.foldl (clStep env) []
theorem forIn_fold {α β : Type} {l : List α} {f : α → β → Sem (ForInStep β)} {g : β → α → β} (h : ∀ x ∈ l, ∀ b, f x b = pure (.yield (g b x))) : ∀ b, forIn l b f = pure (l.foldl g b) := by
  induction l with
  | nil => intro b; rfl
  | cons x l ih =>
    intro b
    rw [List.forIn_cons, h x List.mem_cons_self, pure_bind]
    exact ih (fun y hy => h y (List.mem_cons_of_mem _ hy)) _
theorem closure_of {scope : Scope} {env : Env} (h : ∀ y ∈ scope.names, y.2 = .free → ∃ c, env.cells.lookup y.1 = some c) : closureFor scope env = pure (clOf env scope.names) := by
  simp only [closureFor]
  rw [forIn_fold (g := clStep env) (fun x hx c => by
    obtain ⟨n, k⟩ := x
    by_cases hk : k = .free
    · subst hk
      obtain ⟨a, ha⟩ := h _ hx rfl
      have e : cellOf env n = pure a := by unfold cellOf; rw [show env.cells.lookup n = some a from ha]
      simp only [clStep, beq_self_eq_true, if_true, e, show env.cells.lookup n = some a from ha, Option.getD_some]
      rfl
    · have hb : (k == NameKind.free) = false := by simpa using hk
      simp only [clStep, hb, Bool.false_eq_true, if_false])]
  rfl
theorem cl_lookup (env : Env) {y : Str} {c : Addr} : ∀ (l : List (Str × NameKind)) (a : List (Str × Addr)), (l.foldl (clStep env) a).lookup y = some c → a.lookup y = some c ∨ ((y, NameKind.free) ∈ l ∧ c = (env.cells.lookup y).getD 0)
  | [], a, h => .inl h
  | (n, k) :: r, a, h => by
    rw [List.foldl_cons] at h
    rcases cl_lookup env r _ h with z | ⟨z, e⟩
    · unfold clStep at z
      split at z
      · rename_i hk
        have hk' : k = .free := by simpa using hk
        rw [List.lookup_cons] at z
        split at z
        · rename_i hy
          have hy' : y = n := by simpa using hy
          subst hy' hk'
          exact .inr ⟨List.mem_cons_self, (Option.some.inj z).symm⟩
        · exact .inl z
      · exact .inl z
    · exact .inr ⟨List.mem_cons_of_mem _ z, e⟩
theorem cl_stays (env : Env) {y : Str} : ∀ (l : List (Str × NameKind)) (a : List (Str × Addr)), (∃ c, a.lookup y = some c) → ∃ c, (l.foldl (clStep env) a).lookup y = some c
  | [], _, h => h
  | (n, k) :: r, a, h => by
    rw [List.foldl_cons]
    refine cl_stays env r _ ?_
    unfold clStep
    split
    · rw [List.lookup_cons]
      split
      · exact ⟨_, rfl⟩
      · exact h
    · exact h
theorem cl_has (env : Env) {y : Str} : ∀ (l : List (Str × NameKind)) (a : List (Str × Addr)), (y, NameKind.free) ∈ l → ∃ c, (l.foldl (clStep env) a).lookup y = some c
  | [], _, h => by simp at h
  | (n, k) :: r, a, h => by
    rw [List.foldl_cons]
    rcases List.mem_cons.mp h with e | h
    · cases e
      refine cl_stays env r _ ⟨(env.cells.lookup y).getD 0, ?_⟩
      unfold clStep
      simp only [beq_self_eq_true, if_true, List.lookup_cons]
    · exact cl_has env r _ h
/-- a name of the block that is no own local -/
theorem relabel_of {env : Env} {y : Str} : ∀ {names : List (Str × NameKind)}, (∀ z ∈ names, z.2 ≠ .cell) →
    ((names.map fun (n, k) => if (k == NameKind.free && env.scope.kind == .function && env.kindOf n == some .cell) then (n, NameKind.cell) else (n, k)).lookup y = some .cell ∨
      (names.map fun (n, k) => if (k == NameKind.free && env.scope.kind == .function && env.kindOf n == some .cell) then (n, NameKind.cell) else (n, k)).lookup y = some .free) → (y, NameKind.free) ∈ names
  | [], _, h => by simp at h
  | (n, k) :: r, hc, h => by
    have ih := @relabel_of env y r (fun z hz => hc z (List.mem_cons_of_mem _ hz))
    have h' : List.lookup y ((if (k == NameKind.free && env.scope.kind == .function && env.kindOf n == some .cell) = true then (n, NameKind.cell) else (n, k)) :: (r.map fun (n, k) => if (k == NameKind.free && env.scope.kind == .function && env.kindOf n == some .cell) then (n, NameKind.cell) else (n, k))) = some .cell ∨
      List.lookup y ((if (k == NameKind.free && env.scope.kind == .function && env.kindOf n == some .cell) = true then (n, NameKind.cell) else (n, k)) :: (r.map fun (n, k) => if (k == NameKind.free && env.scope.kind == .function && env.kindOf n == some .cell) then (n, NameKind.cell) else (n, k))) = some .free := h
    clear h
    by_cases hb : (k == NameKind.free && env.scope.kind == .function && env.kindOf n == some .cell) = true
    · rw [if_pos hb] at h'
      have hk : k = .free := by
        simp only [Bool.and_eq_true, beq_iff_eq] at hb
        exact hb.1.1
      simp only [List.lookup_cons] at h'
      cases hy : y == n with
      | true =>
        have : y = n := by simpa using hy
        subst this hk
        exact List.mem_cons_self
      | false =>
        rw [hy] at h'
        exact List.mem_cons_of_mem _ (ih h')
    · rw [if_neg hb] at h'
      simp only [List.lookup_cons] at h'
      cases hy : y == n with
      | true =>
        rw [hy] at h'
        have : y = n := by simpa using hy
        subst this
        rcases h' with z | z
        · exact absurd (Option.some.inj z) (hc (y, k) List.mem_cons_self)
        · cases Option.some.inj z
          exact List.mem_cons_self
      | false =>
        rw [hy] at h'
        exact List.mem_cons_of_mem _ (ih h')
theorem relabel_free {env : Env} {y : Str} : ∀ {names : List (Str × NameKind)}, names.lookup y = some .free →
    ((names.map fun (n, k) => if (k == NameKind.free && env.scope.kind == .function && env.kindOf n == some .cell) then (n, NameKind.cell) else (n, k)).lookup y = some .cell ∨
      (names.map fun (n, k) => if (k == NameKind.free && env.scope.kind == .function && env.kindOf n == some .cell) then (n, NameKind.cell) else (n, k)).lookup y = some .free)
  | [], h => by simp at h
  | (n, k) :: r, h => by
    have ih := @relabel_free env y r
    show List.lookup y ((if (k == NameKind.free && env.scope.kind == .function && env.kindOf n == some .cell) = true then (n, NameKind.cell) else (n, k)) :: (r.map fun (n, k) => if (k == NameKind.free && env.scope.kind == .function && env.kindOf n == some .cell) then (n, NameKind.cell) else (n, k))) = some .cell ∨
      List.lookup y ((if (k == NameKind.free && env.scope.kind == .function && env.kindOf n == some .cell) = true then (n, NameKind.cell) else (n, k)) :: (r.map fun (n, k) => if (k == NameKind.free && env.scope.kind == .function && env.kindOf n == some .cell) then (n, NameKind.cell) else (n, k))) = some .free
    rw [List.lookup_cons] at h
    by_cases hb : (k == NameKind.free && env.scope.kind == .function && env.kindOf n == some .cell) = true
    · rw [if_pos hb]
      simp only [List.lookup_cons]
      cases hy : y == n with
      | true => exact .inl rfl
      | false => rw [hy] at h; exact ih h
    · rw [if_neg hb]
      simp only [List.lookup_cons]
      cases hy : y == n with
      | true => rw [hy] at h; exact .inr h
      | false => rw [hy] at h; exact ih h

/-! ### a block's loop, with the step ahead of the store -/
section
variable {prog : Program} {w : World} {A : Around} {R : Result → Shared → Prop} {s : Shared}
abbrev testsOf (ifs : List Expr) (env : Env) : Sem Bool := forIn ifs true fun c r => if r = true then do let ok ← isTrue c env (eval c env); pure (ForInStep.yield ok) else pure (ForInStep.yield r)
theorem compLoop_go {elt target iter : Expr} {ifs : List Expr} {scope : Scope} {pos : Pos} {it acc : Value} {env : Env} (I : Nat → Shared → Prop)
    (turn : ∀ n s, I n s → wpAny (model prog w) A (pyNext it) (fun r s₁ => match r with
      | none => R (.ok .next) s₁
      | some v => wpAny (model prog w) A (letOwnedTupleGo target it v) (fun _ s₀ => wpAny (model prog w) A (assign target env v) (fun _ s₂ =>
          wpAny (model prog w) A (testsOf ifs env) (fun ok s₃ =>
            if ok = true then wpAny (model prog w) A (eval elt env) (fun x s₄ =>
              wpAny (model prog w) A (call (.builtin "list.append") [acc, x]) (fun _ s₅ => ∃ m, m < n ∧ I m s₅) (fun _ _ => False) s₄) (fun _ _ => False) s₃
            else ∃ m, m < n ∧ I m s₃) (fun _ _ => False) s₂) (fun _ _ => False) s₀) (fun _ _ => False) s₁) (fun _ _ => False) s)
    (n : Nat) (h : I n s) : codeAny (model prog w) A (.compLoop (.ListComp elt [⟨target, iter, ifs, 0⟩] scope pos) 0 it acc env) R s := by
  refine codeAny_loop rfl I (fun n s hI => ?_) n h
  show wpAny _ A ((compTurn (.ListComp elt [⟨target, iter, ifs, 0⟩] scope pos) 0 it acc env).onRaise (fun x => do noteFrame x env; theTreesLotGoes x)) _ _ s
  refine wpAny_noted ?_
  rw [compTurn_list]
  refine wpAny_bind (wpAny_standAt (wpAny_bind (wpAny_mono (turn n s hI) (fun r s₁ h₁ => ?_) fun _ _ h' => h'.elim)))
  cases r with
  | none => exact wpAny_pure h₁
  | some v =>
    refine wpAny_bind (wpAny_mono h₁ (fun _ s₀ h₀ => ?_) fun _ _ h' => h'.elim)
    refine wpAny_bind (wpAny_mono h₀ (fun _ s₂ h₂ => wpAny_bind (wpAny_mono h₂ (fun ok s₃ h₃ => ?_) fun _ _ h' => h'.elim)) fun _ _ h' => h'.elim)
    cases ok with
    | false => exact wpAny_pure ⟨rfl, h₃⟩
    | true =>
      exact wpAny_bind (wpAny_bind (wpAny_mono h₃ (fun x s₄ h₄ => wpAny_bind (wpAny_mono h₄ (fun _ s₅ h₅ => wpAny_pure (wpAny_pure ⟨rfl, h₅⟩)) fun _ _ h' => h'.elim)) fun _ _ h' => h'.elim))
end

/-! ### the block's context -/
/-- the names that the block takes along stand behind its own: cs are their slots outside -/
def caps (cs : List Nat) (σ : St) : St := cs.map fun j => (σ[j]?).getD none
def cxC (X : Cx) (scope : Scope) (N : List Str) (s : Shared) (H : Hp) (ex : List Addr) : Cx :=
  { X with N := N, s₀ := s, H₀ := H, env := compEnvC scope (clOf X.env scope.names) s.heap.objs.size X.env, outer := X.stack, stack := X.stack, ex := ex, fn := fun _ => false, pn := [], xe := fun _ _ => False }
def PTs (X : Cx) (ifs : List Expr) (t : TT) : Prop :=
  ∀ (pins : List (Addr × Obj)) (s : Shared) (σ : St) (H : Hp) (Q : Bool → Hp → Prop), Inv X pins σ H s → t σ H Q → wpAny (model X.prog X.w) X.A (testsOf ifs X.env) (TP X pins σ Q) X.xe s
def tYes : TT := fun _ H Q => Q true H
theorem pts_nil {X : Cx} : PTs X [] tYes := fun _ _ _ H _ I h => wpAny_tests_nil ⟨H, I, h⟩
/-- what a block's scope keeps to -/
structure CScope (X : Cx) (scope : Scope) (N : List Str) (k : Nat) (cs : List Nat) : Prop where
  cell : ∀ y ∈ scope.names, y.2 ≠ .cell
  kind : scope.kind = .function
  names : ∀ y ∈ scope.names, y.2 = .local → scope.names.lookup y.1 = some .local
  free : ∀ y ∈ scope.names, y.2 = .free → X.env.scope.names.lookup y.1 = some .cell ∨ X.env.scope.names.lookup y.1 = some .free
  len : N.length = k + cs.length
  cap : ∀ j, j < cs.length → ∃ x, N[k + j]? = some x ∧ X.N[cs.getD j 0]? = some x ∧ scope.names.lookup x = some .free

/-- W: the invariant by the turn, a measure, what has been put into the list -/
def tBlock (k : Nat) (cs : List Nat) (g : TG) (tc : TT) (te : TE) (J : It) (σ : St) (H1 : Hp) (fin : List V → Hp → Prop) : Prop :=
  ∃ W : Nat → Nat → List V → Hp → Prop, (∃ m, W 0 m [] H1) ∧ ∀ i m acc H, W i m acc H →
    (J.stop i H ∧ fin acc H) ∨ (J.go i H ∧ ∃ Nx : List V → Hp → Prop, (∀ acc' H', Nx acc' H' → ∃ m', m' < m ∧ W (i + 1) m' acc' H') ∧ ∀ x H', J.yld i H x H' → g x (List.replicate k none ++ caps cs σ) H' fun σ2 H2 => (∃ ts : St, ts.length = k ∧ σ2 = ts ++ caps cs σ) ∧ acc.length < sizeLine ∧
      tc σ2 H2 fun b H3 => if b = true then te σ2 H3 fun v H4 => Nx (acc ++ [v]) H4 else Nx acc H3)
def tComp (k : Nat) (cs : List Nat) (wi : TI) (g : TG) (tc : TT) (te : TE) : TE := fun σ H Q => wi σ H fun J H1 => tBlock k cs g tc te J σ H1 fun acc H2 => ∀ p, H2 p = none → Q (.ref p) (upd H2 p (.lst acc))

section
variable {X : Cx} {tg iter elt : Expr} {ifs : List Expr} {scope : Scope} {pos : Pos} {wi : TI} {g : TG} {tc : TT} {te : TE} {N : List Str} {k : Nat} {cs : List Nat}
theorem Inv.block {pins : List (Addr × Obj)} {σ : St} {H : Hp} {s s' : Shared} {ex : List Addr} (hc : X.calm = true) (S : CScope X scope N k cs) (I : Inv X pins σ H s)
    (hex : ∀ b ∈ ex, FpOk X pins H b ∧ ∃ o, s.heap.get? b = some o) (hos : s'.os = s.os) (hg : AllBare s'.gens) (hk : ∀ b o, s.heap.get? b = some o → s'.heap.get? b = some o) (hn : ∃ m, s'.heap.Ns s.heap.objs.size m) :
    Inv (cxC X scope N s H ex) [] (List.replicate k none ++ caps cs σ) H s' := by
  have lk : ∀ {x c}, (clOf X.env scope.names).lookup x = some c → X.env.cells.lookup x = some c := fun {x c} h => by
    rcases cl_lookup X.env _ _ h with z | ⟨z, e⟩
    · simp at z
    · obtain ⟨a, ha⟩ := I.ok.has x (S.free _ z rfl)
      rw [e, ha]; rfl
  have nex : ∀ b, b ∈ ex → b ≠ s.heap.objs.size := fun b hb z => by
    obtain ⟨_, o, ho⟩ := hex b hb
    exact absurd (Heap.lt_size ho) (by rw [z]; exact Nat.lt_irrefl _)
  refine ⟨⟨I.ok.mod, S.kind, I.ok.glob, I.ok.blt, Nat.le_refl _, fun x y c h1 h2 => I.ok.inj x y c (lk h1) (lk h2), fun x hx => ?_, fun x c h _ => (nomatch h), I.ok.hd, I.ok.frames, .inl rfl, fun b hb => ⟨nex b hb, fun x c h => ?_⟩, I.bs, ?_, fun b o e hb => ?_, fun b hb hf => ?_, I.stack, I.stkFree⟩,
    hos, hg, Un.kept hk, ?_, fun x c h => ?_, I.hok.fresh (Nat.le_refl _), fun x c h => I.freeC x c (lk h), fun p hp => absurd (show p ∈ ([] : List (Addr × Obj)) from hp) (by simp), I.hok.kept hk, ?_⟩
  · exact cl_has X.env _ _ (relabel_of S.cell hx)
  · exact (hex b hb).1.2.2.2.2.1 x c (lk h)
  · exact Nat.le_trans I.ok.bsz I.sz
  · rcases (hex b hb).1.2.2.2.1 with z | z
    · exact I.ok.noex b o e z
    · exact absurd (Nat.lt_of_lt_of_le (Heap.lt_size e) (Nat.le_trans I.ok.bsz z)) (Nat.lt_irrefl _)
  · rcases List.mem_cons.mp (I.stkSub b hf) with z | z
    · exact (hex b hb).1.2.1 z
    · exact (hex b hb).1.2.2.1 z
  · obtain ⟨m, hm⟩ := hn
    obtain ⟨mo, hmo, hlo⟩ := I.loc
    refine ⟨m, hm, fun i x v h1 h2 h3 => ?_⟩
    have hi : k ≤ i := by
      by_cases z : i < k
      · rw [List.getElem?_append_left (by simpa using z), List.getElem?_replicate, if_pos z] at h2
        cases h2
      · lia
    obtain ⟨j, rfl⟩ : ∃ j, i = k + j := ⟨i - k, by lia⟩
    rw [List.getElem?_append_right (by simp), List.length_replicate, Nat.add_sub_cancel_left] at h2
    unfold caps at h2
    rw [List.getElem?_map] at h2
    have hj : j < cs.length := by
      by_cases z : j < cs.length
      · exact z
      · rw [List.getElem?_eq_none (by lia)] at h2
        cases h2
    obtain ⟨x', e1, e2, e3⟩ := S.cap j hj
    rw [show N[k + j]? = some x from h1] at e1
    cases e1
    rw [List.getElem?_eq_getElem hj] at h2
    have h2' : (σ[cs[j]]?).getD none = some v := Option.some.inj h2
    rw [List.getD_eq_getElem?_getD, List.getElem?_eq_getElem hj] at e2
    have h4 : σ[cs[j]]? = some (some v) := by
      cases q : σ[cs[j]]? with
      | none => rw [q] at h2'; cases h2'
      | some w => rw [q] at h2'; rw [show w = some v from h2']
    have kO := S.free (x, .free) (PySem.mem_of_lookup e3) rfl
    obtain ⟨u, ru, l⟩ := hlo _ x v e2 h4 (.inr kO)
    refine ⟨u, ru, ?_⟩
    rcases l with ⟨z, _⟩ | ⟨_, c, hc', z⟩
    · have z' : X.env.scope.names.lookup x = some .local := z
      rcases kO with q | q <;> · rw [z'] at q; cases q
    · obtain ⟨c', h5⟩ := cl_has X.env _ [] (PySem.mem_of_lookup e3)
      have h6 := lk h5
      rw [hc'] at h6
      cases h6
      obtain ⟨o, ho, hd⟩ := z
      exact .inr ⟨relabel_free e3, c, h5, o, hk _ _ ho, hd⟩
  · obtain ⟨v, o, ho, hd⟩ := I.cell x c (lk h)
    exact ⟨v, o, hk _ _ ho, hd⟩
  · show (List.replicate k none ++ caps cs σ).length = N.length
    rw [List.length_append, List.length_replicate, S.len]
    unfold caps
    rw [List.length_map]
end
end L2

set_option Elab.async false
set_option linter.all false
set_option maxRecDepth 100000
namespace L2
open PySem PySem.Spec PyProof.Rows
section
variable {X : Cx} {tg iter elt : Expr} {ifs : List Expr} {scope : Scope} {pos : Pos} {wi : TI} {g : TG} {tc : TT} {te : TE} {N : List Str} {k : Nat} {cs : List Nat} {fin : List V → Hp → Prop}
theorem comp_loop {pins : List (Addr × Obj)} {σ : St} {H2 : Hp} {sD s1 : Shared} {it D : Addr} {fp : List Addr} {tn : Nat → Heap → Prop} {J : It} {n0 : Nat} {RR : Result → Shared → Prop} (hc : X.calm = true) (S : CScope X scope N k cs)
    (hg : ∀ s H ex, PG (cxC X scope N s H ex) tg g) (ht : ∀ s H ex, PTs (cxC X scope N s H ex) ifs tc) (he : ∀ s H ex, PE (cxC X scope N s H ex) elt te)
    (ID : Inv X pins σ H2 sD) (hD : sD.heap.get? D = some { cls := .type "list", data := .seq ([] : List Value).toArray n0 }) (hD0 : X.s₀.heap.objs.size ≤ D) (fD : FpOk X pins H2 D) (nfp : D ∉ fp)
    (T : Turn X.prog X.w X.K tg J fp it tn) (st : tn 0 sD.heap) (f2 : ∀ b ∈ fp, FpOk X pins H2 b) (hb : tBlock k cs g tc te J σ H2 fin)
    (hos : s1.os = sD.os) (hgn : AllBare s1.gens) (hk : ∀ b o, sD.heap.get? b = some o → s1.heap.get? b = some o) (hn : ∃ m, s1.heap.Ns sD.heap.objs.size m)
    (hRR : ∀ (H' : Hp) (acc : List V) (s4 : Shared), fin acc H' → H' D = none → Inv X pins σ (upd H' D (.lst acc)) s4 → (∃ m, s4.heap.Ns sD.heap.objs.size m) → FpOk X pins (upd H' D (.lst acc)) sD.heap.objs.size → RR (.ok .next) s4) :
    codeAny (model X.prog X.w) X.A (.compLoop (.ListComp elt [⟨tg, iter, ifs, 0⟩] scope pos) 0 (.ref it) (.ref D) (compEnvC scope (clOf X.env scope.names) sD.heap.objs.size X.env)) RR s1 := by
  obtain ⟨W, ⟨m0, w0⟩, turn⟩ := hb
  have hobj : ∀ b, b ∈ D :: fp → ∃ o, sD.heap.get? b = some o := fun b hb => by
    rcases List.mem_cons.mp hb with rfl | z
    · exact ⟨_, hD⟩
    · obtain ⟨o, e, _⟩ := T.obj _ _ st b z
      exact ⟨o, e⟩
  have hexx : ∀ b ∈ D :: fp, FpOk X pins H2 b ∧ ∃ o, sD.heap.get? b = some o := fun b hb => ⟨by
    rcases List.mem_cons.mp hb with rfl | z
    · exact fD
    · exact f2 b z, hobj b hb⟩
  have neC : ∀ b, b ∈ D :: fp → b ≠ sD.heap.objs.size := fun b hb z => by
    obtain ⟨o, e⟩ := hobj b hb
    exact absurd (Heap.lt_size e) (by rw [z]; exact Nat.lt_irrefl _)
  have nfr : ∀ b, b ∈ D :: fp → b ∉ frs X.stack := fun b hb hf => by
    rcases List.mem_cons.mp (ID.stkSub b hf) with z | z
    · exact (hexx b hb).1.2.1 z
    · exact (hexx b hb).1.2.2.1 z
  have I0 := ID.block hc S hexx hos hgn hk hn
  have I0ok := I0.ok
  have cells : ∀ b, b ∈ D :: fp → ∀ x c, (clOf X.env scope.names).lookup x = some c → c ≠ b := fun b hb x c h => (I0ok.exf b hb).2 x c h
  have fpok : ∀ {H' : Hp} {pl : List (Addr × Obj)}, (∀ b ∈ fp, H' b = none) → (∀ p ∈ pl, p.1 = D) → ∀ b ∈ fp, FpOk (cxC X scope N sD H2 (D :: fp)) pl H' b := fun hn hp b hb =>
    ⟨hn b hb, neC b (.tail _ hb), nfr b (.tail _ hb), .inl (.tail _ hb), cells b (.tail _ hb), fun p hp' z => nfp (by
      have := hp p hp'
      rw [← this, z]; exact hb)⟩
  refine compLoop_go (fun n s' => ∃ (i : Nat) (acc : List V) (its : List Value) (nn : Nat) (H' : Hp), Inv (cxC X scope N sD H2 (D :: fp)) [] (List.replicate k none ++ caps cs σ) H' s' ∧ tn i s'.heap ∧ (∀ b ∈ fp, H' b = none) ∧ H' D = none ∧ acc.length ≤ sizeLine ∧ Vals acc its ∧
    s'.heap.get? D = some { cls := .type "list", data := .seq its.toArray nn } ∧ W i n acc H') ?_ m0
    ⟨0, [], [], n0, H2, I0, T.keep _ _ _ st (fun b _ o e => hk b o e), fun b hb => (f2 b hb).1, fD.1, Nat.zero_le _, .nil, hk _ _ hD, w0⟩
  rintro n s3 ⟨i, acc, its, nn, H3, I3, st3, fr3, nD3, hl3, v3, e3, w3⟩
  have I3p : Inv (cxC X scope N sD H2 (D :: fp)) [(D, { cls := .type "list", data := .seq its.toArray nn })] (List.replicate k none ++ caps cs σ) H3 s3 := I3.pins_of fun p hp => by
    rw [List.mem_singleton] at hp
    subst hp
    exact ⟨e3, nD3, neC D (.head _), nfr D (.head _), fun v z => by cases z⟩
  have one : ∀ p ∈ [((D, { cls := .type "list", data := .seq its.toArray nn }) : Addr × Obj)], p.1 = D := fun p hp => by
    rw [List.mem_singleton] at hp
    subst hp
    rfl
  rcases turn i n acc H3 w3 with ⟨stop, qf⟩ | ⟨go, Nx, hNx, step⟩
  · refine thn (T.done (cxC X scope N sD H2 (D :: fp)) rfl rfl rfl hc i _ s3 _ H3 _ I3p (fpok fr3 one) st3 stop) fun r s4 ⟨hr, I4⟩ => ?_
    subst hr
    have IX : Inv X pins σ H3 s4 := ID.call' (ch := D :: fp) I4.os I4.base I4.hok I4.bare fun b hb => ⟨(hexx b hb).1.2.2.2.1, (hexx b hb).1.2.1, (hexx b hb).1.2.2.2.2.1, (hexx b hb).1.2.2.2.2.2⟩
    have p4 := (I4.pin (D, { cls := .type "list", data := .seq its.toArray nn }) (by show _ ∈ [] ++ [_]; simp)).1
    have IY : Inv X pins σ (upd H3 D (.lst acc)) s4 := by
      refine IX.track nD3 (Heap.get?_none_of_le hD0) (Heap.get?_none_of_le (Nat.le_trans ID.ok.bsz hD0)) (Ne.symm fD.2.1) fD.2.2.2.2.1 fD.2.2.2.2.2 (fun b hb z => fD.2.2.1 (z ▸ hb)) ?_
      exact ⟨hl3, its, nn, v3, p4⟩
    refine hRR H3 acc s4 qf nD3 IY ?_ (ID.fpOk (Nat.le_refl _) ?_)
    · obtain ⟨m, hm, _⟩ := I4.loc
      exact ⟨m, hm⟩
    · rw [upd_ne (Ne.symm (neC D (.head _)))]
      exact I4.free
  · refine thn (T.item (cxC X scope N sD H2 (D :: fp)) rfl rfl rfl hc i _ s3 _ H3 (fun _ _ => False) I3p (fpok fr3 one) st3 go) fun r s4 ⟨u, hr, h4⟩ => ?_
    subst hr
    refine thn h4 fun _ s5 ⟨x, H5, I5, r5, y5, st5, fr5⟩ => ?_
    have I5' := I5.pinned (fpok fr5 one) (T.obj _ _ st5)
    refine thn (hg sD H2 (D :: fp) _ s5 _ H5 x u _ I5' r5 (step x H5 y5)) fun _ s6 ⟨σ6, H6, I6, ⟨ts, tl, eσ⟩, hz6, q6⟩ => ?_
    refine thn (ht sD H2 (D :: fp) _ s6 σ6 H6 _ I6 q6) fun b s7 ⟨H7, I7, q7⟩ => ?_
    have weak : ∀ {pl : List (Addr × Obj)} {H' : Hp} {s' : Shared}, Inv (cxC X scope N sD H2 (D :: fp)) pl σ6 H' s' → Inv (cxC X scope N sD H2 (D :: fp)) [] (List.replicate k none ++ caps cs σ) H' s' := fun {pl H' s'} J => by
      refine (J.weak (σ' := List.replicate k none ++ caps cs σ) ?_ fun j v e => ?_).pins_of fun p hp => absurd hp (by simp)
      · rw [eσ, List.length_append, List.length_append, List.length_replicate, tl]
      · by_cases z : j < k
        · rw [List.getElem?_append_left (by simpa using z), List.getElem?_replicate, if_pos z] at e
          cases e
        · rw [List.getElem?_append_right (by rw [List.length_replicate]; lia), List.length_replicate] at e
          rw [eσ, List.getElem?_append_right (by lia), tl]
          exact e
    -- the walked records stand since s5
    have later : ∀ {pl : List (Addr × Obj)} {σ' : St} {H' : Hp} {s' : Shared}, Inv (cxC X scope N sD H2 (D :: fp)) (pl ++ pinsAt fp s5.heap) σ' H' s' → tn (i + 1) s'.heap ∧ ∀ b ∈ fp, H' b = none := fun {pl σ' H' s'} J =>
      ⟨T.keep _ _ _ st5 fun b hb o e => (J.pin (b, o) (List.mem_append_right _ (List.mem_append_right _ (mem_pinsAt hb e)))).1, fun b hb => by
        obtain ⟨o, e, _⟩ := T.obj _ _ st5 b hb
        exact (J.pin (b, o) (List.mem_append_right _ (List.mem_append_right _ (mem_pinsAt hb e)))).2.1⟩
    cases b with
    | false =>
      have q7' : Nx acc H7 := by simpa using q7
      obtain ⟨m', hm, w7⟩ := hNx _ _ q7'
      rw [if_neg Bool.false_ne_true]
      have p7 := I7.pin (D, { cls := .type "list", data := .seq its.toArray nn }) (List.mem_append_right _ (List.mem_append_left _ (List.mem_singleton.mpr rfl)))
      exact ⟨m', hm, i + 1, acc, its, nn, H7, weak I7, (later I7).1, (later I7).2, p7.2.1, hl3, v3, p7.1, w7⟩
    | true =>
      rw [if_pos rfl] at q7
      rw [if_pos rfl]
      refine thn (he sD H2 (D :: fp) _ s7 σ6 H7 _ I7 q7) fun y s8 ⟨v, H8, I8, r8, q8⟩ => ?_
      obtain ⟨m', hm, w8⟩ := hNx _ _ q8
      have p8 := I8.pin (D, { cls := .type "list", data := .seq its.toArray nn }) (List.mem_append_right _ (List.mem_append_left _ (List.mem_singleton.mpr rfl)))
      have hlen := v3.length
      refine call_meets F.slot_list_append ⟨_, p8.1, rfl⟩ F.entry_list_append (F.args_list_append_2 _ _) (PySem.list_append D its.toArray nn y (by rw [List.size_toArray]; lia)) ⟨p8.1, ?_⟩
      have q := PySem.IsL.update p8.1 (·.push y)
      have eq : its.toArray.push y = (its ++ [y]).toArray := by simp
      dsimp only at q
      rw [eq] at q
      have I8' : Inv (cxC X scope N sD H2 (D :: fp)) ([] ++ pinsAt fp s5.heap) σ6 H8 s8 := I8.pins_of fun p hp => I8.pin p (List.mem_append_right _ (List.mem_append_right _ hp))
      have I9 := I8'.turned (t' := s8.toks) (it := D) (h' := s8.heap.update D (Obj.mapSeq (·.push y))) (fun b o hb e => (Heap.get?_update_other s8.heap (Obj.mapSeq (·.push y)) (Ne.symm hb)).trans e) p8.2.1 (neC D (.head _)) (.inl (.head _)) (cells D (.head _))
        (fun p hp z => nfp (by
          have := (of_pinsAt (fp := fp) (h := s5.heap) (p := p) (by simpa [cxC] using hp)).1
          rw [z] at this
          exact this))
      refine ⟨m', hm, i + 1, acc ++ [v], its ++ [y], _, H8, weak I9, (later I9).1, (later I9).2, p8.2.1, ?_, v3.append (.cons r8 .nil), q, w8⟩
      rw [List.length_append, List.length_singleton]
      lia
/-- from the iterator on: the new list, the block, its loop -/
theorem comp_block {pins : List (Addr × Obj)} {σ : St} {H2 : Hp} {s2 : Shared} {it : Addr} {fp : List Addr} {tn : Nat → Heap → Prop} {J : It} {RR : Value → Addr → Result → Shared → Prop} {E : Value → Shared → Prop} (hc : X.calm = true) (S : CScope X scope N k cs)
    (hg : ∀ s H ex, PG (cxC X scope N s H ex) tg g) (ht : ∀ s H ex, PTs (cxC X scope N s H ex) ifs tc) (he : ∀ s H ex, PE (cxC X scope N s H ex) elt te)
    (I2 : Inv X pins σ H2 s2) (T : Turn X.prog X.w X.K tg J fp it tn) (st : tn 0 s2.heap) (f2 : ∀ b ∈ fp, FpOk X pins H2 b) (hb : tBlock k cs g tc te J σ H2 fin)
    (hRR : ∀ (D C : Addr) (H' : Hp) (acc : List V) (s4 : Shared), fin acc H' → H' D = none → Inv X pins σ (upd H' D (.lst acc)) s4 → (∃ m, s4.heap.Ns C m) → FpOk X pins (upd H' D (.lst acc)) C → RR (.ref D) C (.ok .next) s4) :
    wpAny (model X.prog X.w) X.A (newList []) (fun acc s₃ => wpAny (model X.prog X.w) X.A (newFunctionEnv scope X.env.globals (clOf X.env scope.names) [] X.env.qual none .none (some X.env)) (fun cenv s₄ =>
      codeAny (model X.prog X.w) X.A (.compStart (.ListComp elt [⟨tg, iter, ifs, 0⟩] scope pos) 0 (.ref it) acc { cenv with scope := relabel scope X.env }) (RR acc cenv.locals) s₄) E s₃) E s2 := by
  refine wpAny_newObj_type (wpAny_newFunctionEnv S.cell (by intro y hy; simp at hy) (fun h₁ hns₁ hsb₁ => ?_) S.kind)
  dsimp only at hns₁ hsb₁ ⊢
  have keepD : ∀ b o, s2.heap.get? b = some o → (s2.heap.push { cls := .type "list", dict := none, data := .seq ([] : List Value).toArray }).get? b = some o := fun b o e => Heap.get?_push_of_some _ e
  have ID : Inv X pins σ H2 { s2 with heap := s2.heap.push { cls := .type "list", dict := none, data := .seq ([] : List Value).toArray } } := I2.kept (t' := s2.toks) keepD
  have hD : (s2.heap.push { cls := .type "list", dict := none, data := .seq ([] : List Value).toArray }).get? s2.heap.objs.size = some { cls := .type "list", data := .seq ([] : List Value).toArray } := Heap.get?_push_size _ rfl
  have nfp : s2.heap.objs.size ∉ fp := fun z => by
    obtain ⟨o, e, _⟩ := T.obj _ _ st _ z
    exact absurd (Heap.lt_size e) (Nat.lt_irrefl _)
  have stD : tn 0 (s2.heap.push { cls := .type "list", dict := none, data := .seq ([] : List Value).toArray }) := T.keep _ _ _ st fun b _ o e => keepD b o e
  have hk : ∀ b o, (s2.heap.push { cls := .type "list", dict := none, data := .seq ([] : List Value).toArray }).get? b = some o → h₁.get? b = some o := fun b o e => hsb₁.extBut b o (Nat.ne_of_lt (Heap.lt_size e)) (Heap.get?_push_of_some _ e)
  have loop : ∀ s₃ : Shared, s₃ = { s2 with heap := h₁, toks := s2.toks + ([] : List (Str × Value)).length } →
      codeAny (model X.prog X.w) X.A (.compLoop (.ListComp elt [⟨tg, iter, ifs, 0⟩] scope pos) 0 (.ref it) (.ref s2.heap.objs.size) (compEnvC scope (clOf X.env scope.names) (s2.heap.push { cls := .type "list", dict := none, data := .seq ([] : List Value).toArray }).objs.size X.env))
        (RR (.ref s2.heap.objs.size) (s2.heap.push { cls := .type "list", dict := none, data := .seq ([] : List Value).toArray }).objs.size) s₃ := by
    rintro s₃ rfl
    exact comp_loop (sD := { s2 with heap := s2.heap.push { cls := .type "list", dict := none, data := .seq ([] : List Value).toArray } }) hc S hg ht he ID hD I2.sz (I2.fpOk (Nat.le_refl _) I2.fresh) nfp T stD f2 hb rfl I2.bare hk ⟨_, hns₁⟩ fun H' acc s4 => hRR _ _ H' acc s4
  exact codeAny_compStart_list (loop _ rfl) (T.self _ 0 _ _ _ (T.keep _ _ _ stD fun b _ o e => hk b o e) (loop _ rfl))
theorem pe_comp (hc : X.calm = true) (S : CScope X scope N k cs) (hi : PI X tg iter wi) (hg : ∀ s H ex, PG (cxC X scope N s H ex) tg g) (ht : ∀ s H ex, PTs (cxC X scope N s H ex) ifs tc) (he : ∀ s H ex, PE (cxC X scope N s H ex) elt te)
    (hs : ∀ x, foldedSetIterable iter X.env x = pure x := by intro _; rfl) : PE X (.ListComp elt [⟨tg, iter, ifs, 0⟩] scope pos) (tComp k cs wi g tc te) := by
  intro pins s σ H Q I h
  rw [eval_ListComp]
  refine wpAny_comprehension_free (use := none) rfl hs (closure_of fun y hy hf => I.ok.has _ (S.free y hy hf)) S.kind S.names (thn (hi pins s σ H _ I h) fun v s1 h1 => thn h1 fun itv s2 h2 => ?_)
  obtain ⟨it, fp, tn, J, H2, rfl, I2, T, st2, f2, hb⟩ := h2
  refine comp_block (RR := fun acc C => compPost (model X.prog X.w) X.A X.xe none (EP X pins σ Q) acc C) hc S hg ht he I2 T st2 f2 hb fun D C H' acc s4 qf nD J4 hn fC => ?_
  obtain ⟨m, hm⟩ := hn
  refine ⟨m, hm, fun h' sb => ⟨.ref D, upd H' D (.lst acc), ?_, rfl, qf D nD⟩⟩
  exact J4.turned (t' := s4.toks) (it := C) (fun b o hb e => (sb.2 b hb).trans e) fC.1 fC.2.1 fC.2.2.2.1 fC.2.2.2.2.1 fC.2.2.2.2.2
/-- name = [..]: stored ahead of the block's end -/
def tSetComp (i k : Nat) (cs : List Nat) (wi : TI) (g : TG) (tc : TT) (te : TE) : TS := fun D σ H => wi σ H fun J H1 => tBlock k cs g tc te J σ H1 fun acc H2 => ∀ p, H2 p = none → D.nx (σ.set i (some (.ref p))) (upd H2 p (.lst acc))
theorem ps_setComp {i : Nat} {y : Str} {py spos : Pos} (hc : X.calm = true) (hN : X.N.Nodup) (hi' : X.N[i]? = some y) (hy : X.env.scope.names.lookup y = some .local) (S : CScope X scope N k cs) (hi : PI X tg iter wi)
    (hg : ∀ s H ex, PG (cxC X scope N s H ex) tg g) (ht : ∀ s H ex, PTs (cxC X scope N s H ex) ifs tc) (he : ∀ s H ex, PE (cxC X scope N s H ex) elt te)
    (hsw : swapsWith (.ListComp elt [⟨tg, iter, ifs, 0⟩] scope pos) (some (.Name y py)) spos.line X.env = pure true := by rfl) (hs : ∀ x, foldedSetIterable iter X.env x = pure x := by intro _; rfl) :
    PS X (.Assign [.Name y py] (.ListComp elt [⟨tg, iter, ifs, 0⟩] scope pos) spos) (tSetComp i k cs wi g tc te) := by
  intro pins s σ H D I h
  rw [exec_Assign_Name_used _ _ _ _ hsw]
  refine wpAny_bind (wpAny_standAt (wpAny_bind ?_))
  show wpAny _ X.A (do let _ ← comprehension (.ListComp elt [⟨tg, iter, ifs, 0⟩] scope pos) scope X.env _ (newList []) false (eval iter X.env) (some (assign (.Name y py) X.env))) _ _ s
  refine wpAny_bind (wpAny_mono (wpAny_comprehension_free (use := some (assign (.Name y py) X.env)) (Q := fun _ s' => SP X pins D .next s') rfl hs (closure_of fun y hy hf => I.ok.has _ (S.free y hy hf)) S.kind S.names
    (thn (hi pins s σ H _ I h) fun v s1 h1 => thn h1 fun itv s2 h2 => ?_)) (fun _ s' hq => wpAny_pure (wpAny_pure hq)) fun _ _ e => e)
  obtain ⟨it, fp, tn, J, H2, rfl, I2, T, st2, f2, hb⟩ := h2
  refine comp_block (RR := fun acc C => compPost (model X.prog X.w) X.A X.xe (some (assign (.Name y py) X.env)) (fun _ s' => SP X pins D .next s') acc C) hc S hg ht he I2 T st2 f2 hb fun L C H' acc s4 qf nD J4 hn fC => ?_
  obtain ⟨m, hm⟩ := hn
  show wpAny _ X.A (assign (.Name y py) X.env (.ref L)) _ _ _
  refine wpAny_assign_Name (store_ok2 J4 hN hi' (.inl hy) (v := .ref L) rfl (fun s5 J5 hsb => ?_) (.inr hy))
  obtain ⟨a, sb, ha⟩ := hsb
  have nCa : C ≠ a := by
    rcases ha with z | z
    · rw [z]; exact fC.2.1
    · exact fun q => fC.2.2.2.2.1 y a z q.symm
  refine ⟨m, hm.sameBut sb nCa, fun h' sb' => ⟨σ.set i (some (.ref L)), upd H' L (.lst acc), ?_, qf L nD⟩⟩
  exact J5.turned (t' := s5.toks) (it := C) (fun b o hb e => (sb'.2 b hb).trans e) fC.1 fC.2.1 fC.2.2.2.1 fC.2.2.2.2.1 fC.2.2.2.2.2
end

/-! ### the forms one uses -/
section
variable {K : PySem.W.Frag} {k : Nat} {cs : List Nat} {g : TG} {tc : TT} {te : TE} {σ : St} {H : Hp} {fin : List V → Hp → Prop}
/-- what a turn is to do -/
abbrev Bt (k : Nat) (cs : List Nat) (g : TG) (tc : TT) (te : TE) (σ : St) (x : V) (acc : List V) (H : Hp) (Nx : List V → Hp → Prop) : Prop :=
  g x (List.replicate k none ++ caps cs σ) H fun σ2 H2 => (∃ ts : St, ts.length = k ∧ σ2 = ts ++ caps cs σ) ∧ acc.length < sizeLine ∧ tc σ2 H2 fun b H3 => if b = true then te σ2 H3 fun v H4 => Nx (acc ++ [v]) H4 else Nx acc H3
theorem blk_tup {a : Addr} {xs : List V} (Pv : Nat → List V → Hp → Prop) (h0 : Pv 0 [] H) (hl : ∀ i acc H, i ≤ xs.length → Pv i acc H → SqT K H a xs)
    (hs : ∀ i x acc H, xs[i]? = some x → Pv i acc H → Bt k cs g tc te σ x acc H (Pv (i + 1))) (hd : ∀ acc H, Pv xs.length acc H → fin acc H) : tBlock k cs g tc te (Itt K a) σ H fin := by
  refine ⟨fun i m acc H => m = xs.length - i ∧ i ≤ xs.length ∧ Pv i acc H, ⟨xs.length, by simp, Nat.zero_le _, h0⟩, ?_⟩
  rintro i m acc H ⟨rfl, hi, p⟩
  have q := hl i acc H hi p
  by_cases hlt : i < xs.length
  · refine .inr ⟨⟨xs, xs[i], q, by simp [hlt]⟩, Pv (i + 1), fun acc' H' p' => ⟨xs.length - (i + 1), by lia, rfl, hlt, p'⟩, fun x H' y => ?_⟩
    obtain ⟨e, y⟩ := y
    subst e
    exact hs i x acc _ (y xs q) p
  · have e : i = xs.length := by lia
    subst e
    exact .inl ⟨⟨xs, q, Nat.le_refl _⟩, hd acc H p⟩
theorem blk_range {lo : Int} {n : Nat} (Pv : Nat → List V → Hp → Prop) (h0 : Pv 0 [] H) (hs : ∀ i acc H, i < n → Pv i acc H → Bt k cs g tc te σ (.int (lo + i)) acc H (Pv (i + 1))) (hd : ∀ acc H, Pv n acc H → fin acc H) : tBlock k cs g tc te (Itr lo n) σ H fin := by
  refine ⟨fun i m acc H => m = n - i ∧ i ≤ n ∧ Pv i acc H, ⟨n, by simp, Nat.zero_le _, h0⟩, ?_⟩
  rintro i m acc H ⟨rfl, hi, p⟩
  by_cases hlt : i < n
  · refine .inr ⟨hlt, Pv (i + 1), fun acc' H' p' => ⟨n - (i + 1), by lia, rfl, hlt, p'⟩, fun x H' y => ?_⟩
    obtain ⟨e, y⟩ := y
    subst e y
    exact hs i acc _ hlt p
  · have e : i = n := by lia
    subst e
    exact .inl ⟨Nat.le_refl _, hd acc H p⟩
end
end L2

set_option Elab.async false
set_option linter.all false
set_option maxRecDepth 100000
/-! enumerate and zip over lists and tuples. -/
namespace L2
open PySem PySem.Spec PyProof.Rows
section
variable {prog : Program} {w : World} {A : Around} {E : Value → Shared → Prop} {s : Shared}
/-! ### zip's own step -/
/-! ### several untracked records have turned -/
/-! ### zip, walked -/
end
end L2

set_option Elab.async false
set_option linter.all false
set_option maxRecDepth 100000
namespace L2
open PySem PySem.Spec PyProof.Rows
/-! ### enumerate, walked -/
section
variable {X : Cx} {es : List Expr} {n : Nat} {tpos p pos : Pos} {e1 e2 : Expr} {t : TA}
end
/-! ### the forms one uses -/
section
variable {K : PySem.W.Frag} {b c : Bool} {l m : Addr} {xs ys : List V} {σ : St} {H : Hp}
variable {k : Nat} {cs : List Nat} {g : TG} {tc : TT} {te : TE} {fin : List V → Hp → Prop}
end
end L2

set_option Elab.async false
set_option linter.all false
set_option maxRecDepth 100000
namespace L2
open PySem PySem.Spec PyProof.Rows
/-! ### an expression by either of two readings -/
theorem rm {a b : Nat} {A : Around} (h : Room b A) (hle : a ≤ b := by first | decide | lia) : Room a A := h.mono hle

/-! ### what is called, in short -/
structure Cal (P : Program) (w : World) (K : PySem.W.Frag) (mg : Str → Option Value) (base : Heap) (CX : CXT) (k : Nat) (x : Str) (ps : List Str) (sp : Sp) : Prop where
  ex : ∃ (f : Addr) (fd : FuncData), FnOk P w K mg base CX k f fd ps sp ∧ mg x = some (.ref f) ∧ PySem.W.keepIn K (.ref f) = true ∧ Binds K fd ps []
structure CalM (P : Program) (w : World) (K : PySem.W.Frag) (mg : Str → Option Value) (base : Heap) (CX : CXT) (k : Nat) (C : Addr) (m : Str) (ps : List Str) (sp : Sp) : Prop where
  ex : ∃ (f : Addr) (fd : FuncData), FnOk P w K mg base CX k f fd ps sp ∧ Meth K C m f ∧ Binds K fd ps []
  cl : Cls K C
structure CalC (P : Program) (w : World) (K : PySem.W.Frag) (mg : Str → Option Value) (base : Heap) (CX : CXT) (k : Nat) (x : Str) (C : Addr) (ps : List Str) (sp : Sp) : Prop where
  ex : ∃ (f : Addr) (fd : FuncData), FnOk P w K mg base CX k f fd ps sp ∧ Mk K C f ∧ mg x = some (.ref C) ∧ Binds K fd ps []
section
variable {X : Cx} {CX : CXT} {k : Nat} {C : Addr} {ps : List Str} {sp : Sp} {E : XK} {x m : Str} {p pos apos : Pos} {e o : Expr} {es : List Expr} {ta : TE} {t : TA}
theorem pe_cal (c : Cal X.prog X.w X.K X.mg X.base CX k x ps sp) (hr : Room k X.A) (hg : Gl X x) (hx : Passes CX X E) (ha : PA X (e :: es) t) (hdb : (x == ("__debug__" : Str)) = false := by decide)
    (he : starEach (e :: es) X.env = (false, eval e X.env) :: starEach es X.env := by rfl) (hpl : (backTo pos (starEach es X.env)).any (·.1) = false := by rfl) : PE X (.Call (.Name x p) (e :: es) [] pos) (tCall sp [] E t) := by
  obtain ⟨f, fd, F, hm, hk, hb⟩ := c.ex
  exact pe_call F hr hg hm hk hb .nil hx ha hdb he hpl
theorem pe_calm {pl : Sem Bool} (he : PE X o ta) (c : CalM X.prog X.w X.K X.mg X.base CX k C m ps sp) (hr : Room k X.A) (hx : Passes CX X E) (ha : PA X (e :: es) t)
    (hst : starEach (e :: es) X.env = (false, eval e X.env) :: starEach es X.env := by rfl) (hpl : (backTo pos (starEach es X.env)).any (·.1) = false := by rfl)
    (ht : eval (.Call (.Attribute o m apos) (e :: es) [] pos) X.env = (do
      let ov ← eval o X.env; standAt apos.atName
      let (f, first) ← holding [ov] (getMethod ov m pl); callWith pos f first (backTo pos (starEach (e :: es) X.env)) (backToKw pos (keywordEach [] X.env))) := by rfl) : PE X (.Call (.Attribute o m apos) (e :: es) [] pos) (tMeth C m sp [] E ta t) := by
  obtain ⟨f, fd, F, hm, hb⟩ := c.ex
  exact pe_meth he c.cl hm F hr hb .nil hx ha hst hpl ht
theorem pe_calC0 (c : CalC X.prog X.w X.K X.mg X.base CX k x C ps sp) (hr : Room (k + 1) X.A) (hg : Gl X x) (hx : Passes CX X E) (hdb : (x == ("__debug__" : Str)) = false := by decide) : PE X (.Call (.Name x p) [] [] pos) (tMake C sp [] E tNil) := by
  obtain ⟨f, fd, F, M, hm, hb⟩ := c.ex
  exact pe_make0 M F hr hg hm hb .nil hx hdb
theorem pe_gint {i : Int} (hg : Gl X x) (hm : ∃ tk, X.mg x = some (.int i tk)) (hd : (x == ("__debug__" : Str)) = false := by decide) : PE X (.Name x pos) (tC (.int i)) := by
  obtain ⟨tk, hm⟩ := hm
  exact pe_glob hg hm ⟨tk, rfl⟩ hd
theorem pe_gref {a : Addr} (hg : Gl X x) (hm : X.mg x = some (.ref a)) (hd : (x == ("__debug__" : Str)) = false := by decide) : PE X (.Name x pos) (tC (.ref a)) := pe_glob hg hm rfl hd
end
/-! ### a block's scope, by one look -/
def cOk (So : Scope) (No : List Str) (scope : Scope) (N : List Str) (k : Nat) (cs : List Nat) : Bool :=
  scope.names.all (fun y => y.2 != .cell) && (scope.kind == .function && (scope.names.all (fun y => y.2 != .local || scope.names.lookup y.1 == some .local) && (scope.names.all (fun y => y.2 != .free || (So.names.lookup y.1 == some .cell || So.names.lookup y.1 == some .free)) &&
    (N.length == k + cs.length && (List.range cs.length).all fun j => match N[k + j]?, No[cs.getD j 0]? with
      | some x, some y => x == y && scope.names.lookup x == some .free
      | _, _ => false))))
theorem CScope.of {X : Cx} {So : Scope} {No : List Str} {scope : Scope} {N : List Str} {k : Nat} {cs : List Nat} (hS : X.env.scope = So) (hN : X.N = No) (h : cOk So No scope N k cs = true) : CScope X scope N k cs := by
  subst hS hN
  unfold cOk at h
  simp only [Bool.and_eq_true, List.all_eq_true, bne_iff_ne, ne_eq, Bool.or_eq_true, beq_iff_eq, List.mem_range] at h
  obtain ⟨h1, h2, h3, h4, h5, h6⟩ := h
  refine ⟨h1, h2, fun y hy e => ?_, fun y hy e => ?_, h5, fun j hj => ?_⟩
  · rcases h3 y hy with z | z
    · exact absurd e z
    · exact z
  · rcases h4 y hy with z | z
    · exact absurd e z
    · exact z
  · have z := h6 j hj
    split at z
    · rename_i x y e1 e2
      simp only [Bool.and_eq_true, beq_iff_eq] at z
      obtain ⟨z1, z2⟩ := z
      subst z1
      exact ⟨x, e1, e2, z2⟩
    · cases z

/-- no test -/
theorem tyes {σ : St} {H : Hp} {A B : Hp → Prop} (h : A H) : tYes σ H fun b H3 => if b = true then A H3 else B H3 := by
  show if true = true then A H else B H
  exact iteT h
/-! ### and, or: what stands behind both ways -/
/-! ### a block's targets -/
section
variable {X : Cx} {scope : Scope} {N : List Str} {s : Shared} {H : Hp} {ex : List Addr} {x y : Str} {px py pos : Pos} {k : Nat}
theorem pgc_name {i : Nat} (hN : N.Nodup) (hi : N[i]? = some x) (hl : (relabel scope X.env).names.lookup x = some .local) : PG (cxC X scope N s H ex) (.Name x pos) (gName i) := pg_name (X := cxC X scope N s H ex) hN hi (.inl hl) (.inr hl)
end
/-! ### texts: split, partition, join; how often in a list -/
section
variable {X : Cx}
end
end L2

set_option Elab.async false
set_option linter.all false
set_option maxRecDepth 100000
namespace L2
open PySem
section
variable {X : Cx} {es es' : List Expr} {t t' : TA} {pos : Pos}
theorem pa_int {i : Int} {j} (hr : PA X es t) : PA X (.Constant (.int i) j pos :: es) (tCons (tC (.int i)) t) := pa_cons pe_int hr
theorem pa_str {z : Str} {j} (hr : PA X es t) : PA X (.Constant (.str z) j pos :: es) (tCons (tC (.str z)) t) := pa_cons pe_str hr
theorem pa_tup {x1} (h : PA X es' t') (hr : PA X es t) : PA X (.Tuple es' x1 pos :: es) (tCons (tTup t') t) := pa_cons (pe_tup h) hr
theorem pa_op {op : Operator} {r : R2} {a b : Expr} {ta tb : TE} (ho : OpR X (binaryOp op) r) (ha : PE X a ta) (hb : PE X b tb) (hr : PA X es t) : PA X (.BinOp a op b pos :: es) (tCons (tOp r ta tb) t) := pa_cons (pe_op ho ha hb) hr
theorem ixc_list {K : PySem.W.Frag} (h : X.K = K) : IxR X (rIxL K) := h ▸ ix_list
end
end L2

set_option Elab.async false
set_option linter.all false
/-! The texts of whole numbers, over the codes of their signs. -/
namespace Nu
open PySem PySem.NumText PyProof.Rows
end Nu

set_option Elab.async false
set_option linter.all false
set_option maxRecDepth 100000
namespace L2
open PySem PySem.Spec PyProof.Rows
section
variable {X : Cx}
/-- any(xs), xs a list of bools -/
theorem call_any (hc : X.calm = true) : CallR X (.builtin "any") (fun xs H Q => ∃ (p : Addr) (bs : List Bool), xs = [.ref p] ∧ SqL X.K H p (bs.map V.bl) ∧ Q (.bl (bs.any id)) H) := by
  intro pins s σ H xs us Q I r h
  obtain ⟨p, bs, rfl, hq, q⟩ := h
  cases r with
  | cons r1 r2 =>
    cases r2
    cases (show _ = Value.ref p from r1)
    obtain ⟨its, rv, pl, hz⟩ := I.list hq
    have hne : p ≠ s.heap.objs.size := Nat.ne_of_lt (by obtain ⟨o, n, e, _⟩ := pl; exact Heap.lt_size e)
    refine call_any_walk (wpAny_pyIter_list pl.isList ?_)
    have vals : ∀ (i : Nat) v, its[i]? = some v → ∃ b, bs[i]? = some b ∧ v = .bool b := fun i v e => by
      cases eb : bs[i]? with
      | none =>
        have : its[i]? = none := rv.none_of (by rw [List.getElem?_map, eb]; rfl)
        rw [e] at this
        cases this
      | some b =>
        obtain ⟨u, hu, ru⟩ := rv.get (i := i) (x := V.bl b) (by rw [List.getElem?_map, eb]; rfl)
        rw [e] at hu
        cases hu
        exact ⟨b, rfl, ru⟩
    refine ⟨s.heap.objs.size, _, _, _, _, _, fun i => bs.getD i false, rfl, Walks.list (A := X.A.in1) (I.ok.hd hc) s.heap.objs.size p hne its.toArray, ⟨⟨_, Heap.get?_push_size _ rfl, rfl, rfl⟩, ?_⟩, ?_, ?_⟩
    · exact pl.isList.at fun o e => Heap.get?_push_of_some _ e
    · intro i v s2 Q2 E2 hP hQ
      obtain ⟨b, eb, rfl⟩ := vals i v (by simpa using hP)
      have e2 : bs.getD i false = b := by rw [List.getD_eq_getElem?_getD, eb]; rfl
      have hQ : Q2 (bs.getD i false) s2 := hQ
      rw [e2] at hQ
      exact wpAny_truthy_bool hQ
    · intro h' tk kk
      have I2 : Inv X pins σ H { s with heap := h', toks := tk } := I.kept fun b o e => kk b o (by intro z; exact Nat.ne_of_lt (Heap.lt_size e) (by simpa using z)) (Heap.get?_push_of_some _ e)
      have len : its.toArray.size = bs.length := by rw [List.size_toArray, ← rv.length, List.length_map]
      have e3 : (List.range its.toArray.size).any (fun i => bs.getD i false) = bs.any id := by
        rw [len, Bool.eq_iff_iff, List.any_eq_true, List.any_eq_true]
        constructor
        · rintro ⟨i, hi, e⟩
          have hi' := List.mem_range.mp hi
          rw [List.getD_eq_getElem?_getD, List.getElem?_eq_getElem hi'] at e
          exact ⟨_, List.getElem_mem hi', e⟩
        · rintro ⟨b, hb, e⟩
          obtain ⟨i, hi, e2⟩ := List.mem_iff_getElem.mp hb
          refine ⟨i, List.mem_range.mpr hi, ?_⟩
          rw [List.getD_eq_getElem?_getD, List.getElem?_eq_getElem hi, e2]
          exact e
      rw [e3]
      exact ⟨.bl _, H, I2, rfl, q⟩

/-- an attribute of an own object, within a block too -/
theorem pe_fldK {K : PySem.W.Frag} {e : Expr} {f : Str} {ta : TE} {pos : Pos} (hK : X.K = K) (he : PE X e ta) (hb : attributeBase e f X.env (eval e X.env) = eval e X.env) : PE X (.Attribute e f pos) (tFld K ta f) := hK ▸ pe_fld he hb
end
end L2

set_option Elab.async false
set_option linter.all false
set_option maxRecDepth 100000
namespace L2
open PySem PySem.Spec PyProof.Rows
section
variable {X : Cx}
theorem int_vals {ns : List Int} {its : List Value} (rv : Vals (ns.map V.int) its) : ∀ (i : Nat) v, its.toArray[i]? = some v → ∃ t, v = .int (ns.getD i 0) t := fun i v e => by
  have e : its[i]? = some v := by simpa using e
  cases eb : ns[i]? with
  | none =>
    have : its[i]? = none := rv.none_of (by rw [List.getElem?_map, eb]; rfl)
    rw [e] at this
    cases this
  | some b =>
    obtain ⟨u, hu, ru⟩ := rv.get (i := i) (x := V.int b) (by rw [List.getElem?_map, eb]; rfl)
    rw [e] at hu
    cases hu
    rw [List.getD_eq_getElem?_getD, eb]
    obtain ⟨t, rfl⟩ := ru
    exact ⟨t, rfl⟩
end
end L2

set_option Elab.async false
set_option linter.all false
set_option maxRecDepth 100000
namespace L2
open PySem PySem.Spec PyProof.Rows
theorem all_same (ns ms : List Int) : ((List.range (min ns.length ms.length)).all (fun j => ns.getD j 0 == ms.getD j 0) && ns.length == ms.length) = decide (ns = ms) := by
  rw [Bool.eq_iff_iff, Bool.and_eq_true, List.all_eq_true, beq_iff_eq, decide_eq_true_iff]
  constructor
  · rintro ⟨h1, h2⟩
    refine List.ext_getElem h2 fun i h3 h4 => ?_
    have := h1 i (List.mem_range.mpr (by lia))
    rw [beq_iff_eq, List.getD_eq_getElem?_getD, List.getD_eq_getElem?_getD, List.getElem?_eq_getElem h3, List.getElem?_eq_getElem h4] at this
    exact this
  · rintro rfl
    exact ⟨fun x _ => beq_iff_eq.mpr rfl, rfl⟩
section
variable {X : Cx}
theorem tup_items {H : Hp} {ns : List Int} {its : List Value} (rv : Vals (ns.map V.int) its) {A : Around} {s : Shared} {ms : List Int} {jts : List Value} (rw' : Vals (ms.map V.int) jts) (j : Nat) (h1 : j < its.toArray.size) (h2 : j < jts.toArray.size) : PySem.SeqAt.EqAt A s its.toArray[j] jts.toArray[j] (ns.getD j 0 == ms.getD j 0) := by
  obtain ⟨t, e⟩ := int_vals rv j _ (Array.getElem?_eq_getElem h1)
  obtain ⟨u, e2⟩ := int_vals rw' j _ (Array.getElem?_eq_getElem h2)
  rw [e, e2]
  exact PySem.SeqAt.EqAt.int_int _ t _ u
theorem op_eq_tup (hu : X.A.units + 64 < cLine) : OpR X (compareOp .Eq) (fun x y H Q => ∃ (a b : Addr) (ns ms : List Int), x = .ref a ∧ y = .ref b ∧ SqT X.K H a (ns.map V.int) ∧ SqT X.K H b (ms.map V.int) ∧ Q (.bl (decide (ns = ms))) H) := by
  intro pins s σ H x y v u Q I rx ry h
  obtain ⟨a, b, ns, ms, rfl, rfl, h1, h2, q⟩ := h
  cases rx
  cases ry
  obtain ⟨xs, r1, p1, _⟩ := I.tuple h1
  obtain ⟨ys, r2, p2, _⟩ := I.tuple h2
  refine PySem.SeqAt.eq_tupleAt p1 p2 (by lia) (fun j k1 k2 => tup_items (H := H) r1 r2 j k1 k2) ?_
  rw [List.size_toArray, List.size_toArray, ← r1.length, ← r2.length, List.length_map, List.length_map, all_same]
  exact ⟨.bl _, H, I, rfl, q⟩
end
/-! ### d.setdefault(k, v) -/
section
variable {prog : Program} {w : World} {κ : Type} [DecidableEq κ] {knd : HeapKind prog w κ} {A : Around} {E : Value → Shared → Prop} {s : Shared}
end
section
variable {X : Cx} {pins : List (Addr × Obj)} {σ : St} {H : Hp} {s : Shared} {a : Addr} {y v : V} {u r : Value} {o : Option V} {A : Around} {E : Value → Shared → Prop}
end
section
variable {X : Cx} {o e f : Expr} {apos cpos : Pos} {td ty tx : TE}
end
end L2

set_option Elab.async false
set_option linter.all false
set_option maxRecDepth 100000
namespace L2
open PySem PySem.Spec PyProof.Rows
/-! ### a walk over a dict whatever its keys: the dict stays as it is meanwhile -/
section
variable {prog : Program} {w : World} {A : Around} {E : Value → Shared → Prop} {s : Shared} {d it : Addr} {o : Obj} {es : Array DictEntry} {ep i : Nat}
end
end L2

set_option Elab.async false
set_option linter.all false
set_option maxRecDepth 100000
/-! A dict of tuples that was gone through before. -/
namespace L2
open PySem PySem.W PySem.Spec PyProof.Rows
end L2

set_option Elab.async false
set_option linter.all false
set_option maxRecDepth 100000
/-! Lists of truths counted and searched; a def that may refuse or not. -/
namespace L2
open PySem PySem.Spec PyProof.Rows
theorem vals_bl : ∀ {bs : List Bool} {its : List Value}, Vals (bs.map V.bl) its → its = bs.map Value.bool
  | [], _, .nil => rfl
  | b :: bs, _, .cons r t => by
    cases (show _ = Value.bool b from r)
    rw [vals_bl t]
    rfl
structure CalH (P : Program) (w : World) (K : PySem.W.Frag) (mg : Str → Option Value) (base : Heap) (k : Nat) (x : Str) (ps : List Str) (sp : Sp) : Prop where
  ex : ∃ (f : Addr) (fd : FuncData), FnOkH P w K mg base k f fd ps sp ∧ mg x = some (.ref f) ∧ PySem.W.keepIn K (.ref f) = true ∧ Binds K fd ps []
section
variable {X : Cx} {CX : CXT} {k : Nat} {ps : List Str} {sp : Sp} {E : XK} {x : Str} {p pos : Pos} {e : Expr} {es : List Expr} {t : TA} {S : St → Prop}
theorem pe_calH (c : CalH X.prog X.w X.K X.mg X.base k x ps sp) (hr : RoomH k X.A) (hg : Gl X x) (ha : PA X (e :: es) t) (hdb : (x == ("__debug__" : Str)) = false := by decide)
    (he : starEach (e :: es) X.env = (false, eval e X.env) :: starEach es X.env := by rfl) (hpl : (backTo pos (starEach es X.env)).any (·.1) = false := by rfl) : PE X (.Call (.Name x p) (e :: es) [] pos) (tCall sp [] E0 t) := by
  obtain ⟨f, fd, h1, h2, h3, h4⟩ := c.ex
  exact pe_callH h1 hr hg h2 h3 h4 ha hdb he hpl
end
section
variable {X : Cx}
end
end L2

set_option Elab.async false
set_option linter.all false
set_option maxRecDepth 100000
namespace L2
open PySem PySem.Spec PyProof.Rows
/-! try with two except clauses -/
section
variable {X : Cx} {C C2 : Addr} {x n x2 : Str} {np hpos pos np2 hpos2 : Pos} {i : Nat} {b₀ b2 : Stmt} {suite body suite2 : List Stmt} {S : St → Prop} {tb : XK → TS} {th th2 : TS}
end
end L2

set_option Elab.async false
set_option linter.all false
set_option maxRecDepth 100000
/-! Lambdas over the hand layer: made in a def, run by a def that they are handed to. -/
namespace L2
open PySem PySem.Spec PyProof.Rows

/-! ### what is known of a lambda's object, of its code, of the table of the def's code -/
def isLam (p : Addr) (fd : FuncData) : HO := .ext fun h => h.get? p = some { cls := .type "function", data := .func fd }
def isCo (c : Addr) (q : Str) : HO := .ext fun h => ∃ o vs t, h.get? c = some o ∧ o.data = .fields vs ∧ vs[1]? = some (.str q t)
theorem isLam_ok {P : Program} {w : World} {H : Hp} {h : Heap} {p : Addr} {fd : FuncData} (e : h.get? p = some { cls := .type "function", data := .func fd }) : ObjOk P w H h p (isLam p fd) := ⟨e, ⟨_, e⟩, fun h1 h2 e1 k => k _ e1⟩
theorem isCo_ok {P : Program} {w : World} {H : Hp} {h : Heap} {c : Addr} {q : Str} (e : h.CodeRec (.ref c) q) : ObjOk P w H h c (isCo c q) := by
  obtain ⟨c', o, vs, t, z, e1, e2, e3⟩ := e
  cases z
  exact ⟨⟨o, vs, t, e1, e2, e3⟩, ⟨o, e1⟩, fun h1 h2 ⟨o', vs', t', f1, f2, f3⟩ k => ⟨o', vs', t', k _ f1, f2, f3⟩⟩
def CoIn (H : Hp) (q : Str) : List Value → Prop
  | [] => True
  | .int _ _ :: .int _ _ :: v :: r => (∃ c, v = .ref c ∧ H c = some (isCo c q)) ∧ CoIn H q r
  | _ => False
theorem CoIn.triples {H : Hp} {q : Str} (l : List Value) (h : CoIn H q l) : TriplesOk l := by
  fun_induction TriplesOk l with
  | case1 => trivial
  | case2 a b c d e r ih => exact ih h.2
  | case3 l h1 h2 =>
    unfold CoIn at h
    split at h
    · exact h1 rfl
    · exact h2 _ _ _ _ _ _ rfl
    · exact h
theorem CoIn.among {H : Hp} {q : Str} {pos : Pos} {cv : Value} (l : List Value) (h : CoIn H q l) (e : codeAmong pos l = some cv) : ∃ c, cv = .ref c ∧ H c = some (isCo c q) := by
  fun_induction TriplesOk l with
  | case1 => cases e
  | case2 a b c d v r ih =>
    unfold codeAmong at e
    split at e
    · cases e; exact h.1
    · exact ih h.2 e
  | case3 l h1 h2 =>
    unfold CoIn at h
    split at h
    · exact (h1 rfl).elim
    · exact (h2 _ _ _ _ _ _ rfl).elim
    · exact h.elim
theorem CoIn.snoc {H H' : Hp} {q : Str} {a b : Int} {t u : Tok} {c : Addr} (k : ∀ c, H c = some (isCo c q) → H' c = some (isCo c q)) (hc : H' c = some (isCo c q)) (l : List Value) (h : CoIn H q l) : CoIn H' q (l ++ [.int a t, .int b u, .ref c]) := by
  fun_induction TriplesOk l with
  | case1 => exact ⟨⟨c, rfl, hc⟩, trivial⟩
  | case2 a b c d v r ih =>
    obtain ⟨⟨c', e1, e2⟩, h2⟩ := h
    exact ⟨⟨c', e1, k _ e2⟩, ih h2⟩
  | case3 l h1 h2 =>
    unfold CoIn at h
    split at h
    · exact (h1 rfl).elim
    · exact (h2 _ _ _ _ _ _ rfl).elim
    · exact h.elim
theorem CoIn.mono {H H' : Hp} {q : Str} (k : ∀ c, H c = some (isCo c q) → H' c = some (isCo c q)) (l : List Value) (h : CoIn H q l) : CoIn H' q l := by
  fun_induction TriplesOk l with
  | case1 => trivial
  | case2 a b c d v r ih =>
    obtain ⟨⟨c', e1, e2⟩, h2⟩ := h
    exact ⟨⟨c', e1, k _ e2⟩, ih h2⟩
  | case3 l h1 h2 =>
    unfold CoIn at h
    split at h
    · exact (h1 rfl).elim
    · exact (h2 _ _ _ _ _ _ rfl).elim
    · exact h.elim
/-- the table at Pt, of a def whose lambdas are called q -/
def Tab (H : Hp) (Pt : Addr) (q : Str) : Prop := ∃ ps, H Pt = some (.tbl ps) ∧ CoIn H q ps.toList
theorem Tab.same {H H' : Hp} {Pt : Addr} {q : Str} (t : Tab H Pt q) (k : ∀ b o, H b = some o → H' b = some o) : Tab H' Pt q :=
  let ⟨ps, h, c⟩ := t; ⟨ps, k _ _ h, c.mono (fun _ e => k _ _ e) _⟩
/-- the module's builtins, as a function that is made looks them up -/
def Blt (mg : Str → Option Value) (base : Heap) : Prop := ∃ bm o, mg "__builtins__" = some (.ref bm) ∧ bm ≠ builtinsNs ∧ base.get? bm = some o ∧ o.cls = .type "module" ∧ o.dict = some builtinsNs ∧ o.data = .plain

/-! ### a lambda is made -/
structure LamH (Pt : Addr) (q : Str) (fdf : Value → Value → FuncData) (p : Addr) (H H' : Hp) : Prop where
  tab : Tab H' Pt q
  st : ∀ b o, b ≠ Pt → H b = some o → H' b = some o
  new : H p = none
  lam : ∃ c ct, H' p = some (isLam p (fdf (.ref c) ct)) ∧ H' c = some (isCo c q)
def tLam (Pt : Addr) (q : Str) (fdf : Value → Value → FuncData) : TE := fun _ H Q => Tab H Pt q ∧ ∀ p H', LamH Pt q fdf p H H' → Q (.ref p) H'
theorem Inv.grown {X : Cx} {pins : List (Addr × Obj)} {σ : St} {H : Hp} {s : Shared} {h' : Heap} {c p Pt : Addr} {ps more : Array Value} {tk : Nat} {oc op : HO} (I : Inv X pins σ H s) (hP : H Pt = some (.tbl ps))
    (hx : ∀ b o, b ≠ Pt → s.heap.get? b = some o → h'.get? b = some o) (hge : s.heap.objs.size ≤ c) (hcp : c < p) (htb : h'.get? Pt = some { cls := .none, data := .fields (ps ++ more) })
    (o1 : ∀ H', ObjOk X.prog X.w H' h' c oc) (o2 : ∀ H', ObjOk X.prog X.w H' h' p op) : Inv X pins σ (upd (upd (upd H Pt (.tbl (ps ++ more))) c oc) p op) { s with heap := h', toks := tk } := by
  have nC : H c = none := I.hok.fresh hge
  have nP : H p = none := I.hok.fresh (by lia)
  have hn : ∀ {b : Addr} {o : HO}, H b = some o → b ≠ c ∧ b ≠ p := fun e => ⟨ne_of_none e nC, ne_of_none e nP⟩
  have tr : ∀ {b : Addr}, H b = none → b ≠ Pt := fun e z => by rw [z, hP] at e; cases e
  have ot : ∀ {b : Addr} {o : HO}, H b = some o → b ≠ Pt → upd (upd (upd H Pt (.tbl (ps ++ more))) c oc) p op b = some o := fun e z => by rw [upd_ne (hn e).2, upd_ne (hn e).1, upd_ne z, e]
  have un : Un X.fs [] H (upd (upd (upd H Pt (.tbl (ps ++ more))) c oc) p op) s.heap h' := by
    refine ⟨fun b o e n _ _ => hx b o (tr n) e, fun b o e n _ _ => ⟨o.slots, hx b o (tr n) e⟩, fun b o e n _ => ?_, fun b o e _ => ?_, fun b xs e => ot e (fun z => by rw [z, hP] at e; cases e), fun b o u e => ot e (fun z => by rw [z, hP] at e; cases e), fun b qs e => ?_⟩
    · have := Heap.lt_size e
      rw [upd_ne (by lia), upd_ne (by lia), upd_ne (tr n), n]
    · by_cases z : b = Pt
      · exact ⟨_, z ▸ htb⟩
      · exact ⟨o, hx b o z e⟩
    · by_cases z : b = Pt
      · subst z
        rw [hP] at e
        cases e
        exact ⟨more, by rw [upd_ne (hn hP).2, upd_ne (hn hP).1, upd_same]⟩
      · exact ⟨#[], by rw [ot e z]; simp⟩
  refine I.un (t' := tk) un fun b u e => ?_
  by_cases z : b = p
  · subst z
    rw [upd_same] at e
    cases e
    exact o2 _
  rw [upd_ne z] at e
  by_cases z1 : b = c
  · subst z1
    rw [upd_same] at e
    cases e
    exact o1 _
  rw [upd_ne z1] at e
  by_cases z2 : b = Pt
  · subst z2
    rw [upd_same] at e
    cases e
    exact htb
  rw [upd_ne z2] at e
  refine (I.hok b u e).stay (fun d v hd q => hx d v ?_ q) (fun d q => ot q (fun z => by rw [z, hP] at q; cases q)) fun d xs q => ot q (fun z => by rw [z, hP] at q; cases q)
  rcases hd with rfl | hd
  · exact z2
  · exact fun z => by rw [z, hP] at hd; cases hd
section
variable {X : Cx} {params : Arguments} {body : Expr} {scope : Scope} {pos : Pos} {c Pt : Addr} {N : List Str} {cs : List Nat}
abbrev lamQ (X : Cx) : Str := X.env.qual ++ "<lambda>"
abbrev lamF (X : Cx) (params : Arguments) (body : Expr) (scope : Scope) (cd ct : Value) : FuncData := PySem.W.kla_fn "<lambda>" (lamQ X) params body scope (clOf X.env scope.names) ((X.mg "__name__").getD .none) cd ct
theorem pe_lam (S : CScope X scope N 0 cs) (hcode : X.env.code = .ref c) (C : PySem.W.CodeHd X.base c Pt) (hB : Blt X.mg X.base) (hdef : defaultsOf params X.env = ([], []) := by rfl) :
    PE X (.Lambda params body scope pos) (tLam Pt (lamQ X) (lamF X params body scope)) := by
  intro pins s σ H Q I h
  obtain ⟨⟨ps, hP, hco⟩, k⟩ := h
  have hPt : s.heap.get? Pt = some (PySem.W.tabObj ps) := I.hok Pt _ hP
  have C1 : PySem.W.CodeHd s.heap c Pt := C.keeps I.bk
  have hg : s.heap.Ns mainGlobals X.mg := I.mod.glob.keeps I.bk
  obtain ⟨bm, ob, b1, b2, b3, b4, b5, b6⟩ := hB
  have hgP : mainGlobals ≠ Pt := fun q => by
    obtain ⟨o, es, ep, e, hd, _⟩ := I.mod.glob
    have := (I.bs _ _ e).2
    rw [q, hP] at this
    cases this
  have hbP : bm ≠ Pt := fun q => by
    have := (I.bs _ _ b3).2
    rw [q, hP] at this
    cases this
  have hbG : bm ≠ mainGlobals := fun q => by
    obtain ⟨o, es, ep, e, hd, _⟩ := I.mod.glob
    rw [q, e] at b3
    cases b3
    rw [hd] at b6
    cases b6
  have hBA : s.heap.BuiltinsAt X.mg Pt := ⟨bm, ob, b1, b2, hbG, hbP, I.bk _ _ b3, b4, b5, b6⟩
  have hcl := closure_of (scope := scope) (env := X.env) fun y hy hf => I.ok.has _ (S.free y hy hf)
  refine PySem.W.kla_eval hdef ?_
  cases hf : codeAmong pos ps.toList with
  | some cv =>
    obtain ⟨c', rfl, hc'⟩ := hco.among _ hf
    refine PySem.W.kla_makeFunctionHit (mg := X.mg) hcl I.ok.glob hg hcode C1 hPt (hco.triples _) hf hBA fun ctv h' tk kp hsz => ?_
    have np : H h'.objs.size = none := I.hok.fresh hsz
    have kk : ∀ b o, H b = some o → upd H h'.objs.size (isLam h'.objs.size (lamF X params body scope (.ref c') ctv)) b = some o := fun b o e => by rw [upd_ne (ne_of_none e np), e]
    exact ⟨.ref h'.objs.size, upd H h'.objs.size (isLam h'.objs.size (lamF X params body scope (.ref c') ctv)), I.laid (t' := tk) (fun b u e => Heap.get?_push_of_some _ (kp b u e)) hsz (isLam_ok (Heap.get?_push_size _ rfl)), rfl,
      k _ _ ⟨Tab.same ⟨ps, hP, hco⟩ kk, fun b o _ e => kk b o e, np, c', ctv, upd_same, kk _ _ hc'⟩⟩
  | none =>
    refine PySem.W.kla_makeFunction (mg := X.mg) hcl I.ok.glob hg hcode C1 hPt (hco.triples _) hf hgP hBA fun c' ctv h' tk hx hge hlt hrec htb => ?_
    have np : H h'.objs.size = none := I.hok.fresh (by lia)
    have nc : H c' = none := I.hok.fresh hge
    have pc : h'.objs.size ≠ c' := by lia
    have nPt : c' ≠ Pt ∧ h'.objs.size ≠ Pt := ⟨fun z => (by rw [z, hP] at nc; cases nc), fun z => (by rw [z, hP] at np; cases np)⟩
    have I2 := I.grown (tk := tk) (h' := h'.push (PySem.W.kla_obj "<lambda>" (lamQ X) params body scope (clOf X.env scope.names) ((X.mg "__name__").getD .none) c' ctv)) (c := c') (p := h'.objs.size) (oc := isCo c' (lamQ X)) (op := isLam h'.objs.size (lamF X params body scope (.ref c') ctv)) hP
      (fun b o z e => Heap.get?_push_of_some _ (hx b o z e)) hge hlt (Heap.get?_push_of_some _ htb) (fun H' => isCo_ok (hrec.push _)) fun H' => isLam_ok (Heap.get?_push_size _ rfl)
    refine ⟨.ref h'.objs.size, _, I2, rfl, k _ _ ?_⟩
    have kk : ∀ b o, b ≠ Pt → H b = some o → upd (upd (upd H Pt (.tbl (ps ++ #[rawInt pos.line, rawInt pos.col, .ref c']))) c' (isCo c' (lamQ X))) h'.objs.size (isLam h'.objs.size (lamF X params body scope (.ref c') ctv)) b = some o := fun b o z e => by
      rw [upd_ne (ne_of_none e np), upd_ne (ne_of_none e nc), upd_ne z, e]
    have hcc : upd (upd (upd H Pt (.tbl (ps ++ #[rawInt pos.line, rawInt pos.col, .ref c']))) c' (isCo c' (lamQ X))) h'.objs.size (isLam h'.objs.size (lamF X params body scope (.ref c') ctv)) c' = some (isCo c' (lamQ X)) := by
      rw [upd_ne (Ne.symm pc), upd_same]
    refine ⟨⟨_, by rw [upd_ne (Ne.symm nPt.2), upd_ne (Ne.symm nPt.1), upd_same], ?_⟩, kk, np, c', ctv, upd_same, hcc⟩
    rw [Array.toList_append]
    refine CoIn.snoc (fun d e => kk d _ (fun z => ?_) e) hcc _ hco
    rw [z, hP] at e
    cases e
end

/-! ### a lambda runs -/
def cxL (P : Program) (w : World) (K : PySem.W.Frag) (mg : Str → Option Value) (base : Heap) (N : List Str) (env : Env) (A : Around) (outer : List Env) (s : Shared) (H : Hp) (E : XK) : Cx where
  prog := P
  w := w
  K := K
  mg := mg
  base := base
  A := A.deeper env
  N := N
  s₀ := s
  H₀ := H
  env := env
  outer := outer
  stack := env :: outer
  ex := []
  calm := true
  fn := fun _ => false
  pn := []
  xe := fun e s' => wpAny (model P w) (A.deeper env) (leaving env e) (fun _ s'' => CXE P w outer H s E e s'') (fun e' s'' => CXE P w outer H s E e' s'') s'
section
variable {P : Program} {w : World} {K : PySem.W.Frag} {mg : Str → Option Value} {base : Heap} {N : List Str} {env : Env} {A : Around} {outer : List Env} {s : Shared} {H : Hp} {E : XK}
theorem passL (hfr : env.frame = some env.locals) : Passes (CXE P w) (cxL P w K mg base N env A outer s H E) E := by
  intro pins σ H1 s1 e s' I h
  obtain ⟨a, T, cls, H', rfl, os, bare, un, hok, fl, na, nT, ha, hT, hE⟩ := h
  have J : Inv (cxL P w K mg base N env A outer s H E) pins σ H' s' := I.call' (ch := []) os un hok bare (fun b z => absurd z (by simp))
  have fr := J.stack
  obtain ⟨a0, fw⟩ := flyW fl fr
  refine wpAny_leaves_onW J.ok.frames hfr fw fun h2 x1 x2 => ?_
  have nr := near_of x1.1 x2 fr (fun b z => .tail _ (.tail _ z))
  have ga := I.gn rfl na
  have gT := I.gn rfl nT
  have hid : ∀ b, b ∈ a :: T :: frs (cxL P w K mg base N env A outer s H E).stack → b ∈ frs (cxL P w K mg base N env A outer s H E).stack ∨ (s.heap.get? b = none ∧ H' b = none) := fun b z => by
    rcases List.mem_cons.mp z with rfl | z
    · exact .inr ⟨ga, ha⟩
    · rcases List.mem_cons.mp z with rfl | z
      · exact .inr ⟨gT, hT⟩
      · exact .inl z
  obtain ⟨T2, fl2, gT2, nT2⟩ := fly_on (P := P) (w := w) (g := s.heap) (H := H') fr x1 nr (J.gk rfl) hid J.hok
  refine ⟨a, T2, cls, H', rfl, J.os, J.bare, un_near J.base nr (fun b z => (hid b z).imp id (·.1)) J.frsOut, hok_near J.hok nr (fun b z => ?_), fl2, ga, gT2, ha, nT2, hE⟩
  rcases hid b z with y | y
  · exact J.stkFree b y
  · exact y.2
/-- what the deed at p does where all that the def knew of cells and functions stands: states behind s, with the abstract heap H -/
def Deed (P : Program) (w : World) (K : PySem.W.Frag) (mg : Str → Option Value) (base : Heap) (k : Nat) (p : Addr) (outer : List Env) (s : Shared) (H : Hp) (sp : VK → XK → Prop) : Prop :=
  ∀ (A2 : Around) (outer2 : List Env) (s2 : Shared) (Q : VK) (E : XK), Room k A2 → Env0 P w K mg base A2 outer2 s2 H → (∀ b o, s.heap.get? b = some o → H b = none → b ∉ frs outer → s2.heap.get? b = some o) → sp Q E →
    codeAny (model P w) A2 (.call (.ref p) ⟨[], []⟩) (CR (CXE P w) outer2 P w H s2 Q E) s2
end
section
variable {X : Cx} {params : Arguments} {body : Expr} {scope : Scope} {N : List Str} {cs : List Nat} {k : Nat} {p c : Addr} {ct : Value} {sp : VK → XK → Prop}
abbrev envL (X : Cx) (scope : Scope) (L p c : Addr) : Env := PySem.W.envX (lamQ X) scope L p (.ref c) (clOf X.env scope.names)
theorem deed_of {pins : List (Addr × Obj)} {σ : St} {H : Hp} {s : Shared} (I : Inv X pins σ H s) (hfn : ∀ x, X.fn x = true) (S : CScope X scope N 0 cs) (hco : scope.isCoroutine = false) (hgen : scope.isGenerator = false)
    (hp : H p = some (isLam p (lamF X params body scope (.ref c) ct))) (hc : H c = some (isCo c (lamQ X))) (hb : bindArgs (lamF X params body scope (.ref c) ct) ⟨[], []⟩ = pure [])
    (go : ∀ (A2 : Around) (outer2 : List Env) (s2 : Shared) (Q : VK) (E : XK), Room k (A2.deeper (envL X scope s2.heap.objs.size p c)) → sp Q E → ∃ te, PE (cxL X.prog X.w X.K X.mg X.base N (envL X scope s2.heap.objs.size p c) A2 outer2 s2 H E) body te ∧ te (caps cs σ) H Q) :
    Deed X.prog X.w X.K X.mg X.base (k + 1) p X.stack s H sp := by
  intro A2 outer2 s2 Q E hr e0 hkp hsp
  have op : s2.heap.get? p = some { cls := .type "function", data := .func (lamF X params body scope (.ref c) ct) } := (e0.hok p _ hp).1
  obtain ⟨oc, vs, t, e1, e2, e3⟩ := (e0.hok c _ hc).1
  have lim : s2.heap.NoLimit := e0.mod.nolimit.keeps fun b o e => (e0.bs b o e).1
  refine PySem.W.kla_callFunE hr.depth op rfl hco hgen rfl ⟨c, oc, vs, t, rfl, e1, e2, e3⟩ ?_
  rw [hb]
  refine wpAny_pure (wpAny_newFunctionEnv S.cell (by intro y hy; simp at hy) (fun h₁ hns hsb => ?_) S.kind)
  have hk₁ : ∀ b o, s2.heap.get? b = some o → h₁.get? b = some o := fun b o e => hsb.extBut b o (Nat.ne_of_lt (Heap.lt_size e)) (Heap.get?_push_of_some _ e)
  refine ⟨lim.keeps hk₁, ?_⟩
  show codeAny _ _ (.expr body (envL X scope s2.heap.objs.size p c)) _ _
  obtain ⟨te, hte, hq⟩ := go A2 outer2 s2 Q E (hr.deeper _) hsp
  have lk : ∀ {x d}, (clOf X.env scope.names).lookup x = some d → X.env.cells.lookup x = some d := fun {x d} h => by
    rcases cl_lookup X.env _ _ h with z | ⟨z, e⟩
    · simp at z
    · obtain ⟨a, ha⟩ := I.ok.has x (S.free _ z rfl)
      rw [e, ha]; rfl
  -- the cells stand as they stood
  have cellK : ∀ {x d v}, X.env.cells.lookup x = some d → s.heap.IsCell d v → s2.heap.IsCell d v := fun {x d v} h z => by
    obtain ⟨o, ho, hd⟩ := z
    refine ⟨o, hkp d o ho (I.freeC x d h) (fun z => ?_), hd⟩
    rcases List.mem_cons.mp (I.stkSub d z) with z | z
    · exact I.cne x d h z
    · obtain ⟨_, o2, q, _⟩ := I.ok.funs.mem z
      exact absurd (Nat.lt_of_lt_of_le (Heap.lt_size q) (I.ok.cab x d (hfn x) h)) (Nat.lt_irrefl _)
  have J : Inv (cxL X.prog X.w X.K X.mg X.base N (envL X scope s2.heap.objs.size p c) A2 outer2 s2 H E) [] (caps cs σ) H { s2 with heap := h₁, toks := s2.toks + ([] : List (Str × Value)).length } := by
    have noA : ∀ b : Addr, b ∉ (cxL X.prog X.w X.K X.mg X.base N (envL X scope s2.heap.objs.size p c) A2 outer2 s2 H E).ex := fun b z => absurd (show b ∈ ([] : List Addr) from z) (by simp)
    refine ⟨⟨e0.mod, S.kind, rfl, rfl, Nat.le_refl _, fun x y d h1 h2 => I.ok.inj x y d (lk h1) (lk h2), fun x hx => ?_, fun x d h _ => (nomatch h), fun _ => hr.hd, Around.frames_deeper e0.frames, .inr ⟨rfl, rfl⟩, fun b z => absurd z (noA b), e0.bs, e0.bsz, fun b _ _ => noA b, fun b z => absurd z (noA b), e0.funs, e0.frf⟩,
      rfl, e0.bare, Un.kept hk₁, ⟨_, hns, fun i x v h1 h2 h3 => ?_⟩, fun x d h => ?_, e0.hok.fresh (Nat.le_refl _), fun x d h => I.freeC x d (lk h), fun p hp => absurd (show p ∈ ([] : List (Addr × Obj)) from hp) (by simp), e0.hok.kept hk₁, ?_⟩
    · have hx : scope.names.lookup x = some .cell ∨ scope.names.lookup x = some .free := hx
      rcases hx with hx | hx
      · exact absurd rfl (S.cell _ (PySem.mem_of_lookup hx))
      · exact cl_has X.env _ [] (PySem.mem_of_lookup hx)
    · unfold caps at h2
      rw [List.getElem?_map] at h2
      have hj : i < cs.length := by
        by_cases z : i < cs.length
        · exact z
        · rw [List.getElem?_eq_none (by lia)] at h2
          cases h2
      obtain ⟨x', f1, f2, f3⟩ := S.cap i hj
      rw [Nat.zero_add, show N[i]? = some x from h1] at f1
      cases f1
      rw [List.getElem?_eq_getElem hj] at h2
      have h2' : (σ[cs[i]]?).getD none = some v := Option.some.inj h2
      rw [List.getD_eq_getElem?_getD, List.getElem?_eq_getElem hj] at f2
      have h4 : σ[cs[i]]? = some (some v) := by
        cases q : σ[cs[i]]? with
        | none => rw [q] at h2'; cases h2'
        | some w => rw [q] at h2'; rw [show w = some v from h2']
      have kO := S.free (x, .free) (PySem.mem_of_lookup f3) rfl
      obtain ⟨mo, _, hlo⟩ := I.loc
      obtain ⟨u, ru, l⟩ := hlo _ x v f2 h4 (.inr kO)
      refine ⟨u, ru, ?_⟩
      rcases l with ⟨z, _⟩ | ⟨_, d, hc', z⟩
      · have z' : X.env.scope.names.lookup x = some .local := z
        rcases kO with q | q <;> · rw [z'] at q; cases q
      · obtain ⟨d', h5⟩ := cl_has X.env _ [] (PySem.mem_of_lookup f3)
        have h6 := lk h5
        rw [hc'] at h6
        cases h6
        obtain ⟨o, ho, hd⟩ := cellK hc' z
        exact .inr ⟨.inr f3, d, h5, o, hk₁ _ _ ho, hd⟩
    · obtain ⟨v, z⟩ := I.cell x d (lk h)
      obtain ⟨o, ho, hd⟩ := cellK (lk h) z
      exact ⟨v, o, hk₁ _ _ ho, hd⟩
    · show (caps cs σ).length = N.length
      unfold caps
      rw [List.length_map, S.len, Nat.zero_add]
  refine PySem.W.kla_codeExpr (wpAny_mono (hte [] _ _ H Q J hq) (fun u s' hs => ?_) fun e s' hs => hs)
  obtain ⟨v, H', J', rv, q⟩ := hs
  exact ⟨v, H', J'.os, J'.bare, J'.base, J'.hok, rv, q⟩
end

/-! ### a def whose promise speaks of the state it is called in -/
abbrev SpS := List Env → Shared → Sp
structure FnOkS (P : Program) (w : World) (K : PySem.W.Frag) (mg : Str → Option Value) (base : Heap) (CX : CXT) (k : Nat) (f : Addr) (fd : FuncData) (ps : List Str) (sp : SpS) : Prop where
  len : ∀ o s vs H Q E, sp o s vs H Q E → vs.length = ps.length
  run : ∀ (A : Around) (outer : List Env) (s : Shared) (H : Hp) (args : Args) (us : List Value) (vs : List V) (Q : VK) (E : XK), Room k A → Env0 P w K mg base A outer s H → BindsTo s fd args (ps.zip us) → Vals vs us → sp outer s vs H Q E →
    codeAny (model P w) A (.call (.ref f) args) (CR CX outer P w H s Q E) s
section
variable {P : Program} {w : World} {K : PySem.W.Frag} {mg : Str → Option Value} {base : Heap}
theorem Fun.okS {x qual : Str} {st : Stmt} {f : Addr} {fd : FuncData} {N ps : List Str} {k : Nat} {sp : SpS} (F : Fun K x qual st f fd) (S : FnScope N ps (defScope st)) (len : ∀ o s vs H Q E, sp o s vs H Q E → vs.length = ps.length)
    (hbody : ∀ (cdv : Value) (A : Around) (outer : List Env) (s : Shared) (H : Hp) (vs : List V) (Q : VK) (E : XK), Room k (A.deeper (envOfC qual (defScope st) s.heap.objs.size f cdv)) → sp outer s vs H Q E →
      ∃ t, PSs (cxOf CX0 P w K mg base N qual (defScope st) f cdv A outer s H E).nox (defBody st) t ∧ t { nx := fun _ H' => Q .non H', rt := Q } (start N vs) H) : FnOkS P w K mg base CX0 (k + 1) f fd ps sp := by
  obtain ⟨oc, od, kV, doc, pm, an, cdv, ct, osl, rfl, lk, hcd⟩ := F.ex
  refine ⟨len, fun A outer s H args us vs Q E hr e0 hb r hsp => ?_⟩
  have z := fn_of (CX := CX0) (P := P) (w := w) (mg := mg) (base := base) (k := k) (sp := fun vs2 H2 Q2 E2 => sp outer s vs H Q E ∧ vs2 = vs ∧ H2 = H ∧ Q2 = Q ∧ E2 = E) lk hcd S (fun vs2 H2 Q2 E2 h => h.2.1 ▸ len _ _ _ _ _ _ h.1)
  have hl := len _ _ _ _ _ _ hsp
  have KX : K.In s.heap := e0.mod.kin.keeps fun b o e => (e0.bs b o e).1
  have lim : s.heap.NoLimit := e0.mod.nolimit.keeps fun b o e => (e0.bs b o e).1
  have hkind : ∀ y ∈ ps.zip us, (defScope st).names.lookup y.1 = some .local ∨ ((defScope st).names.lookup y.1 = some .cell ∧ ((cellsFrom (s.heap.objs.size + 1) (defScope st).names []).lookup y.1).isSome = true) := fun ⟨n, v⟩ hy => by
    rcases S.par n (List.of_mem_zip hy).1 with q | q
    · exact .inl q
    · exact .inr ⟨q, PySem.W.cellsFrom_some _ _ _ (.inl q)⟩
  clear z
  refine codeAny_call_function hr.depth (KX _ _ lk) rfl S.co S.gen rfl (PySem.W.codeRec_of KX hcd) (hb _ _ _ _ ?_)
  refine wpAny_newFunctionEnv_cells S.kind hkind fun env he s1 x => ?_
  subst he
  refine ⟨lim.keeps x.toInCall.keep, codeAny_func ?_⟩
  obtain ⟨t, ht, hq⟩ := hbody cdv A outer s H vs Q E (hr.deeper _) hsp
  have I : Inv (cxOf CX0 P w K mg base N qual (defScope st) f cdv A outer s H E) [] (start N vs) H s1 := inv_start S hr.hd e0 hl r x
  refine wpAny_mono (ht.nox [] s1 (start N vs) H _ I hq) (fun fl s' hs => ?_) fun e s' hs => hs
  have fin : ∀ {σ' : St} {H' : Hp} {v : V} {u : Value}, Inv (cxOf CX0 P w K mg base N qual (defScope st) f cdv A outer s H E) [] σ' H' s' → RelV v u → Q v H' → CE outer P w H s Q u s' :=
    fun {σ' H' v u} J rv q => ⟨v, H', J.os, J.bare, J.base, J.hok, rv, q⟩
  cases fl with
  | ret u =>
    obtain ⟨v, σ', H', J, rv, q⟩ := hs
    exact fin J rv q
  | next =>
    obtain ⟨σ', H', J, q⟩ := hs
    exact fin (v := V.non) (u := Value.none) J rfl q
  | brk =>
    obtain ⟨_, _, _, q⟩ := hs
    exact False.elim q
  | cont =>
    obtain ⟨_, _, _, q⟩ := hs
    exact False.elim q
/-- .. and one whose code object is to be known (it makes lambdas) -/
theorem Fun.okC {x qual : Str} {st : Stmt} {f : Addr} {fd : FuncData} {N ps : List Str} {k : Nat} {sp : Sp} (F : Fun K x qual st f fd) (S : FnScope N ps (defScope st)) (len : ∀ vs H Q E, sp vs H Q E → vs.length = ps.length)
    (hbody : ∀ (cdv : Value) (A : Around) (outer : List Env) (s : Shared) (H : Hp) (vs : List V) (Q : VK) (E : XK), fd.code = cdv → Room k (A.deeper (envOfC qual (defScope st) s.heap.objs.size f cdv)) → sp vs H Q E →
      ∃ t, PSs (cxOf CX0 P w K mg base N qual (defScope st) f cdv A outer s H E).nox (defBody st) t ∧ t { nx := fun _ H' => Q .non H', rt := Q } (start N vs) H) : FnOk P w K mg base CX0 (k + 1) f fd ps sp := by
  obtain ⟨oc, od, kV, doc, pm, an, cdv, ct, osl, rfl, lk, hcd⟩ := F.ex
  refine fn_of lk hcd S len fun A outer s H vs Q E hr hsp => ?_
  obtain ⟨t, h, q⟩ := hbody cdv A outer s H vs Q E rfl hr hsp
  exact ⟨t, h.nox, q⟩
end

/-! ### such a def is called; a deed that stands in a name is done -/
def tCallT (X : Cx) (sp : SpS) (t : TA) : TE := fun σ H Q => t σ H fun vs H1 => ∀ pins s1, Inv X pins σ H1 s1 → sp X.stack s1 vs H1 Q E0
def tDeed (i : Nat) (p : Addr) (H₀ : Hp) (S : St → Prop) (sp : VK → XK → Prop) (E : XK) : TE := fun σ H Q => σ[i]? = some (some (.ref p)) ∧ H = H₀ ∧ S σ ∧ sp Q E
section
variable {X : Cx} {k : Nat} {f : Addr} {fd : FuncData} {ps : List Str} {sp : SpS} {x : Str} {p pos : Pos} {e : Expr} {es : List Expr} {t : TA}
theorem pe_callT (F : FnOkS X.prog X.w X.K X.mg X.base CX0 k f fd ps sp) (hr : Room k X.A) (hg : Gl X x) (hm : X.mg x = some (.ref f)) (hk : PySem.W.keepIn X.K (.ref f) = true) (hb : Binds X.K fd ps [])
    (ha : PA X (e :: es) t) (hdb : (x == ("__debug__" : Str)) = false := by decide) (he : starEach (e :: es) X.env = (false, eval e X.env) :: starEach es X.env := by rfl) (hpl : (backTo pos (starEach es X.env)).any (·.1) = false := by rfl) :
    PE X (.Call (.Name x p) (e :: es) [] pos) (tCallT X sp t) := by
  intro pins s σ H Q I h
  refine wpAny_Call_Name_kw (ld_glob I hg hm ?_ hdb)
  refine PySem.W.callWith_K (h₀ := X.base) I.ok.mod.kin hk (thn (ha pos pins s σ H _ I h) fun us s1 ⟨vs, H1, I1, r, q⟩ => ⟨I1.kIn, ?_⟩) he hpl
  have q1 := q pins s1 I1
  have hl : us.length = ps.length := r.length.symm.trans (F.len _ _ _ _ _ _ q1)
  have hb1 := hb s1 us I1.kIn (by rw [List.append_nil]; exact hl)
  rw [List.append_nil] at hb1
  refine wpAny_call (codeAny_mono (F.run X.A X.stack s1 H1 ⟨us, []⟩ us vs Q E0 hr I1.env0 hb1 r q1) ?_)
  intro r s' hq
  rcases r with e | (_ | _ | _ | _)
  all_goals first
    | exact I1.after hq
    | exact hq.elim
theorem pe_deed {i : Nat} {d : Addr} {S : St → Prop} {spd : VK → XK → Prop} {E : XK} {H0 : Hp} (hH : X.H₀ = H0) (hN : X.N[i]? = some x) (hl : X.env.scope.names.lookup x = some .local) (hr : Room k X.A) (D : Deed X.prog X.w X.K X.mg X.base k d X.outer X.s₀ X.H₀ spd)
    (hx : PassesS (CXE X.prog X.w) X E S) (hex : X.ex = []) (hlam : ∃ fd, X.H₀ d = some (isLam d fd)) (hdb : (x == ("__debug__" : Str)) = false := by decide) : PE X (.Call (.Name x p) [] [] pos) (tDeed i d H0 S spd E) := by
  subst hH
  intro pins s σ H Q I h
  obtain ⟨e1, rfl, hS, hq⟩ := h
  obtain ⟨m, hn, hlo⟩ := I.loc
  obtain ⟨u, r, l⟩ := hlo i x _ hN e1 (.inl hl)
  obtain rfl : u = Value.ref d := r
  have hm : m x = some (.ref d) := by
    rcases l with ⟨_, z⟩ | ⟨z, _⟩
    · exact z
    · have z' : X.env.scope.names.lookup x = some .cell ∨ X.env.scope.names.lookup x = some .free := z
      rcases z' with z' | z' <;> · rw [hl] at z'; cases z'
  obtain ⟨fd, hfd⟩ := hlam
  have ho := (I.hok d _ hfd).1
  refine wpAny_Call_Name_kw (wpAny_Name (wpAny_loadName_local I.ok.kind hl hn hm ?_) hdb)
  refine PySem.W.callWith_F0 ⟨_, _, _, _, ho⟩ ?_
  refine wpAny_call (codeAny_mono (D X.A X.stack s Q E hr I.env0 (fun b o q n z => I.base.keep b o q n z (by rw [hex]; simp)) hq) ?_)
  intro r s' hq
  rcases r with e | (_ | _ | _ | _)
  · exact hx pins σ _ s e s' hS I hq
  all_goals first
    | exact I.after hq
    | exact hq.elim
end
end L2

set_option Elab.async false
set_option linter.all false
set_option maxRecDepth 100000
/-! sorted: what the asking tree of the small sort tells, where the order is that of numbers. -/
namespace L2
open PySem PySem.W PyProof.Rows
section
variable {rk : Nat → Int} {n : Nat}
end
end L2

set_option Elab.async false
set_option linter.all false
set_option maxRecDepth 100000
set_option maxHeartbeats 1000000
/-! sorted(xs): xs a list of less than 64 tuples of ints. -/
namespace L2
open PySem PySem.W PySem.Spec PyProof.Rows
section
variable {prog : Program} {w : World} {A : Around} {E : Value → Shared → Prop}
end
section
variable {X : Cx}
end
end L2

set_option maxHeartbeats 200000
set_option Elab.async false
set_option linter.all false
set_option maxRecDepth 100000
/-! Lists of tuples of ints that are alike. -/
namespace L2
open PySem PySem.Spec PyProof.Rows
section
variable {X : Cx}
theorem all_true (n : Nat) : (List.range n).all (fun _ => true) = true := List.all_eq_true.mpr fun _ _ => rfl
end
end L2

set_option Elab.async false
set_option linter.all false
set_option maxRecDepth 100000
/-! Lists of truths alike; a def that runs a deed, as its callers know it; the law's head where defs of the law make lambdas. -/
namespace L2
open PySem PySem.Spec PyProof.Rows
section
variable {X : Cx}
theorem truths_eq {s : Shared} {A : Around} : ∀ {bs : List Bool} {xs ys : List Value}, Vals (bs.map V.bl) xs → Vals (bs.map V.bl) ys → xs.length = ys.length ∧ ∀ j (h1 : j < xs.length) (h2 : j < ys.length), PySem.SeqAt.EqAt A s xs[j] ys[j] true := fun {bs xs ys} r1 r2 => by
  obtain rfl := vals_bl r1
  obtain rfl := vals_bl r2
  exact ⟨rfl, fun j h1 h2 => PySem.SeqAt.EqAt.same _⟩
/-- lists of truths that are alike (K named: within an except suite) -/
def AlikeB (K : PySem.W.Frag) (H : Hp) (x y : V) : Prop := ∃ (a b : Addr) (bs : List Bool), x = .ref a ∧ y = .ref b ∧ SqL K H a (bs.map V.bl) ∧ SqL K H b (bs.map V.bl)
theorem op_eq_listB (K : PySem.W.Frag) (hK : X.K = K) (hu : X.A.units + 64 < cLine) : OpR X (compareOp .Eq) (fun x y H Q => AlikeB K H x y ∧ Q (.bl true) H) := by
  subst hK
  intro pins s σ H x y v u Q I rx ry h
  obtain ⟨⟨a, b, bs, rfl, rfl, h1, h2⟩, q⟩ := h
  cases rx
  cases ry
  obtain ⟨xs, r1, p1, _⟩ := I.list h1
  obtain ⟨ys, r2, p2, _⟩ := I.list h2
  obtain ⟨l, k⟩ := truths_eq (A := X.A.in1) (s := s) r1 r2
  refine PySem.SeqAt.eq_listAt (e := fun _ => true) p1.isList p2.isList (by rw [List.size_toArray, List.size_toArray, l]) (by lia) (fun j k1 k2 => ?_) ?_
  · simp only [List.size_toArray] at k1 k2
    simpa using k j k1 k2
  · rw [all_true]
    exact ⟨.bl _, H, I, rfl, q⟩
end
/-- a def that does a deed, as its callers know it -/
structure CalT (P : Program) (w : World) (K : PySem.W.Frag) (mg : Str → Option Value) (base : Heap) (k : Nat) (x : Str) (ps : List Str) (sp : SpS) : Prop where
  ex : ∃ (f : Addr) (fd : FuncData), FnOkS P w K mg base CX0 k f fd ps sp ∧ mg x = some (.ref f) ∧ PySem.W.keepIn K (.ref f) = true ∧ Binds K fd ps []
theorem pe_calT {X : Cx} {k : Nat} {ps : List Str} {sp : SpS} {x : Str} {p pos : Pos} {e : Expr} {es : List Expr} {t : TA} (c : CalT X.prog X.w X.K X.mg X.base k x ps sp) (hr : Room k X.A) (hg : Gl X x) (ha : PA X (e :: es) t) (hdb : (x == ("__debug__" : Str)) = false := by decide)
    (he : starEach (e :: es) X.env = (false, eval e X.env) :: starEach es X.env := by rfl) (hpl : (backTo pos (starEach es X.env)).any (·.1) = false := by rfl) : PE X (.Call (.Name x p) (e :: es) [] pos) (tCallT X sp t) := by
  obtain ⟨f, fd, h1, h2, h3, h4⟩ := c.ex
  exact pe_callT h1 hr hg h2 h3 h4 ha hdb he hpl

/-! ### the law's head, the tables of the defs that make lambdas laid aside -/
def OnlyT (tabs : List (Addr × Addr)) (H : Hp) : Prop := (∀ b, H b = none ∨ (∃ o xs, H b = some (.frz o (.lst xs))) ∨ (H b = some (.tbl #[]) ∧ b ∈ tabs.map (·.2))) ∧ ∀ q ∈ tabs, H q.2 = some (.tbl #[])
theorem law_callT {P : Program} {w : World} {K : PySem.W.Frag} {mg mb : Str → Option Value} {CX : CXT} {k : Nat} {fa a : Addr} {fd : FuncData} {x : Str} {sp : Sp} {s₁ : Shared} {vs : List Value} {ns : List Int} {tabs : List (Addr × Addr)}
    (KX : K.In s₁.heap) (hns : s₁.heap.Ns mainGlobals mg) (hb : s₁.heap.Ns builtinsNs mb) (hbb : ∀ x : Str, x ≠ "__name__" → mb x = bootBuiltins x) (hlim : s₁.heap.NoLimit) (hg : s₁.gens = #[])
    (ha : s₁.heap.get? a = some { cls := .type "list", data := .seq vs.toArray }) (hi : IntsAre vs ns) (hl : ns.length ≤ sizeLine) (hr : Room k callerA) (hT : PySem.W.TabsAt tabs s₁.heap) (hnt : PySem.W.noTabs K = true) (hB : Blt mg s₁.heap)
    (F : ∀ base : Heap, K.In base → base.Ns mainGlobals mg → Blt mg base → (∀ q ∈ tabs, PySem.W.CodeHd base q.1 q.2) → FnOk P w K mg base CX k fa fd [x] sp) (hbind : ∀ (s : Shared) (u : Value), BindsTo s fd ⟨[u], []⟩ [(x, u)])
    (hsp : ∀ H : Hp, OnlyT tabs H → SqL K H a (ns.map V.int) → sp [.ref a] H (fun v _ => v = .bl true) fun _ _ _ => False)
    (hCX : ∀ H e s', CX [] H s₁ (fun _ _ _ => False) e s' → False) :
    codeAny (model P w) callerA (.call (.ref fa) ⟨[.ref a], []⟩) (fun r s' => r = .ok (.ret (.bool true)) ∧ OldK s₁.heap s'.heap ∧ s'.os = s₁.os ∧ AllBare s'.gens) s₁ := by
  have rv := vals_ints hi
  have lenV := hi.length
  have tabO : ∀ b, b ∈ tabs.map (·.2) → s₁.heap.get? b = some (PySem.W.tabObj #[]) := fun b hb => by
    obtain ⟨q, hq, rfl⟩ := List.mem_map.mp hb
    exact (hT q hq).2
  have core : ∀ H : Hp, OnlyT tabs H → SqL K H a (ns.map V.int) → HOk P w H s₁.heap → (∀ b, H b ≠ none → b = a ∨ b ∈ tabs.map (·.2)) → (H a ≠ none → K.lookup a = none) →
      codeAny (model P w) callerA (.call (.ref fa) ⟨[.ref a], []⟩) (fun r s' => r = .ok (.ret (.bool true)) ∧ OldK s₁.heap s'.heap ∧ s'.os = s₁.os ∧ AllBare s'.gens) s₁ := by
    intro H hO hS hok hA hK
    have base_of : ∀ {b : Addr} {o : Obj}, s₁.heap.get? b = some o → H b = none → (hidT s₁.heap H).get? b = some o := fun e n => hidT_get e n
    -- what is neither a list of ints nor a table is not tracked
    have noD : ∀ {b : Addr} {o : Obj}, s₁.heap.get? b = some o → o.cls ≠ .none → (∀ u n, o.data ≠ .seq u n) → H b = none := fun {b o} e c d => by
      cases q : H b with
      | none => rfl
      | some u =>
        rcases hA b (by rw [q]; simp) with z | z
        · subst z
          rw [ha] at e
          cases e
          exact absurd rfl (d _ _)
        · rw [tabO b z] at e
          cases e
          exact absurd rfl c
    have noA : ∀ {b : Addr} {o : Obj} {es : Array DictEntry} {ep : Nat}, s₁.heap.get? b = some o → o.data = .dict es ep → H b = none := fun {b o es ep} e d => by
      cases q : H b with
      | none => rfl
      | some u =>
        rcases hA b (by rw [q]; simp) with z | z
        · subst z
          rw [ha] at e
          cases e
          cases d
        · rw [tabO b z] at e
          cases e
          cases d
    have nsK : ∀ {b : Addr} {m : Str → Option Value}, s₁.heap.Ns b m → (hidT s₁.heap H).Ns b m := fun {b m} ⟨o, es, ep, e, d, r⟩ => ⟨o, es, ep, base_of e (noA e d), d, r⟩
    have hKb : K.In (hidT s₁.heap H) := fun b o e => base_of (KX b o e) (by
      cases q : H b with
      | none => rfl
      | some u =>
        rcases hA b (by rw [q]; simp) with z | z
        · subst z
          rw [hK (by rw [q]; simp)] at e; cases e
        · have h2 := List.all_eq_true.mp hnt (b, o) (PySem.W.mem_of_lookupK e)
          have e2 := KX b o e
          rw [tabO b z] at e2
          cases e2
          exact absurd (show false = true from h2) Bool.false_ne_true)
    have hM : Mod K mg (hidT s₁.heap H) := ⟨hKb, nsK hns, ⟨mb, nsK hb, hbb⟩, let ⟨mc, h1, h2⟩ := hlim; ⟨mc, nsK h1, h2⟩⟩
    have hB2 : Blt mg (hidT s₁.heap H) := by
      obtain ⟨bm, o, b1, b2, b3, b4, b5, b6⟩ := hB
      exact ⟨bm, o, b1, b2, base_of b3 (noD b3 (by rw [b4]; nofun) (by rw [b6]; nofun)), b4, b5, b6⟩
    have hC2 : ∀ q ∈ tabs, PySem.W.CodeHd (hidT s₁.heap H) q.1 q.2 := fun q hq => by
      obtain ⟨o, us, file, tf, flags, tg, inF, text, tt, e1, r1, r2, r⟩ := (hT q hq).1
      exact ⟨o, us, file, tf, flags, tg, inF, text, tt, base_of e1 (noD e1 (by rw [r1]; nofun) (by rw [r2]; nofun)), r1, r2, r⟩
    have e0 : Env0 P w K mg (hidT s₁.heap H) callerA [] s₁ H := ⟨rfl, hM, fun b o e => of_hidT e, Nat.le_of_eq (hidT_size _ _), trivial, fun b hb => absurd (show b ∈ ([] : List Addr) from hb) (by simp), hok, .of_eq hg⟩
    refine codeAny_mono ((F _ hKb (nsK hns) hB2 hC2).run callerA [] s₁ H ⟨[.ref a], []⟩ [.ref a] [.ref a] _ _ hr e0 (hbind s₁ (.ref a)) (.cons rfl .nil) (hsp H hO hS)) fun r s' h => ?_
    cases r with
    | error e => exact (hCX H e s' h).elim
    | ok fl =>
      cases fl with
      | next => exact False.elim h
      | brk => exact False.elim h
      | cont => exact False.elim h
      | ret u =>
        obtain ⟨v, H', os, bare, un, hok', r', q⟩ := h
        have q' : v = .bl true := q
        subst q'
        obtain rfl : u = Value.bool true := r'
        refine ⟨rfl, ⟨fun b o e => ?_, fun b o e => un.there b o e (by simp)⟩, os, bare⟩
        rcases hO.1 b with q | ⟨ob, xs, z⟩ | ⟨z, hb⟩
        · exact .inl (un.keep b o e q (by intro z; exact absurd (show b ∈ ([] : List Addr) from z) (by simp)) (by simp))
        · have z2 := un.frzs b ob _ z
          obtain ⟨e1, _⟩ := hok b _ z
          obtain ⟨e2, _⟩ := hok' b _ z2
          rw [e] at e1; cases e1
          exact .inl e2
        · obtain ⟨more, z2⟩ := un.tbls b _ z
          have e1 : s'.heap.get? b = some { cls := .none, data := .fields (#[] ++ more) } := hok' b _ z2
          obtain ⟨q, hq, rfl⟩ := List.mem_map.mp hb
          have e2 := (hT q hq).2
          rw [e] at e2
          cases e2
          exact .inr (.inl ⟨((hT q hq).1.tab (hT q hq).2).isCodeTable, rfl, #[], more, rfl, e1⟩)
  have naT : a ∉ tabs.map (·.2) := fun z => by
    have := tabO a z
    rw [ha] at this
    cases this
  cases hk : K.lookup a with
  | some o =>
    have e := KX a o hk
    rw [ha] at e
    cases e
    refine core (fun b => if b ∈ tabs.map (·.2) then some (.tbl #[]) else none) ⟨fun b => ?_, fun q hq => if_pos (List.mem_map_of_mem hq)⟩ (.inr ⟨_, vs.toArray, _, hk, rfl, rfl, rfl, by rw [List.size_toArray, lenV]; exact hl, by simpa using rv⟩) (fun b u z => ?_) (fun b z => ?_) fun z => absurd (if_neg naT) z
    · by_cases hb : b ∈ tabs.map (·.2)
      · exact .inr (.inr ⟨if_pos hb, hb⟩)
      · exact .inl (if_neg hb)
    · by_cases hb : b ∈ tabs.map (·.2)
      · have z' := (if_pos hb).symm.trans z
        cases z'
        exact tabO b hb
      · have z' := (if_neg hb).symm.trans z
        cases z'
    · by_cases hb : b ∈ tabs.map (·.2)
      · exact .inr hb
      · exact absurd (if_neg hb) z
  | none =>
    refine core (fun b => if b = a then some (.frz { cls := .type "list", data := .seq vs.toArray } (.lst (ns.map V.int))) else if b ∈ tabs.map (·.2) then some (.tbl #[]) else none) ⟨fun b => ?_, fun q hq => ?_⟩ (.inl (.inr ⟨{ cls := .type "list", data := .seq vs.toArray }, if_pos rfl⟩)) (fun b u z => ?_) (fun b z => ?_) fun _ => hk
    · by_cases hb : b = a
      · exact .inr (.inl ⟨_, _, if_pos hb⟩)
      · by_cases hb2 : b ∈ tabs.map (·.2)
        · exact .inr (.inr ⟨(if_neg hb).trans (if_pos hb2), hb2⟩)
        · exact .inl ((if_neg hb).trans (if_neg hb2))
    · have m := List.mem_map_of_mem (f := (·.2)) hq
      exact (if_neg (fun z => naT (by rw [← z]; exact m))).trans (if_pos m)
    · by_cases hb : b = a
      · have z' := (if_pos hb).symm.trans z
        cases z'
        subst hb
        exact ⟨ha, by rw [List.length_map]; exact hl, vs, _, rv, ha⟩
      · have z' := (if_neg hb).symm.trans z
        by_cases hb2 : b ∈ tabs.map (·.2)
        · have z'' := (if_pos hb2).symm.trans z'
          cases z''
          exact tabO b hb2
        · have z'' := (if_neg hb2).symm.trans z'
          cases z''
    · by_cases hb : b = a
      · exact .inl hb
      · by_cases hb2 : b ∈ tabs.map (·.2)
        · exact .inr hb2
        · exact absurd ((if_neg hb).trans (if_neg hb2)) z
theorem walk_ofT {l : PySem.W.OpenLaw} {n k : Nat} {q : Program} {loose : List Str} {XP : (Str → Option Value) → Heap → Prop} {YP : World → Heap → Prop} {d : DefRec} {K : Params → PySem.W.Frag} {CX : World → CXT} {sp : World → Sp} {x : Str} {tabs : List (Addr × Addr)}
    (hn : l.most = some n) (hn2 : n ≤ sizeLine) (hdf : d.params.defaults = []) (hr : Room k callerA)
    (hY : ∀ (w : World) (h : Heap), YP w h → (K w.params).In h)
    (hT : ∀ (w : World) (h : Heap), YP w h → PySem.W.TabsAt tabs h) (hnt : ∀ w : World, PySem.W.noTabs (K w.params) = true)
    (F : ∀ (w : World) (mg : Str → Option Value) (fa : Addr) (h : Heap), (K w.params).In h → h.Ns mainGlobals mg → mg d.name = some (.ref fa) →
      ∃ fd : FuncData, (∀ (s : Shared) (u : Value), BindsTo s fd ⟨[u], []⟩ [(x, u)]) ∧
        ∀ base : Heap, (K w.params).In base → base.Ns mainGlobals mg → Blt mg base → (∀ q ∈ tabs, PySem.W.CodeHd base q.1 q.2) → FnOk l.prog w (K w.params) mg base (CX w) k fa fd [x] (sp w))
    (hsp : ∀ (w : World) (H : Hp) (a : Addr) (ns : List Int), ns.length ≤ n → OnlyT tabs H → SqL (K w.params) H a (ns.map V.int) → sp w [.ref a] H (fun v _ => v = .bl true) fun _ _ _ => False)
    (hCX : ∀ (w : World) (H : Hp) (s : Shared) (e : Value) (s' : Shared), CX w [] H s (fun _ _ _ => False) e s' → False) :
    PySem.W.WalkO q loose XP YP l.row.toRowW d [] (fun f vs => PySem.call f vs) := by
  refine Att.attach_call hn hdf fun w s₀ s₁ mg mb fa o pm cd doc a vs ns G Y ho hd hcd hmg hobj hints hlen hg => ?_
  have KX := hY w _ Y
  obtain ⟨fd, hb, hF⟩ := F w mg fa _ KX G.T.g hmg
  exact law_callT KX G.T.g G.T.b G.T.builtins G.T.nolimit hg hobj hints (Nat.le_trans hlen hn2) hr (hT w _ Y) (hnt w) G.T.bmain hF hb (fun H hO hS => hsp w H a ns hlen hO hS) fun H e s' => hCX w H s₁ e s'
end L2

set_option Elab.async false
set_option linter.all false
set_option maxRecDepth 100000
namespace J
open PySem L2
def top (i : Nat) : Stmt := PySem.Challenge.pw_jumpfield_k14_refused_squares.main.body.getD i (.Pass ⟨0, 0, 0, 0⟩)
abbrev s_is_whole : Stmt := top 16
abbrev n_is_whole : List Str := ["thing"]
abbrev p_is_whole : List Str := ["thing"]
theorem sc_is_whole : FnScope n_is_whole p_is_whole (defScope s_is_whole) := ⟨rfl, rfl, rfl, by decide +kernel, rfl, by decide +kernel, by decide +kernel⟩
abbrev s_is_state : Stmt := top 19
abbrev n_is_state : List Str := ["thing"]
abbrev p_is_state : List Str := ["thing"]
theorem sc_is_state : FnScope n_is_state p_is_state (defScope s_is_state) := ⟨rfl, rfl, rfl, by decide +kernel, rfl, by decide +kernel, by decide +kernel⟩
abbrev s_shifted_box : Stmt := top 22
abbrev p_shifted_box : List Str := ["box", "dx", "dy"]
abbrev s_least_box : Stmt := top 23
abbrev p_least_box : List Str := ["boxes"]
abbrev s__law_at : Stmt := top 26
abbrev n__law_at : List Str := ["_law_script", "_law_k"]
abbrev p__law_at : List Str := ["_law_script", "_law_k"]
theorem sc__law_at : FnScope n__law_at p__law_at (defScope s__law_at) := ⟨rfl, rfl, rfl, by decide +kernel, rfl, by decide +kernel, by decide +kernel⟩
abbrev s__law_bad : Stmt := top 27
abbrev n__law_bad : List Str := ["_law_cell", "_law_most", "_law_way", "_law_far"]
abbrev p__law_bad : List Str := ["_law_cell", "_law_most"]
theorem sc__law_bad : FnScope n__law_bad p__law_bad (defScope s__law_bad) := ⟨rfl, rfl, rfl, by decide +kernel, rfl, by decide +kernel, by decide +kernel⟩
abbrev s__law_others : Stmt := top 28
abbrev n__law_others : List Str := ["_law_e", "_law_some"]
abbrev p__law_others : List Str := ["_law_e"]
theorem sc__law_others : FnScope n__law_others p__law_others (defScope s__law_others) := ⟨rfl, rfl, rfl, by decide +kernel, rfl, by decide +kernel, by decide +kernel⟩
abbrev s__law_refused : Stmt := top 29
abbrev n__law_refused : List Str := ["_law_deed", "_law_due", "_law_e", "_law_kinds"]
abbrev p__law_refused : List Str := ["_law_deed", "_law_due"]
theorem sc__law_refused : FnScope n__law_refused p__law_refused (defScope s__law_refused) := ⟨rfl, rfl, rfl, by decide +kernel, rfl, by decide +kernel, by decide +kernel⟩
abbrev s__law_ask : Stmt := top 30
abbrev n__law_ask : List Str := ["_law_grove", "_law_thing", "_law_which"]
abbrev p__law_ask : List Str := ["_law_grove", "_law_thing", "_law_which"]
theorem sc__law_ask : FnScope n__law_ask p__law_ask (defScope s__law_ask) := ⟨rfl, rfl, rfl, by decide +kernel, rfl, by decide +kernel, by decide +kernel⟩
abbrev s__law_numbers_refused : Stmt := top 31
abbrev n__law_numbers_refused : List Str := ["_law_grove", "_law_bad_here", "_law_four", "_law_other", "_law_which", "_law_k", "_law_some"]
abbrev p__law_numbers_refused : List Str := ["_law_grove", "_law_bad_here", "_law_four", "_law_other"]
theorem sc__law_numbers_refused : FnScope n__law_numbers_refused p__law_numbers_refused (defScope s__law_numbers_refused) := ⟨rfl, rfl, rfl, by decide +kernel, rfl, by decide +kernel, by decide +kernel⟩
abbrev s__law_levels_refused : Stmt := top 32
abbrev n__law_levels_refused : List Str := ["_law_grove", "_law_bad_here", "_law_level", "_law_four", "_law_other", "_law_leaf", "_law_high", "_law_some", "_law_k"]
abbrev p__law_levels_refused : List Str := ["_law_grove", "_law_bad_here", "_law_level", "_law_four", "_law_other"]
theorem sc__law_levels_refused : FnScope n__law_levels_refused p__law_levels_refused (defScope s__law_levels_refused) := ⟨rfl, rfl, rfl, by decide +kernel, rfl, by decide +kernel, by decide +kernel⟩
abbrev s__law_joined : Stmt := top 33
abbrev n__law_joined : List Str := ["_law_grove", "_law_four", "_law_square"]
abbrev p__law_joined : List Str := ["_law_grove", "_law_four"]
theorem sc__law_joined : FnScope n__law_joined p__law_joined (defScope s__law_joined) := ⟨rfl, rfl, rfl, by decide +kernel, rfl, by decide +kernel, by decide +kernel⟩
abbrev s_law : Stmt := top 34
abbrev n_law : List Str := ["_law_script", "_law_grove", "_law_first", "_law_at_here", "_law_cell", "_law_level", "_law_state", "_law_four", "_law_other", "_law_none"]
abbrev p_law : List Str := ["_law_script"]
theorem sc_law : FnScope n_law p_law (defScope s_law) := ⟨rfl, rfl, rfl, by decide +kernel, rfl, by decide +kernel, by decide +kernel⟩
abbrev s_Grove_init : Stmt := inClass (top 24) 0
abbrev n_Grove_init : List Str := ["self", "state", "level", "bare"]
abbrev p_Grove_init : List Str := ["self"]
theorem sc_Grove_init : FnScope n_Grove_init p_Grove_init (defScope s_Grove_init) := ⟨rfl, rfl, rfl, by decide +kernel, rfl, by decide +kernel, by decide +kernel⟩
abbrev s_Grove_kept : Stmt := inClass (top 24) 1
abbrev n_Grove_kept : List Str := ["self", "parts", "level", "number"]
abbrev p_Grove_kept : List Str := ["self", "parts", "level"]
theorem sc_Grove_kept : FnScope n_Grove_kept p_Grove_kept (defScope s_Grove_kept) := ⟨rfl, rfl, rfl, by decide +kernel, rfl, by decide +kernel, by decide +kernel⟩
abbrev s_Grove_linked : Stmt := inClass (top 24) 2
abbrev n_Grove_linked : List Str := ["self", "parts", "number"]
abbrev p_Grove_linked : List Str := ["self", "parts"]
theorem sc_Grove_linked : FnScope n_Grove_linked p_Grove_linked (defScope s_Grove_linked) := ⟨rfl, rfl, rfl, by decide +kernel, rfl, by decide +kernel, by decide +kernel⟩
abbrev s_Grove_check_square : Stmt := inClass (top 24) 3
abbrev n_Grove_check_square : List Str := ["self", "square"]
abbrev p_Grove_check_square : List Str := ["self", "square"]
theorem sc_Grove_check_square : FnScope n_Grove_check_square p_Grove_check_square (defScope s_Grove_check_square) := ⟨rfl, rfl, rfl, by decide +kernel, rfl, by decide +kernel, by decide +kernel⟩
abbrev s_Grove_leaf : Stmt := inClass (top 24) 4
abbrev n_Grove_leaf : List Str := ["self", "state"]
abbrev p_Grove_leaf : List Str := ["self", "state"]
theorem sc_Grove_leaf : FnScope n_Grove_leaf p_Grove_leaf (defScope s_Grove_leaf) := ⟨rfl, rfl, rfl, by decide +kernel, rfl, by decide +kernel, by decide +kernel⟩
abbrev s_Grove_joined : Stmt := inClass (top 24) 5
abbrev n_Grove_joined : List Str := ["self", "a", "b", "c", "d", "square", "level"]
abbrev p_Grove_joined : List Str := ["self", "a", "b", "c", "d"]
theorem sc_Grove_joined : FnScope n_Grove_joined p_Grove_joined (defScope s_Grove_joined) := ⟨rfl, rfl, rfl, by decide +kernel, rfl, by decide +kernel, by decide +kernel⟩
abbrev s_Grove_solid : Stmt := inClass (top 24) 6
abbrev n_Grove_solid : List Str := ["self", "level", "state", "square", "below"]
abbrev p_Grove_solid : List Str := ["self", "level", "state"]
theorem sc_Grove_solid : FnScope n_Grove_solid p_Grove_solid (defScope s_Grove_solid) := ⟨rfl, rfl, rfl, by decide +kernel, rfl, by decide +kernel, by decide +kernel⟩
abbrev s_Grove_level_of : Stmt := inClass (top 24) 7
abbrev n_Grove_level_of : List Str := ["self", "square"]
abbrev p_Grove_level_of : List Str := ["self", "square"]
theorem sc_Grove_level_of : FnScope n_Grove_level_of p_Grove_level_of (defScope s_Grove_level_of) := ⟨rfl, rfl, rfl, by decide +kernel, rfl, by decide +kernel, by decide +kernel⟩
abbrev s_Grove_quarters : Stmt := inClass (top 24) 8
abbrev n_Grove_quarters : List Str := ["self", "square"]
abbrev p_Grove_quarters : List Str := ["self", "square"]
theorem sc_Grove_quarters : FnScope n_Grove_quarters p_Grove_quarters (defScope s_Grove_quarters) := ⟨rfl, rfl, rfl, by decide +kernel, rfl, by decide +kernel, by decide +kernel⟩
abbrev s_Grove_state_of : Stmt := inClass (top 24) 9
abbrev n_Grove_state_of : List Str := ["self", "square"]
abbrev p_Grove_state_of : List Str := ["self", "square"]
theorem sc_Grove_state_of : FnScope n_Grove_state_of p_Grove_state_of (defScope s_Grove_state_of) := ⟨rfl, rfl, rfl, by decide +kernel, rfl, by decide +kernel, by decide +kernel⟩
abbrev s_Grove_living : Stmt := inClass (top 24) 10
abbrev n_Grove_living : List Str := ["self", "square"]
abbrev p_Grove_living : List Str := ["self", "square"]
theorem sc_Grove_living : FnScope n_Grove_living p_Grove_living (defScope s_Grove_living) := ⟨rfl, rfl, rfl, by decide +kernel, rfl, by decide +kernel, by decide +kernel⟩
abbrev s_Grove_counted : Stmt := inClass (top 24) 11
abbrev p_Grove_counted : List Str := ["self", "square"]
abbrev s_Grove_span : Stmt := inClass (top 24) 12
abbrev n_Grove_span : List Str := ["self", "square"]
abbrev p_Grove_span : List Str := ["self", "square"]
theorem sc_Grove_span : FnScope n_Grove_span p_Grove_span (defScope s_Grove_span) := ⟨rfl, rfl, rfl, by decide +kernel, rfl, by decide +kernel, by decide +kernel⟩
abbrev s_Grove_boxed : Stmt := inClass (top 24) 13
abbrev p_Grove_boxed : List Str := ["self", "square"]
abbrev s_Grove_measured : Stmt := inClass (top 24) 14
abbrev p_Grove_measured : List Str := ["self", "square"]
/-- where the classes stand -/
structure Ad where
  c_Grove : Addr
  x_FieldError : Addr
  x_NoNumber : Addr
  x_NoRule : Addr
  x_Restless : Addr
  x_NoSquare : Addr
  x_NoLevel : Addr
  x_NoState : Addr
  x_NoBox : Addr
  x_TooFar : Addr
  x_TooMany : Addr
  x_NoSteps : Addr
  x_NoPattern : Addr
  x_NoName : Addr
  x_NoRow : Addr
/-- what the top has written -/
structure Top (K : PySem.W.Frag) (mg : Str → Option Value) (a : Ad) : Prop where
  b_any : mg "any" = none
  b_bool : mg "bool" = none
  b_enumerate : mg "enumerate" = none
  b_int : mg "int" = none
  b_isinstance : mg "isinstance" = none
  b_len : mg "len" = none
  b_list : mg "list" = none
  b_max : mg "max" = none
  b_min : mg "min" = none
  b_range : mg "range" = none
  b_str : mg "str" = none
  b_sum : mg "sum" = none
  k_STATES : ∃ t, mg "STATES" = some (.int 8 t)
  k_TOP_LEVEL : ∃ t, mg "TOP_LEVEL" = some (.int 48 t)
  m_Grove : mg "Grove" = some (.ref a.c_Grove)
  cl_Grove : Cls K a.c_Grove
  na_Grove_levels : NoAttr K a.c_Grove "levels"
  na_Grove_parts : NoAttr K a.c_Grove "parts"
  na_Grove_numbers : NoAttr K a.c_Grove "numbers"
  na_Grove_bares : NoAttr K a.c_Grove "bares"
  na_Grove_amounts : NoAttr K a.c_Grove "amounts"
  na_Grove_boxes : NoAttr K a.c_Grove "boxes"
  b_ValueError : mg "ValueError" = none
  mx_FieldError : mg "FieldError" = some (.ref a.x_FieldError)
  mx_NoNumber : mg "NoNumber" = some (.ref a.x_NoNumber)
  mx_NoRule : mg "NoRule" = some (.ref a.x_NoRule)
  mx_Restless : mg "Restless" = some (.ref a.x_Restless)
  mx_NoSquare : mg "NoSquare" = some (.ref a.x_NoSquare)
  mx_NoLevel : mg "NoLevel" = some (.ref a.x_NoLevel)
  mx_NoState : mg "NoState" = some (.ref a.x_NoState)
  mx_NoBox : mg "NoBox" = some (.ref a.x_NoBox)
  mx_TooFar : mg "TooFar" = some (.ref a.x_TooFar)
  mx_TooMany : mg "TooMany" = some (.ref a.x_TooMany)
  mx_NoSteps : mg "NoSteps" = some (.ref a.x_NoSteps)
  mx_NoPattern : mg "NoPattern" = some (.ref a.x_NoPattern)
  mx_NoName : mg "NoName" = some (.ref a.x_NoName)
  mx_NoRow : mg "NoRow" = some (.ref a.x_NoRow)
  ec_NoSquare : ExcC K a.x_NoSquare
  ec_NoLevel : ExcC K a.x_NoLevel
  ec_NoState : ExcC K a.x_NoState
  ec_FieldError : ExcC K a.x_FieldError
  ef_NoSquare : ExcF K a.x_NoSquare
  mr_NoSquare : PySem.W.mroIn K a.x_NoSquare (.ref a.x_FieldError) = some true
  kv_NoSquare : PySem.W.kitOne K (.ref a.x_NoSquare) (.type "ValueError") = some true
  ki_NoSquare_NoNumber : PySem.W.kitOne K (.ref a.x_NoSquare) (.ref a.x_NoNumber) = some false
  ki_NoSquare_NoRule : PySem.W.kitOne K (.ref a.x_NoSquare) (.ref a.x_NoRule) = some false
  ki_NoSquare_Restless : PySem.W.kitOne K (.ref a.x_NoSquare) (.ref a.x_Restless) = some false
  ki_NoSquare_NoSquare : PySem.W.kitOne K (.ref a.x_NoSquare) (.ref a.x_NoSquare) = some true
  ki_NoSquare_NoLevel : PySem.W.kitOne K (.ref a.x_NoSquare) (.ref a.x_NoLevel) = some false
  ki_NoSquare_NoState : PySem.W.kitOne K (.ref a.x_NoSquare) (.ref a.x_NoState) = some false
  ki_NoSquare_NoBox : PySem.W.kitOne K (.ref a.x_NoSquare) (.ref a.x_NoBox) = some false
  ki_NoSquare_TooFar : PySem.W.kitOne K (.ref a.x_NoSquare) (.ref a.x_TooFar) = some false
  ki_NoSquare_TooMany : PySem.W.kitOne K (.ref a.x_NoSquare) (.ref a.x_TooMany) = some false
  ki_NoSquare_NoSteps : PySem.W.kitOne K (.ref a.x_NoSquare) (.ref a.x_NoSteps) = some false
  ki_NoSquare_NoPattern : PySem.W.kitOne K (.ref a.x_NoSquare) (.ref a.x_NoPattern) = some false
  ki_NoSquare_NoName : PySem.W.kitOne K (.ref a.x_NoSquare) (.ref a.x_NoName) = some false
  ki_NoSquare_NoRow : PySem.W.kitOne K (.ref a.x_NoSquare) (.ref a.x_NoRow) = some false
  ef_NoLevel : ExcF K a.x_NoLevel
  mr_NoLevel : PySem.W.mroIn K a.x_NoLevel (.ref a.x_FieldError) = some true
  kv_NoLevel : PySem.W.kitOne K (.ref a.x_NoLevel) (.type "ValueError") = some true
  ki_NoLevel_NoNumber : PySem.W.kitOne K (.ref a.x_NoLevel) (.ref a.x_NoNumber) = some false
  ki_NoLevel_NoRule : PySem.W.kitOne K (.ref a.x_NoLevel) (.ref a.x_NoRule) = some false
  ki_NoLevel_Restless : PySem.W.kitOne K (.ref a.x_NoLevel) (.ref a.x_Restless) = some false
  ki_NoLevel_NoSquare : PySem.W.kitOne K (.ref a.x_NoLevel) (.ref a.x_NoSquare) = some false
  ki_NoLevel_NoLevel : PySem.W.kitOne K (.ref a.x_NoLevel) (.ref a.x_NoLevel) = some true
  ki_NoLevel_NoState : PySem.W.kitOne K (.ref a.x_NoLevel) (.ref a.x_NoState) = some false
  ki_NoLevel_NoBox : PySem.W.kitOne K (.ref a.x_NoLevel) (.ref a.x_NoBox) = some false
  ki_NoLevel_TooFar : PySem.W.kitOne K (.ref a.x_NoLevel) (.ref a.x_TooFar) = some false
  ki_NoLevel_TooMany : PySem.W.kitOne K (.ref a.x_NoLevel) (.ref a.x_TooMany) = some false
  ki_NoLevel_NoSteps : PySem.W.kitOne K (.ref a.x_NoLevel) (.ref a.x_NoSteps) = some false
  ki_NoLevel_NoPattern : PySem.W.kitOne K (.ref a.x_NoLevel) (.ref a.x_NoPattern) = some false
  ki_NoLevel_NoName : PySem.W.kitOne K (.ref a.x_NoLevel) (.ref a.x_NoName) = some false
  ki_NoLevel_NoRow : PySem.W.kitOne K (.ref a.x_NoLevel) (.ref a.x_NoRow) = some false
  ef_NoState : ExcF K a.x_NoState
  mr_NoState : PySem.W.mroIn K a.x_NoState (.ref a.x_FieldError) = some true
  kv_NoState : PySem.W.kitOne K (.ref a.x_NoState) (.type "ValueError") = some true
  ki_NoState_NoNumber : PySem.W.kitOne K (.ref a.x_NoState) (.ref a.x_NoNumber) = some false
  ki_NoState_NoRule : PySem.W.kitOne K (.ref a.x_NoState) (.ref a.x_NoRule) = some false
  ki_NoState_Restless : PySem.W.kitOne K (.ref a.x_NoState) (.ref a.x_Restless) = some false
  ki_NoState_NoSquare : PySem.W.kitOne K (.ref a.x_NoState) (.ref a.x_NoSquare) = some false
  ki_NoState_NoLevel : PySem.W.kitOne K (.ref a.x_NoState) (.ref a.x_NoLevel) = some false
  ki_NoState_NoState : PySem.W.kitOne K (.ref a.x_NoState) (.ref a.x_NoState) = some true
  ki_NoState_NoBox : PySem.W.kitOne K (.ref a.x_NoState) (.ref a.x_NoBox) = some false
  ki_NoState_TooFar : PySem.W.kitOne K (.ref a.x_NoState) (.ref a.x_TooFar) = some false
  ki_NoState_TooMany : PySem.W.kitOne K (.ref a.x_NoState) (.ref a.x_TooMany) = some false
  ki_NoState_NoSteps : PySem.W.kitOne K (.ref a.x_NoState) (.ref a.x_NoSteps) = some false
  ki_NoState_NoPattern : PySem.W.kitOne K (.ref a.x_NoState) (.ref a.x_NoPattern) = some false
  ki_NoState_NoName : PySem.W.kitOne K (.ref a.x_NoState) (.ref a.x_NoName) = some false
  ki_NoState_NoRow : PySem.W.kitOne K (.ref a.x_NoState) (.ref a.x_NoRow) = some false
end J

set_option Elab.async false
set_option linter.all false
set_option maxRecDepth 100000
set_option maxHeartbeats 1000000
/-! The grove: squares by their numbers. -/
namespace J
open PySem L2
/-- a square: what it is made of, its level -/
structure Sq where
  parts : List Int
  lev : Int
abbrev Gv := List Sq
/-- where a grove lies -/
structure GA where
  p : Addr
  dx : Addr
  lv : Addr
  pt : Addr
  nm : Addr
  br : Addr
  am : Addr
  bx : Addr
def fl6 (g : GA) : List (Str × V) := putF "boxes" (.ref g.bx) (putF "amounts" (.ref g.am) (putF "bares" (.ref g.br) (putF "numbers" (.ref g.nm) (putF "parts" (.ref g.pt) (putF "levels" (.ref g.lv) [])))))
theorem fl6_lv (g : GA) : (fl6 g).lookup ("levels" : Str) = some (V.ref g.lv) := by
  unfold fl6
  rw [lookup_putF, if_neg (by decide +kernel), lookup_putF, if_neg (by decide +kernel), lookup_putF, if_neg (by decide +kernel), lookup_putF, if_neg (by decide +kernel), lookup_putF, if_neg (by decide +kernel), lookup_putF, if_pos rfl]
theorem fl6_pt (g : GA) : (fl6 g).lookup ("parts" : Str) = some (V.ref g.pt) := by
  unfold fl6
  rw [lookup_putF, if_neg (by decide +kernel), lookup_putF, if_neg (by decide +kernel), lookup_putF, if_neg (by decide +kernel), lookup_putF, if_neg (by decide +kernel), lookup_putF, if_pos rfl]
theorem fl6_nm (g : GA) : (fl6 g).lookup ("numbers" : Str) = some (V.ref g.nm) := by
  unfold fl6
  rw [lookup_putF, if_neg (by decide +kernel), lookup_putF, if_neg (by decide +kernel), lookup_putF, if_neg (by decide +kernel), lookup_putF, if_pos rfl]
theorem fl6_br (g : GA) : (fl6 g).lookup ("bares" : Str) = some (V.ref g.br) := by
  unfold fl6
  rw [lookup_putF, if_neg (by decide +kernel), lookup_putF, if_neg (by decide +kernel), lookup_putF, if_pos rfl]
theorem fl6_am (g : GA) : (fl6 g).lookup ("amounts" : Str) = some (V.ref g.am) := by
  unfold fl6
  rw [lookup_putF, if_neg (by decide +kernel), lookup_putF, if_pos rfl]
theorem fl6_no (g : GA) {m : Str} (h1 : ¬ m = ("boxes" : Str)) (h2 : ¬ m = ("amounts" : Str)) (h3 : ¬ m = ("bares" : Str)) (h4 : ¬ m = ("numbers" : Str)) (h5 : ¬ m = ("parts" : Str)) (h6 : ¬ m = ("levels" : Str)) : (fl6 g).lookup m = none := by
  unfold fl6
  rw [lookup_putF, if_neg h1, lookup_putF, if_neg h2, lookup_putF, if_neg h3, lookup_putF, if_neg h4, lookup_putF, if_neg h5, lookup_putF, if_neg h6]
  rfl
theorem no_kept (g : GA) : (fl6 g).lookup ("kept" : Str) = none := fl6_no g (by decide +kernel) (by decide +kernel) (by decide +kernel) (by decide +kernel) (by decide +kernel) (by decide +kernel)
theorem no_linked (g : GA) : (fl6 g).lookup ("linked" : Str) = none := fl6_no g (by decide +kernel) (by decide +kernel) (by decide +kernel) (by decide +kernel) (by decide +kernel) (by decide +kernel)
theorem no_check (g : GA) : (fl6 g).lookup ("check_square" : Str) = none := fl6_no g (by decide +kernel) (by decide +kernel) (by decide +kernel) (by decide +kernel) (by decide +kernel) (by decide +kernel)
theorem no_leaf (g : GA) : (fl6 g).lookup ("leaf" : Str) = none := fl6_no g (by decide +kernel) (by decide +kernel) (by decide +kernel) (by decide +kernel) (by decide +kernel) (by decide +kernel)
theorem no_levelOf (g : GA) : (fl6 g).lookup ("level_of" : Str) = none := fl6_no g (by decide +kernel) (by decide +kernel) (by decide +kernel) (by decide +kernel) (by decide +kernel) (by decide +kernel)
theorem no_joined (g : GA) : (fl6 g).lookup ("joined" : Str) = none := fl6_no g (by decide +kernel) (by decide +kernel) (by decide +kernel) (by decide +kernel) (by decide +kernel) (by decide +kernel)
theorem no_solid (g : GA) : (fl6 g).lookup ("solid" : Str) = none := fl6_no g (by decide +kernel) (by decide +kernel) (by decide +kernel) (by decide +kernel) (by decide +kernel) (by decide +kernel)
theorem no_quarters (g : GA) : (fl6 g).lookup ("quarters" : Str) = none := fl6_no g (by decide +kernel) (by decide +kernel) (by decide +kernel) (by decide +kernel) (by decide +kernel) (by decide +kernel)
theorem no_stateOf (g : GA) : (fl6 g).lookup ("state_of" : Str) = none := fl6_no g (by decide +kernel) (by decide +kernel) (by decide +kernel) (by decide +kernel) (by decide +kernel) (by decide +kernel)
/-! ### numbers by what a square is made of -/
def kOf (ps : List Int) : List Key := ps.map Sum.inl
theorem kOf_v (ps : List Int) : (kOf ps).map kV = ps.map V.int := by unfold kOf; rw [List.map_map]; rfl
theorem kOf_inj : ∀ {ps qs : List Int}, kOf ps = kOf qs → ps = qs
  | [], [], _ => rfl
  | [], _ :: _, h => by cases h
  | _ :: _, [], h => by cases h
  | x :: r, y :: t, h => by
    have h : Sum.inl x :: kOf r = (Sum.inl y : Key) :: kOf t := h
    injection h with h1 h2
    injection h1 with h1
    rw [h1, kOf_inj h2]
def kvOf : Nat → Gv → List (List Key × V)
  | _, [] => []
  | n, q :: r => (kOf q.parts, .int (n : Int)) :: kvOf (n + 1) r
theorem kvOf_len : ∀ (G : Gv) (n : Nat), (kvOf n G).length = G.length
  | [], _ => rfl
  | q :: r, n => by show (kvOf (n + 1) r).length + 1 = r.length + 1; rw [kvOf_len r]
theorem kvOf_snoc (q : Sq) : ∀ (G : Gv) (n : Nat), kvOf n (G ++ [q]) = kvOf n G ++ [(kOf q.parts, .int ((n + G.length : Nat) : Int))]
  | [], _ => rfl
  | p :: r, n => by
    show (kOf p.parts, V.int (n : Int)) :: kvOf (n + 1) (r ++ [q]) = _
    rw [kvOf_snoc q r (n + 1)]
    show _ = (kOf p.parts, V.int (n : Int)) :: (kvOf (n + 1) r ++ [(kOf q.parts, V.int ((n + (r.length + 1) : Nat) : Int))])
    rw [show n + 1 + r.length = n + (r.length + 1) by lia]
theorem kv_look (ps : List Int) : ∀ (G : Gv) (n : Nat), (∃ (i : Nat) (q : Sq), G[i]? = some q ∧ q.parts = ps ∧ valV (kvOf n G) (kOf ps) = some (.int ((n + i : Nat) : Int))) ∨ (valV (kvOf n G) (kOf ps) = none ∧ ∀ q ∈ G, q.parts ≠ ps)
  | [], n => .inr ⟨rfl, fun q hq => by simp at hq⟩
  | p :: r, n => by
    by_cases e : p.parts = ps
    · exact .inl ⟨0, p, rfl, e, valV_pos (by rw [e])⟩
    · have ne : ¬ (kOf p.parts, V.int (n : Int)).1 = kOf ps := fun z => e (kOf_inj z)
      rcases kv_look ps r (n + 1) with ⟨i, q, h1, h2, h3⟩ | ⟨h1, h2⟩
      · refine .inl ⟨i + 1, q, h1, h2, ?_⟩
        show valV ((kOf p.parts, V.int (n : Int)) :: kvOf (n + 1) r) (kOf ps) = _
        rw [valV_neg ne, h3, show n + 1 + i = n + (i + 1) by lia]
      · refine .inr ⟨?_, fun q hq => ?_⟩
        · show valV ((kOf p.parts, V.int (n : Int)) :: kvOf (n + 1) r) (kOf ps) = _
          rw [valV_neg ne, h1]
        · rcases List.mem_cons.mp hq with rfl | hq
          · exact e
          · exact h2 q hq
/-! ### a grove in the heap -/
def TupAt (H : Hp) (t : Addr) (q : Sq) : Prop := H t = some (.tup (q.parts.map V.int))
structure GroveAt (a : Ad) (H : Hp) (g : GA) (G : Gv) : Prop where
  hp : H g.p = some (.ins a.c_Grove g.dx (fl6 g))
  lv : H g.lv = some (.lst (G.map fun q => .int q.lev))
  pt : ∃ ts : List Addr, H g.pt = some (.lst (ts.map V.ref)) ∧ Paired (TupAt H) ts G
  nm : H g.nm = some (.dT (kvOf 0 G))
  ne : g.lv ≠ g.pt
/-- all but the grove's own lists stays -/
def Fr (g : GA) (H H' : Hp) : Prop := ∀ b o, H b = some o → b ≠ g.lv → b ≠ g.pt → b ≠ g.nm → H' b = some o
theorem Fr.refl (g : GA) (H : Hp) : Fr g H H := fun _ _ e _ _ _ => e
theorem Fr.trans {g : GA} {H1 H2 H3 : Hp} (h : Fr g H1 H2) (h2 : Fr g H2 H3) : Fr g H1 H3 := fun b o e n1 n2 n3 => h2 b o (h b o e n1 n2 n3) n1 n2 n3
theorem Same.fr {g : GA} {H1 H2 : Hp} (h : Same H1 H2) : Fr g H1 H2 := fun b o e _ _ _ => h b o e
theorem PairedM.imp {α β : Type} {F G : α → β → Prop} (h : ∀ x y, F x y → G x y) : ∀ {l : List α} {m : List β}, Paired F l m → Paired G l m
  | _, _, .nil => .nil
  | _, _, .cons r t => .cons (h _ _ r) (PairedM.imp h t)
theorem PairedM.get {α β : Type} {F : α → β → Prop} : ∀ {l : List α} {m : List β} {i : Nat} {y : β}, Paired F l m → m[i]? = some y → ∃ x, l[i]? = some x ∧ F x y
  | _, _, _, _, .nil, e => by simp at e
  | _, _, 0, _, .cons r _, e => by simp at e; subst e; exact ⟨_, rfl, r⟩
  | _, _, i + 1, y, .cons _ t, e => by
    obtain ⟨x, h1, h2⟩ := PairedM.get (i := i) (y := y) t (by simpa using e)
    exact ⟨x, by simpa using h1, h2⟩
theorem same_up {H : Hp} {p : Addr} {o : HO} (h : H p = none) : Same H (upd H p o) := fun b u e => by
  rw [upd_ne (ne_of_none e h)]
  exact e
theorem GroveAt.same {a : Ad} {H H' : Hp} {g : GA} {G : Gv} (s : Same H H') (h : GroveAt a H g G) : GroveAt a H' g G := by
  obtain ⟨h1, h2, ⟨ts, h3, h4⟩, h5, h6⟩ := h
  exact ⟨s _ _ h1, s _ _ h2, ⟨ts, s _ _ h3, PairedM.imp (fun t q z => s _ _ z) h4⟩, s _ _ h5, h6⟩
/-- a list that is not the grove's own is written -/
theorem GroveAt.put {a : Ad} {H : Hp} {g : GA} {G : Gv} {l : Addr} {xs : List V} {o : HO} (hl : H l = some (.lst xs)) (n1 : l ≠ g.lv) (n2 : l ≠ g.pt) (h : GroveAt a H g G) : GroveAt a (upd H l o) g G := by
  obtain ⟨h1, h2, ⟨ts, h3, h4⟩, h5, h6⟩ := h
  have other : ∀ {b v}, H b = some v → v ≠ .lst xs → upd H l o b = some v := fun {b v} e n => by rw [upd_ne (ne_of e hl n)]; exact e
  exact ⟨other h1 (by intro z; cases z), by rw [upd_ne (Ne.symm n1)]; exact h2, ⟨ts, by rw [upd_ne (Ne.symm n2)]; exact h3, PairedM.imp (fun t q z => other z (by intro z; cases z)) h4⟩, other h5 (by intro z; cases z), h6⟩
/-! ### what a grove keeps to -/
def LevAt (G : Gv) (x : Nat) (l : Int) : Prop := ∃ q, G[x]? = some q ∧ q.lev = l
structure GOk (G : Gv) : Prop where
  leaf : ∀ s : Nat, s < 8 → G[s]? = some ⟨[(s : Int)], 0⟩
  node : ∀ (i : Nat) q, G[i]? = some q → 8 ≤ i → ∃ x y z w : Nat, q.parts = [(x : Int), (y : Int), (z : Int), (w : Int)] ∧ (LevAt G x (q.lev - 1) ∧ LevAt G y (q.lev - 1) ∧ LevAt G z (q.lev - 1) ∧ LevAt G w (q.lev - 1)) ∧ 1 ≤ q.lev ∧ q.lev ≤ 48
  nd : (G.map Sq.parts).Nodup
theorem LevAt.lt {G : Gv} {x : Nat} {l : Int} (h : LevAt G x l) : x < G.length := by
  obtain ⟨q, h, _⟩ := h
  exact (List.getElem?_eq_some_iff.mp h).1
theorem get_app {G r : Gv} {x : Nat} {q : Sq} (h : G[x]? = some q) : (G ++ r)[x]? = some q := by
  rw [List.getElem?_append_left (List.getElem?_eq_some_iff.mp h).1]
  exact h
theorem LevAt.app {G r : Gv} {x : Nat} {l : Int} (h : LevAt G x l) : LevAt (G ++ r) x l := by
  obtain ⟨q, h, e⟩ := h
  exact ⟨q, get_app h, e⟩
theorem GOk.lev {G : Gv} (h : GOk G) {i : Nat} {q : Sq} (e : G[i]? = some q) : 0 ≤ q.lev ∧ q.lev ≤ 48 := by
  by_cases h8 : i < 8
  · rw [h.leaf i h8] at e
    cases e
    exact ⟨Int.le_refl 0, by show (0 : Int) ≤ 48; decide⟩
  · obtain ⟨x, y, z, w, _, _, h1, h2⟩ := h.node i q e (by lia)
    exact ⟨by lia, h2⟩
theorem GOk.snoc {G : Gv} (h : GOk G) {x y z w : Nat} {l : Int} (hx : LevAt G x l) (hy : LevAt G y l) (hz : LevAt G z l) (hw : LevAt G w l) (h47 : l ≤ 47) (new : ∀ q ∈ G, q.parts ≠ [(x : Int), (y : Int), (z : Int), (w : Int)]) : GOk (G ++ [⟨[(x : Int), (y : Int), (z : Int), (w : Int)], l + 1⟩]) where
  leaf := fun s hs => get_app (h.leaf s hs)
  node := fun i q e hi => by
    by_cases hl : i < G.length
    · rw [List.getElem?_append_left hl] at e
      obtain ⟨x, y, z, w, h1, ⟨a1, a2, a3, a4⟩, h3⟩ := h.node i q e hi
      exact ⟨x, y, z, w, h1, ⟨a1.app, a2.app, a3.app, a4.app⟩, h3⟩
    · rw [List.getElem?_append_right (by lia)] at e
      have : i - G.length = 0 := by
        by_cases z : i - G.length = 0
        · exact z
        · rw [List.getElem?_eq_none (by rw [List.length_singleton]; lia)] at e; cases e
      rw [this] at e
      cases e
      obtain ⟨q0, e0, l0⟩ := hx
      have := (h.lev e0).1
      have el : l + 1 - 1 = l := by lia
      refine ⟨x, y, z, w, rfl, ?_, ?_, ?_⟩
      · show LevAt _ x (l + 1 - 1) ∧ LevAt _ y (l + 1 - 1) ∧ LevAt _ z (l + 1 - 1) ∧ LevAt _ w (l + 1 - 1)
        rw [el]
        exact ⟨LevAt.app ⟨q0, e0, l0⟩, hy.app, hz.app, hw.app⟩
      · show 1 ≤ l + 1; lia
      · show l + 1 ≤ 48; lia
  nd := by
    rw [List.map_append, List.nodup_append]
    refine ⟨h.nd, by simp, fun p hp p' hp' => ?_⟩
    obtain ⟨q, hq, rfl⟩ := List.mem_map.mp hp
    rw [show p' = [(x : Int), (y : Int), (z : Int), (w : Int)] by simpa using hp']
    exact new q hq
end J

set_option maxHeartbeats 200000
set_option Elab.async false
set_option linter.all false
set_option maxRecDepth 100000
set_option maxHeartbeats 1000000
/-! The grove's own defs. -/
namespace J
open PySem L2
theorem lt_ln {n : Nat} (h : n < 10000000) : n < sizeLine := Nat.lt_of_lt_of_le h (by decide)
theorem kit_w (K : PySem.W.Frag) : PySem.W.kitOne K (.type "int") (.type "int") = some true ∧ PySem.W.kitOne K (.type "int") (.type "bool") = some false := ⟨by kernel_rfl, by kernel_rfl⟩
section
variable {P : Program} {w : World} {K : PySem.W.Frag} {mg : Str → Option Value} {base : Heap} {a : Ad}
inductive SpIW (vs : List V) (H : Hp) (Q : VK) : Prop
  | mk (i : Int) (_ : vs = [.int i]) (_ : Q (.bl true) H) : SpIW vs H Q
def spIW : Sp := fun vs H Q _ => SpIW vs H Q
theorem ok_iw {f : Addr} {fd : FuncData} (F : Fun K "is_whole" "is_whole" s_is_whole f fd) (T : Top K mg a) : FnOk P w K mg base CX0 1 f fd p_is_whole spIW := by
  refine F.ok sc_is_whole (fun vs H Q E h => ?_) (fun cdv A outer s H vs Q E hr h => ?_)
  · obtain ⟨i, rfl, _⟩ := h
    rfl
  · obtain ⟨i, rfl, k⟩ := h
    exact ⟨_, (@pss_one _ _ _ (@ps_ret _ _ _ _ (@pe_and _ _ _ _ _ _ _ (@pe_callB _ _ _ _ _ _ _ _ _ (@call_isi _) rfl T.b_isinstance PyProof.Rows.boot_isinstance (@pa_cons _ _ _ _ _ (pv 0) (@pa_cons _ _ _ _ _ (@pe_bltn _ _ ((.ty "int")) _ _ rfl T.b_int PyProof.Rows.boot_int rfl (by decide) (by decide)) (@pa_nil _) rfl) rfl) (by decide) (by decide) rfl rfl) (@pe_one _ _ _ _ _ (@pe_not _ _ _ _ (@pe_callB _ _ _ _ _ _ _ _ _ (@call_isi _) rfl T.b_isinstance PyProof.Rows.boot_isinstance (@pa_cons _ _ _ _ _ (pv 0) (@pa_cons _ _ _ _ _ (@pe_bltn _ _ ((.ty "bool")) _ _ rfl T.b_bool PyProof.Rows.boot_bool rfl (by decide) (by decide)) (@pa_nil _) rfl) rfl) (by decide) (by decide) rfl rfl)))))), _, rfl, _, _, _, .type "int", true, rfl, rfl, .of (.int i), (kit_w K).1, true, rfl, iteT ⟨_, rfl, _, _, _, .type "int", false, rfl, rfl, .of (.int i), (kit_w K).2, false, rfl, k⟩⟩
inductive SpIS (vs : List V) (H : Hp) (Q : VK) : Prop
  | mk (i : Int) (_ : vs = [.int i]) (_ : 0 ≤ i) (_ : i < 8) (_ : Q (.bl true) H) : SpIS vs H Q
def spIS : Sp := fun vs H Q _ => SpIS vs H Q
theorem ok_is {f : Addr} {fd : FuncData} (F : Fun K "is_state" "is_state" s_is_state f fd) (T : Top K mg a) (C_is_whole : Cal P w K mg base CX0 1 "is_whole" p_is_whole spIW) : FnOk P w K mg base CX0 2 f fd p_is_state spIS := by
  refine F.ok sc_is_state (fun vs H Q E h => ?_) (fun cdv A outer s H vs Q E hr h => ?_)
  · obtain ⟨i, rfl, _⟩ := h
    rfl
  · obtain ⟨i, rfl, h0, h1, k⟩ := h
    refine ⟨_, (@pss_one _ _ _ (@ps_ret _ _ _ _ (@pe_and _ _ _ _ _ _ _ (@pe_cal _ _ _ _ _ _ _ _ _ _ _ _ C_is_whole (rm hr) rfl pass0 (@pa_cons _ _ _ _ _ (pv 0) (@pa_nil _) rfl) (by decide) rfl rfl) (@pe_one _ _ _ _ _ (@pe_chain _ _ _ _ _ _ _ _ _ _ _ _ (@op_le _) (@op_lt _) (@pe_int _ _ _ _) (pv 0) (@pe_gint _ _ _ _ rfl T.k_STATES (by decide)) (by with_unfolding_all rfl)))))), ?_⟩
    try dsimp only [cxK]
    refine ⟨_, rfl, i, rfl, true, rfl, iteT ⟨_, rfl, _, _, rfl, rfl, _, rfl, ?_⟩⟩
    rw [decide_eq_true h0]
    refine iteT ⟨_, _, rfl, rfl, ?_⟩
    show Q (.bl (decide (i < 8))) H
    rw [decide_eq_true h1]
    exact k
/-! ### kept, linked -/
inductive SpKept (a : Ad) (vs : List V) (H : Hp) (Q : VK) : Prop
  | mk (g : GA) (G : Gv) (t : Addr) (ps : List Int) (l : Int) (_ : vs = [.ref g.p, .ref t, .int l]) (_ : GroveAt a H g G) (_ : H t = some (.tup (ps.map V.int))) (_ : (∀ q ∈ G, q.parts ≠ ps)) (_ : G.length < 9000000) (_ : ∀ H', Fr g H H' → GroveAt a H' g (G ++ [⟨ps, l⟩]) → Q (.int (G.length : Int)) H') : SpKept a vs H Q
def spKept (a : Ad) : Sp := fun vs H Q _ => SpKept a vs H Q
theorem ok_kept {f : Addr} {fd : FuncData} (F : Fun K "kept" "Grove.kept" s_Grove_kept f fd) (T : Top K mg a) : FnOk P w K mg base CX0 1 f fd p_Grove_kept (spKept a) := by
  refine F.ok sc_Grove_kept (fun vs H Q E h => ?_) (fun cdv A outer s H vs Q E hr h => ?_)
  · obtain ⟨g, G, t, ps, l, rfl, _⟩ := h
    rfl
  · obtain ⟨g, G, t, ps, l, rfl, hg, ht, new, few, k⟩ := h
    obtain ⟨h1, h2, ⟨ts, h3, h4⟩, h5, h6⟩ := hg
    have lt : ts.length = G.length := Paired.length h4
    refine ⟨_, (@pss_cons _ _ _ _ _ (@ps_set _ _ (3) _ _ _ _ sc_Grove_kept.nd rfl (Or.inl rfl) (@pe_callB _ _ _ _ _ _ _ _ _ (@call_len_seq _) rfl T.b_len PySem.boot_len (@pa_cons _ _ _ _ _ (@pe_fld _ _ _ _ _ (pv 0) rfl) (@pa_nil _) rfl) (by decide) (by decide) rfl rfl) rfl (by first | exact .inl rfl | exact .inr rfl | assumption)) (@pss_cons _ _ _ _ _ (@ps_dput _ _ _ _ _ _ _ _ _ (hu_of hr) (@pe_fld _ _ _ _ _ (pv 0) rfl) (pv 1) (pv 3) rfl) (@pss_cons _ _ _ _ _ (@ps_expr _ _ _ _ (@pe_bm _ _ _ _ _ _ _ _ _ _ _ _ PySem.F.plainAttrs_list PySem.F.slot_list_append PySem.F.type_list_append (@mt_append _) (@pe_fld _ _ _ _ _ (pv 0) rfl) (@pa_cons _ _ _ _ _ (pv 2) (@pa_nil _) rfl) rfl rfl rfl rfl rfl) rfl) (@pss_cons _ _ _ _ _ (@ps_expr _ _ _ _ (@pe_bm _ _ _ _ _ _ _ _ _ _ _ _ PySem.F.plainAttrs_list PySem.F.slot_list_append PySem.F.type_list_append (@mt_append _) (@pe_fld _ _ _ _ _ (pv 0) rfl) (@pa_cons _ _ _ _ _ (pv 1) (@pa_nil _) rfl) rfl rfl rfl rfl rfl) rfl) (@pss_one _ _ _ (@ps_ret _ _ _ _ (pv 3))))))), ?_⟩
    try dsimp only [cxK]
    refine ⟨_, rfl, g.p, _, g.dx, _, _, rfl, h1, T.cl_Grove, T.na_Grove_levels, fl6_lv g, g.lv, _, rfl, .inl (SqL.of h2), ?_⟩
    rw [List.length_map]
    have ne1 : g.p ≠ g.nm := ne_of h1 h5 (by intro z; cases z)
    have ne2 : g.lv ≠ g.nm := ne_of h2 h5 (by intro z; cases z)
    have ne3 : g.pt ≠ g.nm := ne_of h3 h5 (by intro z; cases z)
    have ne4 : g.p ≠ g.lv := ne_of h1 h2 (by intro z; cases z)
    have ne5 : g.p ≠ g.pt := ne_of h1 h3 (by intro z; cases z)
    have vn : valV (kvOf 0 G) (kOf ps) = none := by
      rcases kv_look ps G 0 with ⟨i, q, e1, e2, _⟩ | ⟨e, _⟩
      · exact absurd e2 (new q (List.mem_of_getElem? e1))
      · exact e
    refine ⟨_, rfl, _, rfl, g.p, _, g.dx, _, _, rfl, h1, T.cl_Grove, T.na_Grove_numbers, fl6_nm g, _, rfl, g.nm, _, rfl, DPut.t (k := kOf ps) h5 (by rw [kOf_v]; exact ht) (by rw [kvOf_len]; exact lt_ln (by lia)), ?_⟩
    rw [putK_new _ vn]
    have e5 : kvOf 0 G ++ [(kOf ps, V.int (G.length : Int))] = kvOf 0 (G ++ [⟨ps, l⟩]) := by rw [kvOf_snoc, Nat.zero_add]
    rw [e5]
    generalize hH1 : upd H g.nm (.dT (kvOf 0 (G ++ [⟨ps, l⟩]))) = H1
    have k1 : ∀ b o, H b = some o → b ≠ g.nm → H1 b = some o := fun b o e n => by rw [← hH1, upd_ne n]; exact e
    have n1 : H1 g.nm = some (.dT (kvOf 0 (G ++ [⟨ps, l⟩]))) := by rw [← hH1]; exact upd_same
    refine ⟨_, rfl, g.p, _, g.dx, _, _, rfl, k1 _ _ h1 ne1, T.cl_Grove, T.na_Grove_levels, fl6_lv g, .inl ⟨rfl, _, SqL.of (k1 _ _ h2 ne2)⟩, _, rfl, g.lv, _, _, rfl, rfl, k1 _ _ h2 ne2, by rw [List.length_map]; exact lt_ln (by lia), ?_⟩
    generalize hH2 : upd H1 g.lv (.lst ((G.map fun q => V.int q.lev) ++ [.int l])) = H2
    have k2 : ∀ b o, H1 b = some o → b ≠ g.lv → H2 b = some o := fun b o e n => by rw [← hH2, upd_ne n]; exact e
    have n2 : H2 g.lv = some (.lst ((G ++ [(⟨ps, l⟩ : Sq)]).map fun q => V.int q.lev)) := by rw [← hH2, upd_same, List.map_append]; rfl
    have h3' := k2 _ _ (k1 _ _ h3 ne3) (Ne.symm h6)
    refine ⟨_, rfl, g.p, _, g.dx, _, _, rfl, k2 _ _ (k1 _ _ h1 ne1) ne4, T.cl_Grove, T.na_Grove_parts, fl6_pt g, .inl ⟨rfl, _, SqL.of h3'⟩, _, rfl, g.pt, _, _, rfl, rfl, h3', by rw [List.length_map, lt]; exact lt_ln (by lia), ?_⟩
    generalize hH3 : upd H2 g.pt (.lst (ts.map V.ref ++ [.ref t])) = H3
    have k3 : ∀ b o, H2 b = some o → b ≠ g.pt → H3 b = some o := fun b o e n => by rw [← hH3, upd_ne n]; exact e
    have n3 : H3 g.pt = some (.lst ((ts ++ [t]).map V.ref)) := by rw [← hH3, upd_same, List.map_append]; rfl
    have fr : Fr g H H3 := fun b o e m1 m2 m3 => k3 _ _ (k2 _ _ (k1 _ _ e m3) m1) m2
    have tp : ∀ (c : Addr) (xs : List V), H c = some (.tup xs) → H3 c = some (.tup xs) := fun c xs e => fr _ _ e (ne_of e h2 (by intro z; cases z)) (ne_of e h3 (by intro z; cases z)) (ne_of e h5 (by intro z; cases z))
    refine ⟨_, rfl, k H3 fr ⟨fr _ _ h1 ne4 ne5 ne1, k3 _ _ n2 h6, ⟨ts ++ [t], n3, Paired.snoc (PairedM.imp (fun c q z => tp c _ z) h4) (tp t _ ht)⟩, k3 _ _ (k2 _ _ n1 (Ne.symm ne2)) (Ne.symm ne3), h6⟩⟩
/-- G' goes on from G -/
structure Goes (G G' : Gv) (n : Nat) : Prop where
  ok : GOk G'
  pre : ∃ r, G' = G ++ r
  few : G'.length ≤ G.length + n
theorem Goes.refl {G : Gv} (h : GOk G) : Goes G G 0 := ⟨h, ⟨[], by simp⟩, Nat.le_refl _⟩
theorem Goes.trans {G G' G'' : Gv} {n m : Nat} (h : Goes G G' n) (h2 : Goes G' G'' m) : Goes G G'' (n + m) := by
  obtain ⟨r, e⟩ := h.pre
  obtain ⟨t, e2⟩ := h2.pre
  have f1 := h.few
  have f2 := h2.few
  exact ⟨h2.ok, ⟨r ++ t, by rw [e2, e, List.append_assoc]⟩, by lia⟩
theorem Goes.get {G G' : Gv} {n x : Nat} {q : Sq} (h : Goes G G' n) (e : G[x]? = some q) : G'[x]? = some q := by
  obtain ⟨r, e2⟩ := h.pre
  rw [e2]
  exact get_app e
theorem Goes.lev {G G' : Gv} {n x : Nat} {l : Int} (h : Goes G G' n) (e : LevAt G x l) : LevAt G' x l := by
  obtain ⟨q, e, z⟩ := e
  exact ⟨q, h.get e, z⟩
inductive SpLink (a : Ad) (vs : List V) (H : Hp) (Q : VK) : Prop
  | mk (g : GA) (G : Gv) (t : Addr) (x y z w : Nat) (l : Int) (_ : vs = [.ref g.p, .ref t]) (_ : GroveAt a H g G) (_ : GOk G) (_ : H t = some (.tup [.int x, .int y, .int z, .int w])) (_ : (LevAt G x l ∧ LevAt G y l ∧ LevAt G z l ∧ LevAt G w l)) (_ : l ≤ 47) (_ : G.length < 9000000) (_ : ∀ (n : Nat) (G' : Gv) (H' : Hp), Fr g H H' → GroveAt a H' g G' → Goes G G' 1 → G'[n]? = some ⟨[(x : Int), (y : Int), (z : Int), (w : Int)], l + 1⟩ → Q (.int n) H') : SpLink a vs H Q
def spLink (a : Ad) : Sp := fun vs H Q _ => SpLink a vs H Q
theorem ok_link {f : Addr} {fd : FuncData} (F : Fun K "linked" "Grove.linked" s_Grove_linked f fd) (T : Top K mg a) (M_Grove_kept : CalM P w K mg base CX0 1 a.c_Grove "kept" p_Grove_kept (spKept a)) : FnOk P w K mg base CX0 2 f fd p_Grove_linked (spLink a) := by
  refine F.ok sc_Grove_linked (fun vs H Q E h => ?_) (fun cdv A outer s H vs Q E hr h => ?_)
  · obtain ⟨g, G, t, x, y, z, w, l, rfl, _⟩ := h
    rfl
  · obtain ⟨g, G, t, x, y, z, w, l, rfl, hg, ok, ht, ⟨hx, hy, hz, hw⟩, h47, few, k⟩ := h
    have hg0 := hg
    obtain ⟨h1, h2, ⟨ts, h3, h4⟩, h5, h6⟩ := hg
    refine ⟨_, (@pss_cons _ _ _ _ _ (@ps_set _ _ (2) _ _ _ _ sc_Grove_linked.nd rfl (Or.inl rfl) (@pe_dget1 _ _ _ _ _ _ _ (hu_of hr) (@pe_fld _ _ _ _ _ (pv 0) rfl) (pv 1) ⟨rfl, rfl, rfl, rfl⟩) rfl (by first | exact .inl rfl | exact .inr rfl | assumption)) (@pss_cons _ _ _ _ _ (@ps_if _ _ _ _ _ _ _ _ (@pt_cmpR _ _ _ _ _ _ _ _ (@op_isN _) (pv 2) (@pe_non _ _ _) (nomark _)) (@pss_one _ _ _ (@ps_ret _ _ _ _ (@pe_calm _ _ _ _ _ _ _ _ _ _ _ _ _ _ _ _ (pv 0) M_Grove_kept (rm hr) pass0 (@pa_cons _ _ _ _ _ (pv 1) (@pa_op _ _ _ _ _ _ _ _ _ _ (@op_add _) (@pe_ix _ _ _ _ _ _ _ (@ix_list _) (@pe_fld _ _ _ _ _ (pv 0) rfl) (@pe_ix _ _ _ _ _ _ _ (@ix_tup _) (pv 1) (@pe_int _ _ _ _) (fun _ _ => rfl)) (fun _ _ => rfl)) (@pe_int _ _ _ _) (@pa_nil _)) rfl) rfl rfl rfl))) (@pss_nil _)) (@pss_one _ _ _ (@ps_ret _ _ _ _ (pv 2))))), ?_⟩
    try dsimp only [cxK]
    refine ⟨_, rfl, g.p, _, g.dx, _, _, rfl, h1, T.cl_Grove, T.na_Grove_numbers, fl6_nm g, g.nm, rfl, .inr ⟨_, .inl h5⟩, _, rfl, _, DGet.t (k := kOf [(x : Int), (y : Int), (z : Int), (w : Int)]) h5 (by rw [kOf_v]; exact ht), ?_⟩
    rcases kv_look [(x : Int), (y : Int), (z : Int), (w : Int)] G 0 with ⟨i, q, e1, e2, e3⟩ | ⟨e, new⟩
    · rw [e3]
      refine ⟨_, rfl, rfl, _, rfl, iteF ⟨_, rfl, ?_⟩⟩
      rw [Nat.zero_add]
      refine k i G H (Fr.refl g H) hg0 ⟨ok, ⟨[], by simp⟩, by lia⟩ ?_
      have h8 : 8 ≤ i := by
        refine Nat.le_of_not_lt fun z' => ?_
        rw [ok.leaf i z'] at e1
        cases e1
        cases e2
      obtain ⟨x', y', z', w', p1, ⟨lx, _⟩, _⟩ := ok.node i q e1 h8
      have exx : x' = x := by
        rw [p1] at e2
        injection e2 with e2 _
        exact Int.ofNat.inj e2
      rw [exx] at lx
      obtain ⟨qa, a1, a2⟩ := lx
      obtain ⟨qb, b1, b2⟩ := hx
      rw [a1] at b1
      cases b1
      have el : q.lev = l + 1 := by lia
      rw [e1]
      cases q with
      | mk pp ll => cases e2; cases el; rfl
    · rw [e]
      refine ⟨_, rfl, rfl, _, rfl, iteT ?_⟩
      obtain ⟨q, e1, e2⟩ := id hx
      refine ⟨_, rfl, g.p, g.dx, _, rfl, h1, no_kept g, _, rfl, _, rfl, g.p, _, g.dx, _, _, rfl, h1, T.cl_Grove, T.na_Grove_levels, fl6_lv g, _, rfl, t, _, 0, .int x, rfl, rfl, SqT.of ht, atI_nat (j := 0) rfl, g.lv, _, (x : Int), .int q.lev, rfl, rfl, SqL.of h2, atI_nat (by rw [List.getElem?_map, e1]; rfl), _, _, rfl, rfl, ?_⟩
      refine ⟨g, G, t, [(x : Int), (y : Int), (z : Int), (w : Int)], l + 1, by rw [← e2]; rfl, hg0, ht, new, few, fun H' fr hg' => ?_⟩
      refine k G.length _ H' fr hg' ⟨ok.snoc hx hy hz hw h47 new, ⟨_, rfl⟩, by rw [List.length_append]; exact Nat.le_refl _⟩ ?_
      rw [List.getElem?_append_right (Nat.le_refl _), Nat.sub_self]
      rfl
/-! ### questions -/
inductive SpChk (a : Ad) (vs : List V) (H : Hp) (Q : VK) : Prop
  | mk (g : GA) (G : Gv) (i : Nat) (_ : vs = [.ref g.p, .int i]) (_ : GroveAt a H g G) (_ : i < G.length) (_ : Q .non H) : SpChk a vs H Q
def spChk (a : Ad) : Sp := fun vs H Q _ => SpChk a vs H Q
theorem ok_chk {f : Addr} {fd : FuncData} (F : Fun K "check_square" "Grove.check_square" s_Grove_check_square f fd) (T : Top K mg a) (C_is_whole : Cal P w K mg base CX0 1 "is_whole" p_is_whole spIW) : FnOk P w K mg base CX0 2 f fd p_Grove_check_square (spChk a) := by
  refine F.ok sc_Grove_check_square (fun vs H Q E h => ?_) (fun cdv A outer s H vs Q E hr h => ?_)
  · obtain ⟨g, G, i, rfl, _⟩ := h
    rfl
  · obtain ⟨g, G, i, rfl, hg, hi, k⟩ := h
    refine ⟨_, (@pss_one _ _ _ (@ps_if _ _ _ _ _ _ _ _ (@PW.pt _ _ _ (@pw_or _ _ _ _ _ _ _ (@pt_not _ _ _ _ (@pt_val _ _ _ (@pe_cal _ _ _ _ _ _ _ _ _ _ _ _ C_is_whole (rm hr) rfl pass0 (@pa_cons _ _ _ _ _ (pv 1) (@pa_nil _) rfl) (by decide) rfl rfl) (by intro _ ; rfl))) (@pw_or1 _ _ _ _ (@pt_not _ _ _ _ (@pt_chain _ _ _ _ _ _ _ _ _ _ _ _ (@op_le _) (@op_lt _) (@pe_int _ _ _ _) (pv 1) (@pe_callB _ _ _ _ _ _ _ _ _ (@call_len_seq _) rfl T.b_len PySem.boot_len (@pa_cons _ _ _ _ _ (@pe_fld _ _ _ _ _ (pv 0) rfl) (@pa_nil _) rfl) (by decide) (by decide) rfl rfl) (by with_unfolding_all rfl)))))) (@pss_one _ _ _ (@ps_never _ _)) (@pss_nil _))), ?_⟩
    try dsimp only [cxK]
    refine ⟨_, rfl, _, rfl, true, rfl, iteF ⟨_, rfl, _, _, rfl, rfl, _, rfl, ?_⟩⟩
    rw [decide_eq_true (by lia : (0 : Int) ≤ (i : Int))]
    refine iteT ⟨_, rfl, g.p, _, g.dx, _, _, rfl, hg.hp, T.cl_Grove, T.na_Grove_levels, fl6_lv g, g.lv, _, rfl, .inl (SqL.of hg.lv), _, _, rfl, rfl, _, rfl, ?_⟩
    rw [List.length_map, decide_eq_true (by lia : (i : Int) < (G.length : Int))]
    exact iteF k
inductive SpLeaf (a : Ad) (vs : List V) (H : Hp) (Q : VK) : Prop
  | mk (p : Addr) (i : Int) (_ : vs = [.ref p, .int i]) (_ : 0 ≤ i) (_ : i < 8) (_ : Q (.int i) H) : SpLeaf a vs H Q
def spLeaf (a : Ad) : Sp := fun vs H Q _ => SpLeaf a vs H Q
theorem ok_leaf {f : Addr} {fd : FuncData} (F : Fun K "leaf" "Grove.leaf" s_Grove_leaf f fd) (T : Top K mg a) (C_is_state : Cal P w K mg base CX0 2 "is_state" p_is_state spIS) : FnOk P w K mg base CX0 3 f fd p_Grove_leaf (spLeaf a) := by
  refine F.ok sc_Grove_leaf (fun vs H Q E h => ?_) (fun cdv A outer s H vs Q E hr h => ?_)
  · obtain ⟨g, i, rfl, _⟩ := h
    rfl
  · obtain ⟨g, i, rfl, h0, h1, k⟩ := h
    exact ⟨_, (@pss_cons _ _ _ _ _ (@ps_if _ _ _ _ _ _ _ _ (@pt_not _ _ _ _ (@pt_val _ _ _ (@pe_cal _ _ _ _ _ _ _ _ _ _ _ _ C_is_state (rm hr) rfl pass0 (@pa_cons _ _ _ _ _ (pv 1) (@pa_nil _) rfl) (by decide) rfl rfl) (by intro _ ; rfl))) (@pss_one _ _ _ (@ps_never _ _)) (@pss_nil _)) (@pss_one _ _ _ (@ps_ret _ _ _ _ (pv 1)))), _, rfl, i, rfl, h0, h1, true, rfl, iteF ⟨_, rfl, k⟩⟩
inductive SpLev (a : Ad) (vs : List V) (H : Hp) (Q : VK) : Prop
  | mk (g : GA) (G : Gv) (i : Nat) (q : Sq) (_ : vs = [.ref g.p, .int i]) (_ : GroveAt a H g G) (_ : G[i]? = some q) (_ : Q (.int q.lev) H) : SpLev a vs H Q
def spLev (a : Ad) : Sp := fun vs H Q _ => SpLev a vs H Q
theorem ok_lev {f : Addr} {fd : FuncData} (F : Fun K "level_of" "Grove.level_of" s_Grove_level_of f fd) (T : Top K mg a) (M_Grove_check_square : CalM P w K mg base CX0 2 a.c_Grove "check_square" p_Grove_check_square (spChk a)) : FnOk P w K mg base CX0 3 f fd p_Grove_level_of (spLev a) := by
  refine F.ok sc_Grove_level_of (fun vs H Q E h => ?_) (fun cdv A outer s H vs Q E hr h => ?_)
  · obtain ⟨g, G, i, q, rfl, _⟩ := h
    rfl
  · obtain ⟨g, G, i, q, rfl, hg, hi, k⟩ := h
    refine ⟨_, (@pss_cons _ _ _ _ _ (@ps_expr _ _ _ _ (@pe_calm _ _ _ _ _ _ _ _ _ _ _ _ _ _ _ _ (pv 0) M_Grove_check_square (rm hr) pass0 (@pa_cons _ _ _ _ _ (pv 1) (@pa_nil _) rfl) rfl rfl rfl) rfl) (@pss_one _ _ _ (@ps_ret _ _ _ _ (@pe_ix _ _ _ _ _ _ _ (@ix_list _) (@pe_fld _ _ _ _ _ (pv 0) rfl) (pv 1) (fun _ _ => rfl))))), ?_⟩
    try dsimp only [cxK]
    refine ⟨_, rfl, g.p, g.dx, _, rfl, hg.hp, no_check g, _, rfl, g, G, i, rfl, hg, (List.getElem?_eq_some_iff.mp hi).1, ?_⟩
    exact ⟨_, rfl, g.p, _, g.dx, _, _, rfl, hg.hp, T.cl_Grove, T.na_Grove_levels, fl6_lv g, _, rfl, g.lv, _, (i : Int), .int q.lev, rfl, rfl, SqL.of hg.lv, atI_nat (by rw [List.getElem?_map, hi]; rfl), k⟩
inductive SpQua (a : Ad) (vs : List V) (H : Hp) (Q : VK) : Prop
  | mk (g : GA) (G : Gv) (i : Nat) (q : Sq) (_ : vs = [.ref g.p, .int i]) (_ : GroveAt a H g G) (_ : G[i]? = some q) (_ : q.lev ≠ 0) (_ : ∀ t, H t = some (.tup (q.parts.map V.int)) → Q (.ref t) H) : SpQua a vs H Q
def spQua (a : Ad) : Sp := fun vs H Q _ => SpQua a vs H Q
theorem ok_qua {f : Addr} {fd : FuncData} (F : Fun K "quarters" "Grove.quarters" s_Grove_quarters f fd) (T : Top K mg a) (M_Grove_level_of : CalM P w K mg base CX0 3 a.c_Grove "level_of" p_Grove_level_of (spLev a)) : FnOk P w K mg base CX0 4 f fd p_Grove_quarters (spQua a) := by
  refine F.ok sc_Grove_quarters (fun vs H Q E h => ?_) (fun cdv A outer s H vs Q E hr h => ?_)
  · obtain ⟨g, G, i, q, rfl, _⟩ := h
    rfl
  · obtain ⟨g, G, i, q, rfl, hg, hi, h0, k⟩ := h
    refine ⟨_, (@pss_cons _ _ _ _ _ (@ps_if _ _ _ _ _ _ _ _ (@pt_cmpR _ _ _ _ _ _ _ _ (@op_eq _) (@pe_calm _ _ _ _ _ _ _ _ _ _ _ _ _ _ _ _ (pv 0) M_Grove_level_of (rm hr) pass0 (@pa_cons _ _ _ _ _ (pv 1) (@pa_nil _) rfl) rfl rfl rfl) (@pe_int _ _ _ _) (nomark _)) (@pss_one _ _ _ (@ps_never _ _)) (@pss_nil _)) (@pss_one _ _ _ (@ps_ret _ _ _ _ (@pe_ix _ _ _ _ _ _ _ (@ix_list _) (@pe_fld _ _ _ _ _ (pv 0) rfl) (pv 1) (fun _ _ => rfl))))), ?_⟩
    try dsimp only [cxK]
    refine ⟨_, rfl, g.p, g.dx, _, rfl, hg.hp, no_levelOf g, _, rfl, g, G, i, q, rfl, hg, hi, rfl, _, rfl, ?_⟩
    rw [decide_eq_false (by intro z; injection z with z; exact h0 z)]
    obtain ⟨ts, h3, h4⟩ := hg.pt
    obtain ⟨t, et, ht⟩ := PairedM.get h4 hi
    exact iteF ⟨_, rfl, g.p, _, g.dx, _, _, rfl, hg.hp, T.cl_Grove, T.na_Grove_parts, fl6_pt g, _, rfl, g.pt, _, (i : Int), .ref t, rfl, rfl, SqL.of h3, atI_nat (by rw [List.getElem?_map, et]; rfl), k t ht⟩
end
end J

set_option maxHeartbeats 200000
set_option Elab.async false
set_option linter.all false
set_option maxRecDepth 100000
set_option maxHeartbeats 1000000
/-! The grove: four joined, solid squares. -/
namespace J
open PySem L2
/-- the square n is solid: of level l, of state s -/
def Sol (G : Gv) (s : Nat) : Nat → Nat → Prop
  | 0, n => n = s
  | l + 1, n => ∃ m : Nat, Sol G s l m ∧ G[n]? = some ⟨[(m : Int), (m : Int), (m : Int), (m : Int)], (l : Int) + 1⟩
theorem Sol.lev {G : Gv} (h : GOk G) {s : Nat} (hs : s < 8) : ∀ {l n : Nat}, Sol G s l n → LevAt G n l
  | 0, n, e => by
    have e : n = s := e
    subst e
    exact ⟨_, h.leaf n hs, rfl⟩
  | l + 1, n, e => by
    obtain ⟨m, _, e⟩ := e
    exact ⟨_, e, rfl⟩
theorem Sol.goes {G G' : Gv} {k : Nat} (h : Goes G G' k) {s : Nat} : ∀ {l n : Nat}, Sol G s l n → Sol G' s l n
  | 0, n, e => e
  | l + 1, n, e => by
    obtain ⟨m, e1, e2⟩ := e
    exact ⟨m, Sol.goes h e1, h.get e2⟩
section
variable {P : Program} {w : World} {K : PySem.W.Frag} {mg : Str → Option Value} {base : Heap} {a : Ad}
inductive SpJoin (a : Ad) (vs : List V) (H : Hp) (Q : VK) : Prop
  | mk (g : GA) (G : Gv) (x y z w : Nat) (l : Int) (_ : vs = [.ref g.p, .int x, .int y, .int z, .int w]) (_ : GroveAt a H g G) (_ : GOk G) (_ : (LevAt G x l ∧ LevAt G y l ∧ LevAt G z l ∧ LevAt G w l)) (_ : l ≤ 47) (_ : G.length < 9000000) (_ : ∀ (n : Nat) (G' : Gv) (H' : Hp), Fr g H H' → GroveAt a H' g G' → Goes G G' 1 → G'[n]? = some ⟨[(x : Int), (y : Int), (z : Int), (w : Int)], l + 1⟩ → Q (.int n) H') : SpJoin a vs H Q
def spJoin (a : Ad) : Sp := fun vs H Q _ => SpJoin a vs H Q
theorem ok_join {f : Addr} {fd : FuncData} (F : Fun K "joined" "Grove.joined" s_Grove_joined f fd) (T : Top K mg a) (M_Grove_check_square : CalM P w K mg base CX0 2 a.c_Grove "check_square" p_Grove_check_square (spChk a)) (M_Grove_linked : CalM P w K mg base CX0 2 a.c_Grove "linked" p_Grove_linked (spLink a)) : FnOk P w K mg base CX0 4 f fd p_Grove_joined (spJoin a) := by
  refine F.ok sc_Grove_joined (fun vs H Q E h => ?_) (fun cdv A outer s H vs Q E hr h => ?_)
  · obtain ⟨g, G, x, y, z, w, l, rfl, _⟩ := h
    rfl
  · obtain ⟨g, G, x, y, z, w, l, rfl, hg, ok, ⟨hx, hy, hz, hw⟩, h47, few, k⟩ := h
    refine ⟨_, (@pss_cons _ _ _ _ _ (@ps_for _ _ _ _ _ _ _ _ PassesOwn.never rfl (@pi_tup _ _ _ _ (@pe_tup _ _ _ _ _ (@pa_cons _ _ _ _ _ (pv 1) (@pa_cons _ _ _ _ _ (pv 2) (@pa_cons _ _ _ _ _ (pv 3) (@pa_cons _ _ _ _ _ (pv 4) (@pa_nil _) rfl) rfl) rfl) rfl))) (@pg_name _ _ (5) _ sc_Grove_joined.nd rfl (Or.inl rfl) (by first | exact .inl rfl | exact .inr rfl | assumption)) (@pss_one _ _ _ (@ps_expr _ _ _ _ (@pe_calm _ _ _ _ _ _ _ _ _ _ _ _ _ _ _ _ (pv 0) M_Grove_check_square (rm hr) pass0 (@pa_cons _ _ _ _ _ (pv 5) (@pa_nil _) rfl) rfl rfl rfl) rfl)) (by intro _ ; rfl)) (@pss_cons _ _ _ _ _ (@ps_set _ _ (6) _ _ _ _ sc_Grove_joined.nd rfl (Or.inr rfl) (@pe_ix _ _ _ _ _ _ _ (@ix_list _) (@pe_fld _ _ _ _ _ (pv 0) rfl) (pv 1) (fun _ _ => rfl)) rfl (by first | exact .inl rfl | exact .inr rfl | assumption)) (@pss_cons _ _ _ _ _ (@ps_if _ _ _ _ _ _ _ _ (@PW.pt _ _ _ (@pw_or _ _ _ _ _ _ _ (@pt_cmpR _ _ _ _ _ _ _ _ (@op_eq _) (pv 6) (@pe_gint _ _ _ _ rfl T.k_TOP_LEVEL (by decide)) (nomark _)) (@pw_or1 _ _ _ _ (@pt_val _ _ _ (@pe_callB _ _ _ _ _ _ _ _ _ (@call_any _ rfl) rfl T.b_any PyProof.Rows.boot_any (@pa_cons _ _ _ _ _ (@pe_comp _ _ _ _ _ _ _ _ _ _ _ _ _ _ rfl (@CScope.of _ ((defScope s_Grove_joined)) (n_Grove_joined) _ (["square", "self", "level"]) (1) ([0, 6]) rfl rfl (by decide +kernel)) (@pi_tup _ _ _ _ (@pe_tup _ _ _ _ _ (@pa_cons _ _ _ _ _ (pv 2) (@pa_cons _ _ _ _ _ (pv 3) (@pa_cons _ _ _ _ _ (pv 4) (@pa_nil _) rfl) rfl) rfl))) (fun _ _ _ => (@pgc_name _ _ _ _ _ _ _ _ (0) (by decide +kernel) rfl rfl)) (fun _ _ _ => (@pts_nil _)) (fun _ _ _ => (@pe_cmpR _ _ _ _ _ _ _ _ (@op_ne _) (@pe_ix _ _ _ _ _ _ _ (@ixc_list _ (K) rfl) (@pe_fldK _ (K) _ _ _ _ rfl (pv 1) rfl) (pv 0) (fun _ _ => rfl)) (pv 2) (nomark _))) (by intro _ ; rfl)) (@pa_nil _) rfl) (by decide) (by decide) rfl rfl) (by intro _ ; rfl))))) (@pss_one _ _ _ (@ps_never _ _)) (@pss_nil _)) (@pss_one _ _ _ (@ps_ret _ _ _ _ (@pe_calm _ _ _ _ _ _ _ _ _ _ _ _ _ _ _ _ (pv 0) M_Grove_linked (rm hr) pass0 (@pa_tup _ _ _ _ _ _ _ (@pa_cons _ _ _ _ _ (pv 1) (@pa_cons _ _ _ _ _ (pv 2) (@pa_cons _ _ _ _ _ (pv 3) (@pa_cons _ _ _ _ _ (pv 4) (@pa_nil _) rfl) rfl) rfl) rfl) (@pa_nil _)) rfl rfl rfl)))))), ?_⟩
    try dsimp only [cxK]
    refine ⟨_, rfl, _, rfl, _, rfl, _, rfl, (by show 4 ≤ sizeLine; decide), fun t1 ht1 => ⟨t1, rfl, ⟨_, SqT.of upd_same⟩, ?_⟩⟩
    have s1 := same_up (o := .tup [.int x, .int y, .int z, .int w]) ht1
    have ht1' : upd H t1 (.tup [.int x, .int y, .int z, .int w]) t1 = some (.tup [.int x, .int y, .int z, .int w]) := upd_same
    generalize upd H t1 (.tup [.int x, .int y, .int z, .int w]) = H1 at s1 ht1' ⊢
    have hg1 := hg.same s1
    have mem : ∀ (i : Nat) v, [V.int (x : Int), V.int (y : Int), V.int (z : Int), V.int (w : Int)][i]? = some v → ∃ n : Nat, v = .int n ∧ n < G.length := fun i v e => by
      have := List.mem_of_getElem? e
      simp only [List.mem_cons, List.not_mem_nil, or_false] at this
      rcases this with rfl | rfl | rfl | rfl
      · exact ⟨x, rfl, hx.lt⟩
      · exact ⟨y, rfl, hy.lt⟩
      · exact ⟨z, rfl, hz.lt⟩
      · exact ⟨w, rfl, hw.lt⟩
    refine for_tup (xs := [.int x, .int y, .int z, .int w]) (fun i σ H2 => H1 = H2 ∧ ∃ u5 : Option V, σ = [some (.ref g.p), some (.int x), some (.int y), some (.int z), some (.int w), u5, none]) ⟨rfl, none, rfl⟩ (fun i σ H2 _ q => q.1 ▸ SqT.of ht1') ?_ ?_
    · rintro i v σ H2 ev ⟨rfl, u5, rfl⟩
      obtain ⟨n, rfl, hn⟩ := mem i v ev
      exact ⟨_, rfl, g.p, g.dx, _, rfl, hg1.hp, no_check g, _, rfl, g, G, n, rfl, hg1, hn, rfl, _, rfl⟩
    · rintro σ H2 ⟨rfl, u5, rfl⟩
      obtain ⟨qx, ex, lx⟩ := id hx
      refine ⟨_, rfl, g.p, _, g.dx, _, _, rfl, hg1.hp, T.cl_Grove, T.na_Grove_levels, fl6_lv g, _, rfl, g.lv, _, (x : Int), .int qx.lev, rfl, rfl, SqL.of hg1.lv, atI_nat (by rw [List.getElem?_map, ex]; rfl), ?_⟩
      rw [lx]
      refine ⟨_, rfl, rfl, _, rfl, ?_⟩
      rw [decide_eq_false (by intro z; injection z with z; lia)]
      refine iteF ⟨_, rfl, _, rfl, _, rfl, (by show 3 ≤ sizeLine; decide), fun t2 ht2 => ⟨t2, rfl, ⟨_, SqT.of upd_same⟩, ?_⟩⟩
      have s2 := same_up (o := .tup [.int y, .int z, .int w]) ht2
      have ht2' : upd H1 t2 (.tup [.int y, .int z, .int w]) t2 = some (.tup [.int y, .int z, .int w]) := upd_same
      generalize upd H1 t2 (.tup [.int y, .int z, .int w]) = H2 at s2 ht2' ⊢
      have hg2 := hg1.same s2
      have mem2 : ∀ (i : Nat) v, [V.int (y : Int), V.int (z : Int), V.int (w : Int)][i]? = some v → ∃ (n : Nat) (q : Sq), v = .int n ∧ G[n]? = some q ∧ q.lev = l := fun i v e => by
        have := List.mem_of_getElem? e
        simp only [List.mem_cons, List.not_mem_nil, or_false] at this
        rcases this with rfl | rfl | rfl
        · obtain ⟨q, e1, e2⟩ := hy; exact ⟨y, q, rfl, e1, e2⟩
        · obtain ⟨q, e1, e2⟩ := hz; exact ⟨z, q, rfl, e1, e2⟩
        · obtain ⟨q, e1, e2⟩ := hw; exact ⟨w, q, rfl, e1, e2⟩
      refine blk_tup (xs := [.int y, .int z, .int w]) (fun i acc H4 => H2 = H4 ∧ acc = (List.replicate i false).map V.bl ∧ i ≤ 3) ⟨rfl, rfl, by lia⟩ (fun i acc H4 _ z => z.1 ▸ SqT.of ht2') ?_ ?_
      · rintro i v acc H4 ev ⟨rfl, rfl, h3⟩
        obtain ⟨n, q, rfl, en, lq⟩ := mem2 i v ev
        have hi : i < 3 := (List.getElem?_eq_some_iff.mp ev).1
        refine ⟨⟨[some (.int n)], rfl, rfl⟩, by rw [List.length_map, List.length_replicate]; exact lt_ln (by lia), tyes ⟨_, rfl, g.p, _, g.dx, _, _, rfl, hg2.hp, T.cl_Grove, T.na_Grove_levels, fl6_lv g, _, rfl, g.lv, _, (n : Int), .int q.lev, rfl, rfl, SqL.of hg2.lv, atI_nat (by rw [List.getElem?_map, en]; rfl), _, rfl, rfl, rfl, ?_, hi⟩⟩
        rw [lq, decide_eq_true rfl, List.replicate_succ', List.map_append]
        rfl
      · rintro acc H4 ⟨rfl, rfl, _⟩ q hq
        refine ⟨q, List.replicate 3 false, rfl, SqL.of upd_same, _, rfl, iteF ?_⟩
        have s3 := same_up (o := .lst ((List.replicate 3 false).map V.bl)) hq
        refine ⟨_, rfl, g.p, g.dx, _, rfl, (hg2.same s3).hp, no_linked g, _, rfl, _, rfl, _, rfl, _, rfl, (by show 4 ≤ sizeLine; decide), fun t4 ht4 => ?_⟩
        have s4 := s3.trans (same_up (o := .tup [.int x, .int y, .int z, .int w]) ht4)
        exact ⟨g, G, t4, x, y, z, w, l, rfl, hg2.same s4, ok, upd_same, ⟨hx, hy, hz, hw⟩, h47, few, fun n G' H' fr hg' go e => k n G' H' ((Same.fr (s1.trans (s2.trans s4))).trans fr) hg' go e⟩
inductive SpSolid (a : Ad) (vs : List V) (H : Hp) (Q : VK) : Prop
  | mk (g : GA) (G : Gv) (l s : Nat) (_ : vs = [.ref g.p, .int l, .int s]) (_ : GroveAt a H g G) (_ : GOk G) (_ : l ≤ 48) (_ : s < 8) (_ : G.length < 8000000) (_ : ∀ (n : Nat) (G' : Gv) (H' : Hp), Fr g H H' → GroveAt a H' g G' → Goes G G' l → Sol G' s l n → Q (.int n) H') : SpSolid a vs H Q
def spSolid (a : Ad) : Sp := fun vs H Q _ => SpSolid a vs H Q
theorem ok_solid {f : Addr} {fd : FuncData} (F : Fun K "solid" "Grove.solid" s_Grove_solid f fd) (T : Top K mg a) (C_is_whole : Cal P w K mg base CX0 1 "is_whole" p_is_whole spIW) (M_Grove_leaf : CalM P w K mg base CX0 3 a.c_Grove "leaf" p_Grove_leaf (spLeaf a)) (M_Grove_linked : CalM P w K mg base CX0 2 a.c_Grove "linked" p_Grove_linked (spLink a)) : FnOk P w K mg base CX0 4 f fd p_Grove_solid (spSolid a) := by
  refine F.ok sc_Grove_solid (fun vs H Q E h => ?_) (fun cdv A outer s H vs Q E hr h => ?_)
  · obtain ⟨g, G, l, s, rfl, _⟩ := h
    rfl
  · obtain ⟨g, G, l, st, rfl, hg, ok, h48, h8, few, k⟩ := h
    refine ⟨_, (@pss_cons _ _ _ _ _ (@ps_if _ _ _ _ _ _ _ _ (@PW.pt _ _ _ (@pw_or _ _ _ _ _ _ _ (@pt_not _ _ _ _ (@pt_val _ _ _ (@pe_cal _ _ _ _ _ _ _ _ _ _ _ _ C_is_whole (rm hr) rfl pass0 (@pa_cons _ _ _ _ _ (pv 1) (@pa_nil _) rfl) (by decide) rfl rfl) (by intro _ ; rfl))) (@pw_or1 _ _ _ _ (@pt_not _ _ _ _ (@pt_chain _ _ _ _ _ _ _ _ _ _ _ _ (@op_le _) (@op_le _) (@pe_int _ _ _ _) (pv 1) (@pe_gint _ _ _ _ rfl T.k_TOP_LEVEL (by decide)) (by with_unfolding_all rfl)))))) (@pss_one _ _ _ (@ps_never _ _)) (@pss_nil _)) (@pss_cons _ _ _ _ _ (@ps_set _ _ (3) _ _ _ _ sc_Grove_solid.nd rfl (Or.inl rfl) (@pe_calm _ _ _ _ _ _ _ _ _ _ _ _ _ _ _ _ (pv 0) M_Grove_leaf (rm hr) pass0 (@pa_cons _ _ _ _ _ (pv 2) (@pa_nil _) rfl) rfl rfl rfl) rfl (by first | exact .inl rfl | exact .inr rfl | assumption)) (@pss_cons _ _ _ _ _ (@ps_for _ _ _ _ _ _ _ _ PassesOwn.never rfl (@pi_range1 _ _ _ _ _ _ rfl T.b_range (@pa_cons _ _ _ _ _ (pv 1) (@pa_nil _) rfl) rfl) (@pg_name _ _ (4) _ sc_Grove_solid.nd rfl (Or.inl rfl) (by first | exact .inl rfl | exact .inr rfl | assumption)) (@pss_one _ _ _ (@ps_set _ _ (3) _ _ _ _ sc_Grove_solid.nd rfl (Or.inl rfl) (@pe_calm _ _ _ _ _ _ _ _ _ _ _ _ _ _ _ _ (pv 0) M_Grove_linked (rm hr) pass0 (@pa_tup _ _ _ _ _ _ _ (@pa_cons _ _ _ _ _ (pv 3) (@pa_cons _ _ _ _ _ (pv 3) (@pa_cons _ _ _ _ _ (pv 3) (@pa_cons _ _ _ _ _ (pv 3) (@pa_nil _) rfl) rfl) rfl) rfl) (@pa_nil _)) rfl rfl rfl) rfl (by first | exact .inl rfl | exact .inr rfl | assumption))) (by intro _ ; rfl)) (@pss_one _ _ _ (@ps_ret _ _ _ _ (pv 3)))))), ?_⟩
    try dsimp only [cxK]
    refine ⟨_, rfl, _, rfl, true, rfl, iteF ⟨_, rfl, _, _, rfl, rfl, _, rfl, ?_⟩⟩
    rw [decide_eq_true (by lia : (0 : Int) ≤ (l : Int))]
    refine iteT ⟨_, _, rfl, rfl, _, rfl, ?_⟩
    rw [decide_eq_true (by lia : (l : Int) ≤ (48 : Int))]
    refine iteF ⟨_, rfl, g.p, g.dx, _, rfl, hg.hp, no_leaf g, _, rfl, g.p, (st : Int), rfl, by lia, by lia, ?_⟩
    refine ⟨_, rfl, _, rfl, by lia, by lia, ?_⟩
    rw [Int.toNat_natCast]
    refine for_range (n := l) (fun i σ H2 => ∃ (G' : Gv) (m : Nat) (u4 : Option V), σ = [some (.ref g.p), some (.int l), some (.int st), some (.int m), u4] ∧ Fr g H H2 ∧ GroveAt a H2 g G' ∧ Goes G G' i ∧ Sol G' st i m) ⟨G, st, none, rfl, Fr.refl g H, hg, Goes.refl ok, rfl⟩ ?_ ?_
    · rintro i σ H2 hi ⟨G', m, u4, rfl, fr, hg2, go, so⟩
      have lf := go.few
      have lm := Sol.lev go.ok h8 so
      refine ⟨_, rfl, g.p, g.dx, _, rfl, hg2.hp, no_linked g, _, rfl, _, rfl, _, rfl, _, rfl, (by show 4 ≤ sizeLine; decide), fun t ht => ?_⟩
      have s3 := same_up (o := .tup [.int m, .int m, .int m, .int m]) ht
      refine ⟨g, G', t, m, m, m, m, (i : Int), rfl, hg2.same s3, go.ok, upd_same, ⟨lm, lm, lm, lm⟩, by lia, by lia, fun n G'' H' fr' hg' go' e => ?_⟩
      exact ⟨G'', n, _, rfl, (fr.trans (Same.fr s3)).trans fr', hg', go.trans go', m, Sol.goes go' so, e⟩
    · rintro σ H2 ⟨G', m, u4, rfl, fr, hg2, go, so⟩
      exact ⟨_, rfl, k m G' H2 fr hg2 go so⟩
end
end J

set_option maxHeartbeats 200000
set_option Elab.async false
set_option linter.all false
set_option maxRecDepth 100000
set_option maxHeartbeats 1000000
/-! A new grove. -/
namespace J
open PySem L2
def bareN : Nat → Nat
  | 0 => 0
  | j + 1 => 8 + j
def leafs (n : Nat) : Gv := (List.range n).map fun (s : Nat) => (⟨[(s : Int)], 0⟩ : Sq)
def bares (n : Nat) : Gv := (List.range n).map fun (j : Nat) => (⟨[(bareN j : Int), (bareN j : Int), (bareN j : Int), (bareN j : Int)], (j : Int) + 1⟩ : Sq)
def G0 : Gv := leafs 8 ++ bares 48
theorem leafs_succ (n : Nat) : leafs (n + 1) = leafs n ++ [⟨[(n : Int)], 0⟩] := by unfold leafs; rw [List.range_succ, List.map_append]; rfl
theorem bares_succ (n : Nat) : bares (n + 1) = bares n ++ [⟨[(bareN n : Int), (bareN n : Int), (bareN n : Int), (bareN n : Int)], (n : Int) + 1⟩] := by unfold bares; rw [List.range_succ, List.map_append]; rfl
theorem leafs_len (n : Nat) : (leafs n).length = n := by unfold leafs; rw [List.length_map, List.length_range]
theorem bares_len (n : Nat) : (bares n).length = n := by unfold bares; rw [List.length_map, List.length_range]
theorem bareN_inj {i j : Nat} (h : bareN i = bareN j) : i = j := by
  cases i <;> cases j
  · rfl
  · have : 0 = 8 + _ := h; lia
  · have : 8 + _ = 0 := h; lia
  · have : 8 + _ = 8 + _ := h; lia
theorem leafs_new (n : Nat) : ∀ q ∈ leafs n, q.parts ≠ [(n : Int)] := fun q hq z => by
  obtain ⟨s, hs, rfl⟩ := List.mem_map.mp hq
  have := List.mem_range.mp hs
  injection z with z _
  have : s = n := Int.ofNat.inj z
  lia
theorem bares_new (n : Nat) : ∀ q ∈ leafs 8 ++ bares n, q.parts ≠ [(bareN n : Int), (bareN n : Int), (bareN n : Int), (bareN n : Int)] := fun q hq z => by
  rcases List.mem_append.mp hq with hq | hq
  · obtain ⟨s, hs, rfl⟩ := List.mem_map.mp hq
    cases z
  · obtain ⟨s, hs, rfl⟩ := List.mem_map.mp hq
    have := List.mem_range.mp hs
    injection z with z _
    have := bareN_inj (Int.ofNat.inj z)
    lia
theorem g0_len : G0.length = 56 := by unfold G0; rw [List.length_append, leafs_len, bares_len]
theorem g0_bare (j : Nat) (h : j < 48) : G0[8 + j]? = some ⟨[(bareN j : Int), (bareN j : Int), (bareN j : Int), (bareN j : Int)], (j : Int) + 1⟩ := by
  unfold G0
  rw [List.getElem?_append_right (by rw [leafs_len]; lia), leafs_len, show 8 + j - 8 = j by lia]
  unfold bares
  rw [List.getElem?_map, List.getElem?_range h]
  rfl
theorem g0_leaf (s : Nat) (h : s < 8) : G0[s]? = some ⟨[(s : Int)], 0⟩ := by
  unfold G0
  rw [List.getElem?_append_left (by rw [leafs_len]; exact h)]
  unfold leafs
  rw [List.getElem?_map, List.getElem?_range h]
  rfl
theorem g0_lev (j : Nat) (h : j ≤ 48) : LevAt G0 (bareN j) (j : Int) := by
  cases j with
  | zero => exact ⟨_, g0_leaf 0 (by decide), rfl⟩
  | succ j => exact ⟨_, g0_bare j (by lia), rfl⟩
theorem g0_nd : ∀ n, ((leafs 8 ++ bares n).map Sq.parts).Nodup
  | 0 => by decide
  | n + 1 => by
    rw [bares_succ, ← List.append_assoc, List.map_append, List.nodup_append]
    refine ⟨g0_nd n, by simp, fun p hp p' hp' => ?_⟩
    obtain ⟨q, hq, rfl⟩ := List.mem_map.mp hp
    rw [show p' = [(bareN n : Int), (bareN n : Int), (bareN n : Int), (bareN n : Int)] by simpa using hp']
    exact bares_new n q hq
theorem g0_ok : GOk G0 where
  leaf := g0_leaf
  node := fun i q e h8 => by
    have hi : i < 56 := by rw [← g0_len]; exact (List.getElem?_eq_some_iff.mp e).1
    obtain ⟨j, rfl⟩ : ∃ j, i = 8 + j := ⟨i - 8, by lia⟩
    rw [g0_bare j (by lia)] at e
    cases e
    have := g0_lev j (by lia)
    refine ⟨bareN j, bareN j, bareN j, bareN j, rfl, ?_, ?_, ?_⟩
    · show LevAt G0 _ ((j : Int) + 1 - 1) ∧ LevAt G0 _ ((j : Int) + 1 - 1) ∧ LevAt G0 _ ((j : Int) + 1 - 1) ∧ LevAt G0 _ ((j : Int) + 1 - 1)
      rw [show (j : Int) + 1 - 1 = (j : Int) by lia]
      exact ⟨this, this, this, this⟩
    · show 1 ≤ (j : Int) + 1; lia
    · show (j : Int) + 1 ≤ 48; lia
  nd := g0_nd 48
/-- what a new grove knows of amounts: those of the leaves -/
def amK (n : Nat) : List (Key × V) := (List.range n).map fun (s : Nat) => (Sum.inl (s : Int), V.int (if (1 : Int) < (s : Int) then 1 else (s : Int)))
theorem amK_succ (n : Nat) : amK (n + 1) = amK n ++ [(Sum.inl (n : Int), V.int (if (1 : Int) < (n : Int) then 1 else (n : Int)))] := by unfold amK; rw [List.range_succ, List.map_append]; rfl
theorem amK_len (n : Nat) : (amK n).length = n := by unfold amK; rw [List.length_map, List.length_range]
theorem val_app {κ : Type} [DecidableEq κ] {k : κ} : ∀ {l m : List (κ × V)}, valV l k = none → valV (l ++ m) k = valV m k
  | [], _, _ => rfl
  | p :: r, m, h => by
    by_cases e : p.1 = k
    · rw [valV_pos e] at h; cases h
    · rw [valV_neg e] at h
      show valV (p :: (r ++ m)) k = _
      rw [valV_neg e]
      exact val_app h
theorem amK_none (n : Nat) : ∀ m, n ≤ m → valV (amK n) (Sum.inl (m : Int)) = none := by
  induction n with
  | zero => intro m _; rfl
  | succ n ih =>
    intro m hm
    rw [amK_succ, val_app (ih m (by lia)), valV_neg (by intro z; injection z with z; have := Int.ofNat.inj z; lia)]
    rfl
def bareL (n : Nat) : List Int := (List.range (n + 1)).map fun j => ((bareN j : Nat) : Int)
theorem bareL_succ (n : Nat) : bareL (n + 1) = bareL n ++ [((bareN (n + 1) : Nat) : Int)] := by unfold bareL; rw [List.range_succ, List.map_append]; rfl
theorem bareL_last (n : Nat) : (bareL n).getLast? = some ((bareN n : Nat) : Int) := by
  cases n with
  | zero => rfl
  | succ n => rw [bareL_succ, List.getLast?_append]; rfl
theorem at_lastV {xs : List V} {x : V} (h : xs.getLast? = some x) : atI xs (-1) = some x := by
  obtain ⟨ys, rfl⟩ := List.getLast?_eq_some_iff.mp h
  unfold atI ixN
  rw [if_neg (by decide), if_pos (by rw [List.length_append, List.length_singleton]; lia)]
  show (ys ++ [x])[((-1 : Int) + ((ys ++ [x]).length : Nat)).toNat]? = some x
  rw [List.length_append, List.length_singleton, show ((-1 : Int) + ((ys.length + 1 : Nat) : Int)).toNat = ys.length by lia, List.getElem?_append_right (Nat.le_refl _), Nat.sub_self]
  rfl
end J

set_option maxHeartbeats 200000
set_option Elab.async false
set_option linter.all false
set_option maxRecDepth 100000
set_option maxHeartbeats 2000000
namespace J
open PySem L2
/-- what a new grove is -/
structure NewG (a : Ad) (H H' : Hp) (g : GA) (G : Gv) (B : List Int) (am : List (Key × V)) : Prop where
  kp : ∀ b o, H b = some o → b ≠ g.p → H' b = some o
  at' : GroveAt a H' g G
  br : H' g.br = some (.lst (B.map V.int))
  am : H' g.am = some (.dK am)
  bx : H' g.bx = some (.dK [])
  fresh : H g.lv = none ∧ H g.pt = none ∧ H g.nm = none ∧ H g.br = none ∧ H g.am = none ∧ H g.bx = none
  n1 : g.br ≠ g.lv
  n2 : g.br ≠ g.pt
  n3 : g.am ≠ g.bx
section
variable {P : Program} {w : World} {K : PySem.W.Frag} {mg : Str → Option Value} {base : Heap} {a : Ad}
inductive SpGInit (a : Ad) (vs : List V) (H : Hp) (Q : VK) : Prop
  | mk (p dx : Addr) (_ : vs = [.ref p]) (_ : H p = some (.ins a.c_Grove dx [])) (_ : ∀ (g : GA) (H' : Hp), g.p = p → NewG a H H' g G0 (bareL 48) (amK 8) → Q .non H') : SpGInit a vs H Q
def spGInit (a : Ad) : Sp := fun vs H Q _ => SpGInit a vs H Q
theorem ok_ginit {f : Addr} {fd : FuncData} (F : Fun K "__init__" "Grove.__init__" s_Grove_init f fd) (T : Top K mg a) (M_Grove_kept : CalM P w K mg base CX0 1 a.c_Grove "kept" p_Grove_kept (spKept a)) : FnOk P w K mg base CX0 2 f fd p_Grove_init (spGInit a) := by
  refine F.ok sc_Grove_init (fun vs H Q E h => ?_) (fun cdv A outer s H vs Q E hr h => ?_)
  · obtain ⟨p, dx, rfl, _⟩ := h
    rfl
  · obtain ⟨p, dx, rfl, hp, k⟩ := h
    refine ⟨_, (@pss_cons _ _ _ _ _ (@ps_fld _ _ _ _ _ _ _ _ (pv 0) (@pe_lst _ _ _ _ (@pa_nil _)) rfl) (@pss_cons _ _ _ _ _ (@ps_fld _ _ _ _ _ _ _ _ (pv 0) (@pe_lst _ _ _ _ (@pa_nil _)) rfl) (@pss_cons _ _ _ _ _ (@ps_fld _ _ _ _ _ _ _ _ (pv 0) (@pe_dnewT _ _) rfl) (@pss_cons _ _ _ _ _ (@ps_fld _ _ _ _ _ _ _ _ (pv 0) (@pe_lst _ _ _ _ (@pa_int _ _ _ _ _ _ (@pa_nil _))) rfl) (@pss_cons _ _ _ _ _ (@ps_fld _ _ _ _ _ _ _ _ (pv 0) (@pe_dnewK _ _) rfl) (@pss_cons _ _ _ _ _ (@ps_fld _ _ _ _ _ _ _ _ (pv 0) (@pe_dnewK _ _) rfl) (@pss_cons _ _ _ _ _ (@ps_for _ _ _ _ _ _ _ _ PassesOwn.never rfl (@pi_range1 _ _ _ _ _ _ rfl T.b_range (@pa_cons _ _ _ _ _ (@pe_gint _ _ _ _ rfl T.k_STATES (by decide)) (@pa_nil _) rfl) rfl) (@pg_name _ _ (1) _ sc_Grove_init.nd rfl (Or.inl rfl) (by first | exact .inl rfl | exact .inr rfl | assumption)) (@pss_cons _ _ _ _ _ (@ps_expr _ _ _ _ (@pe_calm _ _ _ _ _ _ _ _ _ _ _ _ _ _ _ _ (pv 0) M_Grove_kept (rm hr) pass0 (@pa_tup _ _ _ _ _ _ _ (@pa_cons _ _ _ _ _ (pv 1) (@pa_nil _) rfl) (@pa_int _ _ _ _ _ _ (@pa_nil _))) rfl rfl rfl) rfl) (@pss_one _ _ _ (@ps_dput _ _ _ _ _ _ _ _ _ (hu_of hr) (@pe_fld _ _ _ _ _ (pv 0) rfl) (pv 1) (@pe_callB _ _ _ _ _ _ _ _ _ (@call_min2 _ rfl) rfl T.b_min PyProof.Rows.boot_min (@pa_cons _ _ _ _ _ (pv 1) (@pa_int _ _ _ _ _ _ (@pa_nil _)) rfl) (by decide) (by decide) rfl rfl) rfl))) (by intro _ ; rfl)) (@pss_one _ _ _ (@ps_for _ _ _ _ _ _ _ _ PassesOwn.never rfl (@pi_range2 _ _ _ _ _ _ _ rfl T.b_range (@pa_int _ _ _ _ _ _ (@pa_op _ _ _ _ _ _ _ _ _ _ (@op_add _) (@pe_gint _ _ _ _ rfl T.k_TOP_LEVEL (by decide)) (@pe_int _ _ _ _) (@pa_nil _))) rfl rfl) (@pg_name _ _ (2) _ sc_Grove_init.nd rfl (Or.inl rfl) (by first | exact .inl rfl | exact .inr rfl | assumption)) (@pss_cons _ _ _ _ _ (@ps_set _ _ (3) _ _ _ _ sc_Grove_init.nd rfl (Or.inl rfl) (@pe_ix _ _ _ _ _ _ _ (@ix_list _) (@pe_fld _ _ _ _ _ (pv 0) rfl) (@pe_un _ _ _ _ _ _ (@un_neg _) (@pe_int _ _ _ _)) (fun _ _ => rfl)) rfl (by first | exact .inl rfl | exact .inr rfl | assumption)) (@pss_one _ _ _ (@ps_expr _ _ _ _ (@pe_bm _ _ _ _ _ _ _ _ _ _ _ _ PySem.F.plainAttrs_list PySem.F.slot_list_append PySem.F.type_list_append (@mt_append _) (@pe_fld _ _ _ _ _ (pv 0) rfl) (@pa_cons _ _ _ _ _ (@pe_calm _ _ _ _ _ _ _ _ _ _ _ _ _ _ _ _ (pv 0) M_Grove_kept (rm hr) pass0 (@pa_tup _ _ _ _ _ _ _ (@pa_cons _ _ _ _ _ (pv 3) (@pa_cons _ _ _ _ _ (pv 3) (@pa_cons _ _ _ _ _ (pv 3) (@pa_cons _ _ _ _ _ (pv 3) (@pa_nil _) rfl) rfl) rfl) rfl) (@pa_cons _ _ _ _ _ (pv 2) (@pa_nil _) rfl)) rfl rfl rfl) (@pa_nil _) rfl) rfl rfl rfl rfl rfl) rfl))) (by intro _ ; rfl)))))))))), ?_⟩
    try dsimp only [cxK]
    -- a field with a new object
    have stp : ∀ {Hk : Hp} {x : Addr} {o : HO} {fs fs' : List (Str × V)}, Hk p = some (.ins a.c_Grove dx fs) → Hk x = none → (∀ b v, Hk b = some v → b ≠ p → upd (upd Hk x o) p (.ins a.c_Grove dx fs') b = some v) ∧ upd (upd Hk x o) p (.ins a.c_Grove dx fs') x = some o ∧ upd (upd Hk x o) p (.ins a.c_Grove dx fs') p = some (.ins a.c_Grove dx fs') ∧ upd Hk x o p = some (.ins a.c_Grove dx fs) := fun {Hk x o fs fs'} e1 e2 => by
      have n : x ≠ p := fun z => by rw [z, e1] at e2; cases e2
      exact ⟨fun b v e nb => by rw [upd_ne nb, upd_ne (ne_of_none e e2)]; exact e, by rw [upd_ne n]; exact upd_same, upd_same, by rw [upd_ne (Ne.symm n)]; exact e1⟩
    refine ⟨(by show 0 ≤ sizeLine; decide), fun lv hlv => ?_⟩
    obtain ⟨k1, x1, p1, q1⟩ := stp (o := .lst []) (fs' := putF "levels" (.ref lv) []) hp hlv
    refine ⟨_, rfl, p, _, dx, [], rfl, q1, T.cl_Grove, T.na_Grove_levels, (by show 0 < 1000; decide), ?_⟩
    generalize upd (upd H lv (.lst [])) p (.ins a.c_Grove dx (putF "levels" (.ref lv) [])) = H1 at k1 x1 p1 ⊢
    refine ⟨(by show 0 ≤ sizeLine; decide), fun pt hpt => ?_⟩
    obtain ⟨k2, x2, p2, q2⟩ := stp (o := .lst []) (fs' := putF "parts" (.ref pt) (putF "levels" (.ref lv) [])) p1 hpt
    refine ⟨_, rfl, p, _, dx, _, rfl, q2, T.cl_Grove, T.na_Grove_parts, (by show 1 < 1000; decide), ?_⟩
    generalize upd (upd H1 pt (.lst [])) p (.ins a.c_Grove dx (putF "parts" (.ref pt) (putF "levels" (.ref lv) []))) = H2 at k2 x2 p2 ⊢
    intro nm hnm
    obtain ⟨k3, x3, p3, q3⟩ := stp (o := .dT []) (fs' := putF "numbers" (.ref nm) (putF "parts" (.ref pt) (putF "levels" (.ref lv) []))) p2 hnm
    refine ⟨_, rfl, p, _, dx, _, rfl, q3, T.cl_Grove, T.na_Grove_numbers, (by show 2 < 1000; decide), ?_⟩
    generalize upd (upd H2 nm (.dT [])) p (.ins a.c_Grove dx (putF "numbers" (.ref nm) (putF "parts" (.ref pt) (putF "levels" (.ref lv) [])))) = H3 at k3 x3 p3 ⊢
    refine ⟨(by show 1 ≤ sizeLine; decide), fun br hbr => ?_⟩
    obtain ⟨k4, x4, p4, q4⟩ := stp (o := .lst [.int 0]) (fs' := putF "bares" (.ref br) (putF "numbers" (.ref nm) (putF "parts" (.ref pt) (putF "levels" (.ref lv) [])))) p3 hbr
    refine ⟨_, rfl, p, _, dx, _, rfl, q4, T.cl_Grove, T.na_Grove_bares, (by show 3 < 1000; decide), ?_⟩
    generalize upd (upd H3 br (.lst [.int 0])) p (.ins a.c_Grove dx (putF "bares" (.ref br) (putF "numbers" (.ref nm) (putF "parts" (.ref pt) (putF "levels" (.ref lv) []))))) = H4 at k4 x4 p4 ⊢
    intro am ham
    obtain ⟨k5, x5, p5, q5⟩ := stp (o := .dK []) (fs' := putF "amounts" (.ref am) (putF "bares" (.ref br) (putF "numbers" (.ref nm) (putF "parts" (.ref pt) (putF "levels" (.ref lv) []))))) p4 ham
    refine ⟨_, rfl, p, _, dx, _, rfl, q5, T.cl_Grove, T.na_Grove_amounts, (by show 4 < 1000; decide), ?_⟩
    generalize upd (upd H4 am (.dK [])) p (.ins a.c_Grove dx (putF "amounts" (.ref am) (putF "bares" (.ref br) (putF "numbers" (.ref nm) (putF "parts" (.ref pt) (putF "levels" (.ref lv) [])))))) = H5 at k5 x5 p5 ⊢
    intro bx hbx
    obtain ⟨k6, x6, p6, q6⟩ := stp (o := .dK []) (fs' := fl6 ⟨p, dx, lv, pt, nm, br, am, bx⟩) p5 hbx
    refine ⟨_, rfl, p, _, dx, _, rfl, q6, T.cl_Grove, T.na_Grove_boxes, (by show 5 < 1000; decide), ?_⟩
    show (tSeq _ _) _ _ (upd (upd H5 bx (.dK [])) p (.ins a.c_Grove dx (fl6 ⟨p, dx, lv, pt, nm, br, am, bx⟩)))
    generalize upd (upd H5 bx (.dK [])) p (.ins a.c_Grove dx (fl6 ⟨p, dx, lv, pt, nm, br, am, bx⟩)) = H6 at k6 x6 p6 ⊢
    -- all that is new is apart
    have f26 : ∀ b v, H1 b = some v → b ≠ p → H6 b = some v := fun b v e n => k6 _ _ (k5 _ _ (k4 _ _ (k3 _ _ (k2 _ _ e n) n) n) n) n
    have f36 : ∀ b v, H2 b = some v → b ≠ p → H6 b = some v := fun b v e n => k6 _ _ (k5 _ _ (k4 _ _ (k3 _ _ e n) n) n) n
    have f46 : ∀ b v, H3 b = some v → b ≠ p → H6 b = some v := fun b v e n => k6 _ _ (k5 _ _ (k4 _ _ e n) n) n
    have f56 : ∀ b v, H4 b = some v → b ≠ p → H6 b = some v := fun b v e n => k6 _ _ (k5 _ _ e n) n
    have np : ∀ {Hk : Hp} {x : Addr} {fs : List (Str × V)}, Hk p = some (.ins a.c_Grove dx fs) → Hk x = none → x ≠ p := fun {Hk x fs} e1 e2 z => by rw [z, e1] at e2; cases e2
    have no : ∀ {Hk Hm : Hp} {x y : Addr} {v : HO}, Hk x = some v → Hk y = none → x ≠ y := fun {Hk Hm x y v} e1 e2 => ne_of_none e1 e2
    have nlv := np hp hlv
    have npt := np p1 hpt
    have nnm := np p2 hnm
    have nbr := np p3 hbr
    have nam := np p4 ham
    have nbx := np p5 hbx
    have y1 := f26 _ _ x1 nlv
    have y2 := f36 _ _ x2 npt
    have y3 := f46 _ _ x3 nnm
    have y4 := f56 _ _ x4 nbr
    have y5 := k6 _ _ x5 nam
    have back : ∀ {Hk : Hp} {x : Addr}, (∀ b v, H b = some v → b ≠ p → Hk b = some v) → x ≠ p → Hk x = none → H x = none := fun {Hk x} kp n e => by
      cases h : H x with
      | none => rfl
      | some v => rw [kp _ _ h n] at e; cases e
    have c2 : ∀ b v, H b = some v → b ≠ p → H2 b = some v := fun b v e n => k2 _ _ (k1 _ _ e n) n
    have c3 : ∀ b v, H b = some v → b ≠ p → H3 b = some v := fun b v e n => k3 _ _ (c2 _ _ e n) n
    have c4 : ∀ b v, H b = some v → b ≠ p → H4 b = some v := fun b v e n => k4 _ _ (c3 _ _ e n) n
    have c5 : ∀ b v, H b = some v → b ≠ p → H5 b = some v := fun b v e n => k5 _ _ (c4 _ _ e n) n
    have c6 : ∀ b v, H b = some v → b ≠ p → H6 b = some v := fun b v e n => k6 _ _ (c5 _ _ e n) n
    have d1 : lv ≠ pt := ne_of_none x1 hpt
    have d2 : br ≠ lv := Ne.symm (ne_of_none (k3 _ _ (k2 _ _ x1 nlv) nlv) hbr)
    have d3 : br ≠ pt := Ne.symm (ne_of_none (k3 _ _ x2 npt) hbr)
    have d4 : am ≠ bx := ne_of_none x5 hbx
    have N0 : NewG a H H6 ⟨p, dx, lv, pt, nm, br, am, bx⟩ (leafs 0) (bareL 0) (amK 0) := ⟨c6, ⟨p6, y1, ⟨[], y2, .nil⟩, y3, d1⟩, y4, y5, x6, ⟨hlv, back k1 npt hpt, back c2 nnm hnm, back c3 nbr hbr, back c4 nam ham, back c5 nbx hbx⟩, d2, d3, d4⟩
    have k' := k ⟨p, dx, lv, pt, nm, br, am, bx⟩
    have gp : (⟨p, dx, lv, pt, nm, br, am, bx⟩ : GA).p = p := rfl
    generalize (⟨p, dx, lv, pt, nm, br, am, bx⟩ : GA) = g at N0 k' gp
    subst gp
    clear k p6 q6 q5 q4 q3 q2 q1 y1 y2 y3 y4 y5 x6 c6 c5 c4 c3 c2 f26 f36 f46 f56 k1 k2 k3 k4 k5 k6 x1 x2 x3 x4 x5 p1 p2 p3 p4 p5 d1 d2 d3 d4 nlv npt nnm nbr nam nbx hbx ham hbr hnm hpt hlv back no np stp
    refine ⟨8, rfl, by decide, by decide, ?_⟩
    refine for_range (n := 8) (fun i σ H7 => ∃ u1 : Option V, σ = [some (.ref g.p), u1, none, none] ∧ NewG a H H7 g (leafs i) (bareL 0) (amK i)) ⟨none, rfl, N0⟩ ?_ ?_
    · rintro i σ H7 hi ⟨u1, rfl, N⟩
      obtain ⟨kp, at', hbr, ham, hbx, fresh, n1, n2, n3⟩ := N
      have cl : (i : Int) = 0 + (i : Int) := (Int.zero_add _).symm
      refine ⟨_, rfl, g.p, g.dx, _, rfl, at'.hp, no_kept g, _, rfl, (by show 1 ≤ sizeLine; decide), fun t ht => ?_⟩
      have s1 := same_up (o := .tup [.int (0 + (i : Int))]) ht
      refine ⟨g, leafs i, t, [0 + (i : Int)], 0, rfl, at'.same s1, upd_same, by rw [← cl]; exact leafs_new i, by rw [leafs_len]; lia, fun H8 fr at8 => ?_⟩
      rw [← cl, ← leafs_succ] at at8
      have fr' : Fr g H7 H8 := (Same.fr s1).trans fr
      obtain ⟨ts, h3, h4⟩ := at'.pt
      have kd : ∀ (b : Addr) (kvs : List (Key × V)), H7 b = some (.dK kvs) → H8 b = some (.dK kvs) := fun b kvs e => fr' _ _ e (ne_of e at'.lv (by intro z; cases z)) (ne_of e h3 (by intro z; cases z)) (ne_of e at'.nm (by intro z; cases z))
      have ham8 := kd _ _ ham
      refine ⟨_, rfl, _, _, rfl, _, rfl, g.p, _, g.dx, _, _, rfl, at8.hp, T.cl_Grove, T.na_Grove_amounts, fl6_am g, _, rfl, g.am, _, rfl, DPut.k (k := Sum.inl (0 + (i : Int))) ham8 (by rw [amK_len]; exact lt_ln (by lia)), ?_⟩
      rw [← cl, putK_new _ (amK_none i i (Nat.le_refl _)), ← amK_succ]
      have other : ∀ {b : Addr} {v : HO}, H8 b = some v → b ≠ g.am → upd H8 g.am (.dK (amK (i + 1))) b = some v := fun {b v} e n => by rw [upd_ne n]; exact e
      have na : ∀ {b : Addr} {v : HO}, H8 b = some v → v ≠ .dK (amK i) → b ≠ g.am := fun {b v} e n => ne_of e ham8 n
      obtain ⟨ts8, h38, h48⟩ := at8.pt
      refine ⟨_, rfl, ?_, ⟨other at8.hp (na at8.hp (by intro z; cases z)), other at8.lv (na at8.lv (by intro z; cases z)), ⟨ts8, other h38 (na h38 (by intro z; cases z)), PairedM.imp (fun c q z => other z (na z (by intro z; cases z))) h48⟩, other at8.nm (na at8.nm (by intro z; cases z)), at8.ne⟩, ?_, upd_same, ?_, fresh, n1, n2, n3⟩
      · intro b v e nb
        have e8 : H8 b = some v := fr' _ _ (kp _ _ e nb) (ne_of_none e fresh.1) (ne_of_none e fresh.2.1) (ne_of_none e fresh.2.2.1)
        exact other e8 (ne_of_none e fresh.2.2.2.2.1)
      · have e8 : H8 g.br = _ := fr' _ _ hbr n1 n2 (ne_of hbr at'.nm (by intro z; cases z))
        exact other e8 (na e8 (by intro z; cases z))
      · exact other (kd _ _ hbx) (Ne.symm n3)
    · rintro σ H7 ⟨u1, rfl, N⟩
      refine ⟨_, _, rfl, rfl, 1, 49, rfl, ⟨by decide, by decide, by decide, by decide⟩, ?_⟩
      have N0 : NewG a H H7 g (leafs 8 ++ bares 0) (bareL 0) (amK 8) := by rw [show leafs 8 ++ bares 0 = leafs 8 from List.append_nil _]; exact N
      clear N
      refine for_range (lo := 1) (n := 48) (fun j σ H8 => ∃ u2 u3 : Option V, σ = [some (.ref g.p), u1, u2, u3] ∧ NewG a H H8 g (leafs 8 ++ bares j) (bareL j) (amK 8)) ⟨none, none, rfl, N0⟩ ?_ ?_
      · rintro j σ H8 hj ⟨u2, u3, rfl, N⟩
        obtain ⟨kp, at', hbr, ham, hbx, fresh, n1, n2, n3⟩ := N
        refine ⟨_, rfl, g.p, _, g.dx, _, _, rfl, at'.hp, T.cl_Grove, T.na_Grove_bares, fl6_br g, _, rfl, g.br, _, -1, .int (bareN j : Int), rfl, rfl, SqL.of hbr, at_lastV (by rw [List.getLast?_map, bareL_last]; rfl), ?_⟩
        refine ⟨_, rfl, g.p, _, g.dx, _, _, rfl, at'.hp, T.cl_Grove, T.na_Grove_bares, fl6_br g, .inl ⟨rfl, _, SqL.of hbr⟩, _, rfl, g.p, g.dx, _, rfl, at'.hp, no_kept g, _, rfl, _, rfl, _, rfl, _, rfl, (by show 4 ≤ sizeLine; decide), fun t ht => ⟨_, rfl, ?_⟩⟩
        have s1 := same_up (o := .tup [.int (bareN j : Int), .int (bareN j : Int), .int (bareN j : Int), .int (bareN j : Int)]) ht
        have ln : (leafs 8 ++ bares j).length = 8 + j := by rw [List.length_append, leafs_len, bares_len]
        refine ⟨g, leafs 8 ++ bares j, t, [(bareN j : Int), (bareN j : Int), (bareN j : Int), (bareN j : Int)], 1 + (j : Int), rfl, at'.same s1, upd_same, bares_new j, by rw [ln]; lia, fun H9 fr at9 => ?_⟩
        rw [show (1 : Int) + (j : Int) = (j : Int) + 1 by lia, List.append_assoc, ← bares_succ] at at9
        have fr' : Fr g H8 H9 := (Same.fr s1).trans fr
        obtain ⟨ts, h3, h4⟩ := at'.pt
        have kd : ∀ (b : Addr) (kvs : List (Key × V)), H8 b = some (.dK kvs) → H9 b = some (.dK kvs) := fun b kvs e => fr' _ _ e (ne_of e at'.lv (by intro z; cases z)) (ne_of e h3 (by intro z; cases z)) (ne_of e at'.nm (by intro z; cases z))
        have hbr9 : H9 g.br = _ := fr' _ _ hbr n1 n2 (ne_of hbr at'.nm (by intro z; cases z))
        refine ⟨g.br, _, _, rfl, rfl, hbr9, by rw [List.length_map]; unfold bareL; rw [List.length_map, List.length_range]; exact lt_ln (by lia), ?_⟩
        have eb : (bareL j).map V.int ++ [V.int ((leafs 8 ++ bares j).length : Int)] = (bareL (j + 1)).map V.int := by rw [bareL_succ, List.map_append, ln]; rfl
        rw [eb]
        have other : ∀ {b : Addr} {v : HO}, H9 b = some v → v ≠ .lst ((bareL j).map V.int) → upd H9 g.br (.lst ((bareL (j + 1)).map V.int)) b = some v := fun {b v} e n => by rw [upd_ne (ne_of e hbr9 n)]; exact e
        refine ⟨_, _, rfl, ?_, at9.put hbr9 n1 n2, upd_same, other (kd _ _ ham) (by intro z; cases z), other (kd _ _ hbx) (by intro z; cases z), fresh, n1, n2, n3⟩
        intro b v e nb
        rw [upd_ne (ne_of_none e fresh.2.2.2.1)]
        exact fr' _ _ (kp _ _ e nb) (ne_of_none e fresh.1) (ne_of_none e fresh.2.1) (ne_of_none e fresh.2.2.1)
      · rintro σ H8 ⟨u2, u3, rfl, N⟩
        exact k' H8 rfl N
end
end J

set_option maxHeartbeats 200000
set_option Elab.async false
set_option linter.all false
set_option maxRecDepth 100000
/-! _law_at, for the laws of groves. -/
namespace J
open PySem L2
def atN (ns : List Int) (k : Int) : Int := ns.getD k.toNat 0
section
variable {P : Program} {w : World} {K : PySem.W.Frag} {mg : Str → Option Value} {base : Heap} {a : Ad}
inductive SpAt (K : PySem.W.Frag) (vs : List V) (H : Hp) (Q : VK) : Prop
  | mk (l : Addr) (ns : List Int) (k : Int) (_ : vs = [.ref l, .int k]) (_ : SqL K H l (ns.map V.int)) (_ : 0 ≤ k) (_ : Q (.int (atN ns k)) H) : SpAt K vs H Q
def spAt (K : PySem.W.Frag) : Sp := fun vs H Q _ => SpAt K vs H Q
theorem ok_at {f : Addr} {fd : FuncData} (F : Fun K "_law_at" "_law_at" s__law_at f fd) (T : Top K mg a) : FnOk P w K mg base CX0 1 f fd p__law_at (spAt K) := by
  refine F.ok sc__law_at (fun vs H Q E h => ?_) (fun cdv A outer s H vs Q E hr h => ?_)
  · obtain ⟨l, ns, k, rfl, _⟩ := h
    rfl
  · obtain ⟨l, ns, k, rfl, hS, h0, q⟩ := h
    refine ⟨_, (@pss_cons _ _ _ _ _ (@ps_if _ _ _ _ _ _ _ _ (@pt_cmpR _ _ _ _ _ _ _ _ (@op_lt _) (pv 1) (@pe_callB _ _ _ _ _ _ _ _ _ (@call_len_seq _) rfl T.b_len PySem.boot_len (@pa_cons _ _ _ _ _ (pv 0) (@pa_nil _) rfl) (by decide) (by decide) rfl rfl) (nomark _)) (@pss_one _ _ _ (@ps_ret _ _ _ _ (@pe_ix _ _ _ _ _ _ _ (@ix_list _) (pv 0) (pv 1) (fun _ _ => rfl)))) (@pss_nil _)) (@pss_one _ _ _ (@ps_ret _ _ _ _ (@pe_int _ _ _ _)))), ?_⟩
    try dsimp only [cxK]
    refine ⟨_, rfl, _, rfl, l, _, rfl, .inl hS, _, _, rfl, rfl, _, rfl, ?_⟩
    obtain ⟨n, rfl⟩ := Int.eq_ofNat_of_zero_le h0
    refine ite2 (fun hc => ?_) (fun hc => ?_)
    · have hc' : n < ns.length := by
        have := of_decide_eq_true hc
        rw [List.length_map] at this
        lia
      refine ⟨_, rfl, _, rfl, l, _, n, .int ns[n], rfl, rfl, hS, atI_nat (by rw [List.getElem?_map, List.getElem?_eq_getElem hc']; rfl), ?_⟩
      have e : atN ns (n : Int) = ns[n] := by
        unfold atN
        rw [Int.toNat_natCast, List.getD_eq_getElem?_getD, List.getElem?_eq_getElem hc']
        rfl
      rw [e] at q
      exact q
    · have hc' : ns.length ≤ n := by
        have : ¬ (n : Int) < ((ns.map V.int).length : Int) := fun z => hc (decide_eq_true z)
        rw [List.length_map] at this
        lia
      have e : atN ns (n : Int) = 0 := by
        unfold atN
        rw [Int.toNat_natCast, List.getD_eq_getElem?_getD, List.getElem?_eq_none hc']
        rfl
      rw [e] at q
      exact q
end
end J

set_option Elab.async false
set_option linter.all false
set_option maxRecDepth 100000
set_option maxHeartbeats 4000000
/-! Refusals of a grove. -/
namespace J
open PySem L2
/-- a thing that may be handed in -/
inductive Odd (H : Hp) : V → Prop
  | int (i : Int) : Odd H (.int i)
  | bl (b : Bool) : Odd H (.bl b)
  | str (z : Str) : Odd H (.str z)
  | non : Odd H .non
  | tup (t : Addr) (xs : List V) (_ : H t = some (.tup xs)) : Odd H (.ref t)
theorem Odd.same {H H' : Hp} {v : V} (h : Odd H v) (k : ∀ b xs, H b = some (.tup xs) → H' b = some (.tup xs)) : Odd H' v := by
  cases h with
  | int i => exact .int i
  | bl b => exact .bl b
  | str z => exact .str z
  | non => exact .non
  | tup t xs e => exact .tup t xs (k _ _ e)
def wholeV : V → Bool
  | .int _ => true
  | _ => false
def stateV : V → Bool
  | .int i => decide (0 ≤ i) && decide (i < 8)
  | _ => false
/-- no number of a square -/
def NoNum (G : Gv) (v : V) : Prop := ∀ i : Nat, v = .int i → G.length ≤ i
theorem kit_o (K : PySem.W.Frag) : PySem.W.kitOne K (.type "bool") (.type "int") = some true ∧ PySem.W.kitOne K (.type "bool") (.type "bool") = some true ∧ PySem.W.kitOne K (.type "str") (.type "int") = some false ∧ PySem.W.kitOne K (.type "NoneType") (.type "int") = some false ∧ PySem.W.kitOne K (.type "tuple") (.type "int") = some false := ⟨by kernel_rfl, by kernel_rfl, by kernel_rfl, by kernel_rfl, by kernel_rfl⟩
section
variable {P : Program} {w : World} {K : PySem.W.Frag} {mg : Str → Option Value} {base : Heap} {a : Ad}
inductive SpIWo (vs : List V) (H : Hp) (Q : VK) : Prop
  | mk (v : V) (_ : vs = [v]) (_ : Odd H v) (_ : Q (.bl (wholeV v)) H) : SpIWo vs H Q
def spIWo : Sp := fun vs H Q _ => SpIWo vs H Q
theorem ok_iwo {f : Addr} {fd : FuncData} (F : Fun K "is_whole" "is_whole" s_is_whole f fd) (T : Top K mg a) : FnOk P w K mg base CX0 1 f fd p_is_whole spIWo := by
  refine F.ok sc_is_whole (fun vs H Q E h => ?_) (fun cdv A outer s H vs Q E hr h => ?_)
  · obtain ⟨v, rfl, _⟩ := h
    rfl
  · obtain ⟨v, rfl, tv, k⟩ := h
    refine ⟨_, (@pss_one _ _ _ (@ps_ret _ _ _ _ (@pe_and _ _ _ _ _ _ _ (@pe_callB _ _ _ _ _ _ _ _ _ (@call_isi _) rfl T.b_isinstance PyProof.Rows.boot_isinstance (@pa_cons _ _ _ _ _ (pv 0) (@pa_cons _ _ _ _ _ (@pe_bltn _ _ ((.ty "int")) _ _ rfl T.b_int PyProof.Rows.boot_int rfl (by decide) (by decide)) (@pa_nil _) rfl) rfl) (by decide) (by decide) rfl rfl) (@pe_one _ _ _ _ _ (@pe_not _ _ _ _ (@pe_callB _ _ _ _ _ _ _ _ _ (@call_isi _) rfl T.b_isinstance PyProof.Rows.boot_isinstance (@pa_cons _ _ _ _ _ (pv 0) (@pa_cons _ _ _ _ _ (@pe_bltn _ _ ((.ty "bool")) _ _ rfl T.b_bool PyProof.Rows.boot_bool rfl (by decide) (by decide)) (@pa_nil _) rfl) rfl) (by decide) (by decide) rfl rfl)))))), ?_⟩
    try dsimp only [cxK]
    cases tv with
    | int i => exact ⟨_, rfl, _, _, _, .type "int", true, rfl, rfl, .of (.int i), (kit_w K).1, true, rfl, iteT ⟨_, rfl, _, _, _, .type "int", false, rfl, rfl, .of (.int i), (kit_w K).2, false, rfl, k⟩⟩
    | bl b => exact ⟨_, rfl, _, _, _, .type "bool", true, rfl, rfl, .of (.bl b), (kit_o K).1, true, rfl, iteT ⟨_, rfl, _, _, _, .type "bool", true, rfl, rfl, .of (.bl b), (kit_o K).2.1, true, rfl, k⟩⟩
    | str z => exact ⟨_, rfl, _, _, _, .type "str", false, rfl, rfl, .of (.str z), (kit_o K).2.2.1, false, rfl, iteF k⟩
    | non => exact ⟨_, rfl, _, _, _, .type "NoneType", false, rfl, rfl, .of .non, (kit_o K).2.2.2.1, false, rfl, iteF k⟩
    | tup t xs e => exact ⟨_, rfl, _, _, _, .type "tuple", false, rfl, rfl, .of (.tup e), (kit_o K).2.2.2.2, false, rfl, iteF k⟩
inductive SpISo (vs : List V) (H : Hp) (Q : VK) : Prop
  | mk (v : V) (_ : vs = [v]) (_ : Odd H v) (_ : Q (.bl (stateV v)) H) : SpISo vs H Q
def spISo : Sp := fun vs H Q _ => SpISo vs H Q
theorem ok_iso {f : Addr} {fd : FuncData} (F : Fun K "is_state" "is_state" s_is_state f fd) (T : Top K mg a) (C_is_whole : Cal P w K mg base CX0 1 "is_whole" p_is_whole spIWo) : FnOk P w K mg base CX0 2 f fd p_is_state spISo := by
  refine F.ok sc_is_state (fun vs H Q E h => ?_) (fun cdv A outer s H vs Q E hr h => ?_)
  · obtain ⟨v, rfl, _⟩ := h
    rfl
  · obtain ⟨v, rfl, tv, k⟩ := h
    refine ⟨_, (@pss_one _ _ _ (@ps_ret _ _ _ _ (@pe_and _ _ _ _ _ _ _ (@pe_cal _ _ _ _ _ _ _ _ _ _ _ _ C_is_whole (rm hr) rfl pass0 (@pa_cons _ _ _ _ _ (pv 0) (@pa_nil _) rfl) (by decide) rfl rfl) (@pe_one _ _ _ _ _ (@pe_chain _ _ _ _ _ _ _ _ _ _ _ _ (@op_le _) (@op_lt _) (@pe_int _ _ _ _) (pv 0) (@pe_gint _ _ _ _ rfl T.k_STATES (by decide)) (by with_unfolding_all rfl)))))), ?_⟩
    try dsimp only [cxK]
    refine ⟨_, rfl, v, rfl, tv, _, rfl, ?_⟩
    cases tv with
    | int i =>
      refine iteT ⟨_, rfl, _, _, rfl, rfl, _, rfl, ?_⟩
      have k : Q (.bl (decide (0 ≤ i) && decide (i < 8))) H := k
      revert k
      generalize decide ((0 : Int) ≤ i) = b
      cases b
      · exact fun k => iteF k
      · exact fun k => iteT ⟨_, _, rfl, rfl, k⟩
    | bl b => exact iteF k
    | str z => exact iteF k
    | non => exact iteF k
    | tup t xs e => exact iteF k
/-! ### questions that are refused -/
inductive SpChX (a : Ad) (vs : List V) (H : Hp) (Q : VK) (E : XK) : Prop
  | mk (g : GA) (G : Gv) (v : V) (_ : vs = [.ref g.p, v]) (_ : GroveAt a H g G) (_ : Odd H v) (_ : ∀ i : Nat, v = .int i → i < G.length → Q .non H) (_ : NoNum G v → E (.ref a.x_NoSquare) none H) : SpChX a vs H Q E
def spChX (a : Ad) : Sp := fun vs H Q E => SpChX a vs H Q E
theorem ok_chx {f : Addr} {fd : FuncData} (F : Fun K "check_square" "Grove.check_square" s_Grove_check_square f fd) (T : Top K mg a) (C_is_whole : Cal P w K mg base CX0 1 "is_whole" p_is_whole spIWo) : FnOk P w K mg base (CXE P w) 2 f fd p_Grove_check_square (spChX a) := by
  refine F.okE sc_Grove_check_square (fun vs H Q E h => ?_) (fun cdv A outer s H vs Q E hr h => ?_)
  · obtain ⟨g, G, v, rfl, _⟩ := h
    rfl
  · obtain ⟨g, G, v, rfl, hg, ov, k, ke⟩ := h
    refine ⟨_, (@pss_one _ _ _ (@ps_if _ _ _ _ _ _ _ _ (@PW.pt _ _ _ (@pw_or _ _ _ _ _ _ _ (@pt_not _ _ _ _ (@pt_val _ _ _ (@pe_cal _ _ _ _ _ _ _ _ _ _ _ _ C_is_whole (rm hr) rfl pass0 (@pa_cons _ _ _ _ _ (pv 1) (@pa_nil _) rfl) (by decide) rfl rfl) (by intro _ ; rfl))) (@pw_or1 _ _ _ _ (@pt_not _ _ _ _ (@pt_chain _ _ _ _ _ _ _ _ _ _ _ _ (@op_le _) (@op_lt _) (@pe_int _ _ _ _) (pv 1) (@pe_callB _ _ _ _ _ _ _ _ _ (@call_len_seq _) rfl T.b_len PySem.boot_len (@pa_cons _ _ _ _ _ (@pe_fld _ _ _ _ _ (pv 0) rfl) (@pa_nil _) rfl) (by decide) (by decide) rfl rfl) (by with_unfolding_all rfl)))))) (@pss_one _ _ _ (@ps_raise _ _ _ _ _ _ _ _ _ _ raisesE rfl rfl T.mx_NoSquare T.ec_NoSquare (@pa_str _ _ _ _ _ _ (@pa_nil _)) (by decide) rfl rfl)) (@pss_nil _))), ?_⟩
    try dsimp only [cxK]
    refine ⟨_, rfl, v, rfl, ov, _, rfl, ?_⟩
    cases ov with
    | int i =>
      refine iteF ⟨_, rfl, _, _, rfl, rfl, _, rfl, ?_⟩
      by_cases z : 0 ≤ i
      · rw [decide_eq_true z]
        refine iteT ⟨_, rfl, g.p, _, g.dx, _, _, rfl, hg.hp, T.cl_Grove, T.na_Grove_levels, fl6_lv g, g.lv, _, rfl, .inl (SqL.of hg.lv), _, _, rfl, rfl, _, rfl, ?_⟩
        rw [List.length_map]
        obtain ⟨n, rfl⟩ := Int.eq_ofNat_of_zero_le z
        by_cases z2 : n < G.length
        · rw [decide_eq_true (by lia : (n : Int) < (G.length : Int))]
          exact iteF (k n rfl z2)
        · rw [decide_eq_false (by lia : ¬ (n : Int) < (G.length : Int))]
          exact iteT ⟨by show 1 ≤ 100; decide, ke fun m e => by injection e with e; lia⟩
      · rw [decide_eq_false z]
        exact iteF ⟨false, rfl, iteT ⟨by show 1 ≤ 100; decide, ke fun m e => by injection e with e; lia⟩⟩
    | bl b => exact iteT ⟨by show 1 ≤ 100; decide, ke fun m e => by cases e⟩
    | str b => exact iteT ⟨by show 1 ≤ 100; decide, ke fun m e => by cases e⟩
    | non => exact iteT ⟨by show 1 ≤ 100; decide, ke fun m e => by cases e⟩
    | tup t xs e => exact iteT ⟨by show 1 ≤ 100; decide, ke fun m e => by cases e⟩
inductive SpLvX (a : Ad) (vs : List V) (H : Hp) (Q : VK) (E : XK) : Prop
  | mk (g : GA) (G : Gv) (v : V) (_ : vs = [.ref g.p, v]) (_ : GroveAt a H g G) (_ : Odd H v) (_ : ∀ (i : Nat) (q : Sq), v = .int i → G[i]? = some q → Q (.int q.lev) H) (_ : NoNum G v → E (.ref a.x_NoSquare) none H) : SpLvX a vs H Q E
def spLvX (a : Ad) : Sp := fun vs H Q E => SpLvX a vs H Q E
theorem ok_lvx {f : Addr} {fd : FuncData} (F : Fun K "level_of" "Grove.level_of" s_Grove_level_of f fd) (T : Top K mg a) (E_Grove_check_square : CalM P w K mg base (CXE P w) 2 a.c_Grove "check_square" p_Grove_check_square (spChX a)) : FnOk P w K mg base (CXE P w) 3 f fd p_Grove_level_of (spLvX a) := by
  refine F.okE sc_Grove_level_of (fun vs H Q E h => ?_) (fun cdv A outer s H vs Q E hr h => ?_)
  · obtain ⟨g, G, v, rfl, _⟩ := h
    rfl
  · obtain ⟨g, G, v, rfl, hg, ov, k, ke⟩ := h
    refine ⟨_, (@pss_cons _ _ _ _ _ (@ps_expr _ _ _ _ (@pe_calm _ _ _ _ _ _ _ _ _ _ _ _ _ _ _ _ (pv 0) E_Grove_check_square (rm hr) passE (@pa_cons _ _ _ _ _ (pv 1) (@pa_nil _) rfl) rfl rfl rfl) rfl) (@pss_one _ _ _ (@ps_ret _ _ _ _ (@pe_ix _ _ _ _ _ _ _ (@ix_list _) (@pe_fld _ _ _ _ _ (pv 0) rfl) (pv 1) (fun _ _ => rfl))))), ?_⟩
    try dsimp only [cxK]
    refine ⟨_, rfl, g.p, g.dx, _, rfl, hg.hp, no_check g, _, rfl, g, G, v, rfl, hg, ov, fun i e hi => ?_, ke⟩
    subst e
    have ei : G[i]? = some G[i] := List.getElem?_eq_getElem hi
    exact ⟨_, rfl, g.p, _, g.dx, _, _, rfl, hg.hp, T.cl_Grove, T.na_Grove_levels, fl6_lv g, _, rfl, g.lv, _, (i : Int), .int G[i].lev, rfl, rfl, SqL.of hg.lv, atI_nat (by rw [List.getElem?_map, ei]; rfl), k i _ rfl ei⟩
/-- quarters, state_of: where they refuse -/
inductive SpQuX (a : Ad) (vs : List V) (H : Hp) (E : XK) : Prop
  | mk (g : GA) (G : Gv) (v : V) (_ : vs = [.ref g.p, v]) (_ : GroveAt a H g G) (_ : Odd H v) (_ : (NoNum G v ∧ E (.ref a.x_NoSquare) none H) ∨ (∃ i : Nat, v = .int i ∧ LevAt G i 0 ∧ E (.ref a.x_NoLevel) none H)) : SpQuX a vs H E
def spQuX (a : Ad) : Sp := fun vs H _ E => SpQuX a vs H E
theorem no_num {G : Gv} {i : Nat} {q : Sq} (h : NoNum G (.int i)) (e : G[i]? = some q) : False := by
  have := h i rfl
  have := (List.getElem?_eq_some_iff.mp e).1
  lia
theorem ok_qux {f : Addr} {fd : FuncData} (F : Fun K "quarters" "Grove.quarters" s_Grove_quarters f fd) (T : Top K mg a) (E_Grove_level_of : CalM P w K mg base (CXE P w) 3 a.c_Grove "level_of" p_Grove_level_of (spLvX a)) : FnOk P w K mg base (CXE P w) 4 f fd p_Grove_quarters (spQuX a) := by
  refine F.okE sc_Grove_quarters (fun vs H Q E h => ?_) (fun cdv A outer s H vs Q E hr h => ?_)
  · obtain ⟨g, G, v, rfl, _⟩ := h
    rfl
  · obtain ⟨g, G, v, rfl, hg, ov, h⟩ := h
    refine ⟨_, (@pss_cons _ _ _ _ _ (@ps_if _ _ _ _ _ _ _ _ (@pt_cmpR _ _ _ _ _ _ _ _ (@op_eq _) (@pe_calm _ _ _ _ _ _ _ _ _ _ _ _ _ _ _ _ (pv 0) E_Grove_level_of (rm hr) passE (@pa_cons _ _ _ _ _ (pv 1) (@pa_nil _) rfl) rfl rfl rfl) (@pe_int _ _ _ _) (nomark _)) (@pss_one _ _ _ (@ps_raise _ _ _ _ _ _ _ _ _ _ raisesE rfl rfl T.mx_NoLevel T.ec_NoLevel (@pa_str _ _ _ _ _ _ (@pa_nil _)) (by decide) rfl rfl)) (@pss_nil _)) (@pss_one _ _ _ (@ps_ret _ _ _ _ (@pe_ix _ _ _ _ _ _ _ (@ix_list _) (@pe_fld _ _ _ _ _ (pv 0) rfl) (pv 1) (fun _ _ => rfl))))), ?_⟩
    try dsimp only [cxK]
    refine ⟨_, rfl, g.p, g.dx, _, rfl, hg.hp, no_levelOf g, _, rfl, g, G, v, rfl, hg, ov, fun i q e ei => ?_, fun no => ?_⟩
    · subst e
      rcases h with ⟨no, _⟩ | ⟨j, e, ⟨q', e1, e2⟩, ke⟩
      · exact (no_num no ei).elim
      · injection e with e
        have e : i = j := by lia
        subst e
        rw [ei] at e1
        cases e1
        refine ⟨rfl, _, rfl, ?_⟩
        rw [e2]
        exact iteT ⟨by show 1 ≤ 100; decide, ke⟩
    · rcases h with ⟨_, ke⟩ | ⟨j, rfl, ⟨q', e1, e2⟩, ke⟩
      · exact ke
      · exact (no_num no e1).elim
inductive SpStX (a : Ad) (vs : List V) (H : Hp) (E : XK) : Prop
  | mk (g : GA) (G : Gv) (v : V) (_ : vs = [.ref g.p, v]) (_ : GroveAt a H g G) (_ : Odd H v) (_ : (NoNum G v ∧ E (.ref a.x_NoSquare) none H) ∨ (∃ (i : Nat) (l : Int), v = .int i ∧ LevAt G i l ∧ l ≠ 0 ∧ E (.ref a.x_NoLevel) none H)) : SpStX a vs H E
def spStX (a : Ad) : Sp := fun vs H _ E => SpStX a vs H E
theorem ok_stx {f : Addr} {fd : FuncData} (F : Fun K "state_of" "Grove.state_of" s_Grove_state_of f fd) (T : Top K mg a) (E_Grove_level_of : CalM P w K mg base (CXE P w) 3 a.c_Grove "level_of" p_Grove_level_of (spLvX a)) : FnOk P w K mg base (CXE P w) 4 f fd p_Grove_state_of (spStX a) := by
  refine F.okE sc_Grove_state_of (fun vs H Q E h => ?_) (fun cdv A outer s H vs Q E hr h => ?_)
  · obtain ⟨g, G, v, rfl, _⟩ := h
    rfl
  · obtain ⟨g, G, v, rfl, hg, ov, h⟩ := h
    refine ⟨_, (@pss_cons _ _ _ _ _ (@ps_if _ _ _ _ _ _ _ _ (@pt_cmpR _ _ _ _ _ _ _ _ (@op_ne _) (@pe_calm _ _ _ _ _ _ _ _ _ _ _ _ _ _ _ _ (pv 0) E_Grove_level_of (rm hr) passE (@pa_cons _ _ _ _ _ (pv 1) (@pa_nil _) rfl) rfl rfl rfl) (@pe_int _ _ _ _) (nomark _)) (@pss_one _ _ _ (@ps_raise _ _ _ _ _ _ _ _ _ _ raisesE rfl rfl T.mx_NoLevel T.ec_NoLevel (@pa_str _ _ _ _ _ _ (@pa_nil _)) (by decide) rfl rfl)) (@pss_nil _)) (@pss_one _ _ _ (@ps_ret _ _ _ _ (pv 1)))), ?_⟩
    try dsimp only [cxK]
    refine ⟨_, rfl, g.p, g.dx, _, rfl, hg.hp, no_levelOf g, _, rfl, g, G, v, rfl, hg, ov, fun i q e ei => ?_, fun no => ?_⟩
    · subst e
      rcases h with ⟨no, _⟩ | ⟨j, l, e, ⟨q', e1, e2⟩, l0, ke⟩
      · exact (no_num no ei).elim
      · injection e with e
        have e : i = j := by lia
        subst e
        rw [ei] at e1
        cases e1
        refine ⟨rfl, _, rfl, ?_⟩
        rw [decide_eq_false (by intro z; injection z with z; lia)]
        exact iteT ⟨by show 1 ≤ 100; decide, ke⟩
    · rcases h with ⟨_, ke⟩ | ⟨j, l, rfl, ⟨q', e1, e2⟩, l0, ke⟩
      · exact ke
      · exact (no_num no e1).elim
/-- living, span: where they refuse -/
inductive SpLiX (a : Ad) (vs : List V) (H : Hp) (E : XK) : Prop
  | mk (g : GA) (G : Gv) (v : V) (_ : vs = [.ref g.p, v]) (_ : GroveAt a H g G) (_ : Odd H v) (_ : NoNum G v) (_ : E (.ref a.x_NoSquare) none H) : SpLiX a vs H E
def spLiX (a : Ad) : Sp := fun vs H _ E => SpLiX a vs H E
def spNo : Sp := fun _ _ _ _ => False
theorem ok_lix {f : Addr} {fd : FuncData} (F : Fun K "living" "Grove.living" s_Grove_living f fd) (T : Top K mg a) (E_Grove_check_square : CalM P w K mg base (CXE P w) 2 a.c_Grove "check_square" p_Grove_check_square (spChX a)) (M_Grove_counted : CalM P w K mg base CX0 2 a.c_Grove "counted" p_Grove_counted spNo) : FnOk P w K mg base (CXE P w) 3 f fd p_Grove_living (spLiX a) := by
  refine F.okE sc_Grove_living (fun vs H Q E h => ?_) (fun cdv A outer s H vs Q E hr h => ?_)
  · obtain ⟨g, G, v, rfl, _⟩ := h
    rfl
  · obtain ⟨g, G, v, rfl, hg, ov, no, ke⟩ := h
    refine ⟨_, (@pss_cons _ _ _ _ _ (@ps_expr _ _ _ _ (@pe_calm _ _ _ _ _ _ _ _ _ _ _ _ _ _ _ _ (pv 0) E_Grove_check_square (rm hr) passE (@pa_cons _ _ _ _ _ (pv 1) (@pa_nil _) rfl) rfl rfl rfl) rfl) (@pss_one _ _ _ (@ps_ret _ _ _ _ (@pe_calm _ _ _ _ _ _ _ _ _ _ _ _ _ _ _ _ (pv 0) M_Grove_counted (rm hr) pass0 (@pa_cons _ _ _ _ _ (pv 1) (@pa_nil _) rfl) rfl rfl rfl)))), ?_⟩
    try dsimp only [cxK]
    refine ⟨_, rfl, g.p, g.dx, _, rfl, hg.hp, no_check g, _, rfl, g, G, v, rfl, hg, ov, fun i e hi => ?_, fun _ => ke⟩
    exact absurd (no i e) (by lia)
theorem ok_spx {f : Addr} {fd : FuncData} (F : Fun K "span" "Grove.span" s_Grove_span f fd) (T : Top K mg a) (E_Grove_check_square : CalM P w K mg base (CXE P w) 2 a.c_Grove "check_square" p_Grove_check_square (spChX a)) (M_Grove_boxed : CalM P w K mg base CX0 2 a.c_Grove "boxed" p_Grove_boxed spNo) : FnOk P w K mg base (CXE P w) 3 f fd p_Grove_span (spLiX a) := by
  refine F.okE sc_Grove_span (fun vs H Q E h => ?_) (fun cdv A outer s H vs Q E hr h => ?_)
  · obtain ⟨g, G, v, rfl, _⟩ := h
    rfl
  · obtain ⟨g, G, v, rfl, hg, ov, no, ke⟩ := h
    refine ⟨_, (@pss_cons _ _ _ _ _ (@ps_expr _ _ _ _ (@pe_calm _ _ _ _ _ _ _ _ _ _ _ _ _ _ _ _ (pv 0) E_Grove_check_square (rm hr) passE (@pa_cons _ _ _ _ _ (pv 1) (@pa_nil _) rfl) rfl rfl rfl) rfl) (@pss_one _ _ _ (@ps_ret _ _ _ _ (@pe_calm _ _ _ _ _ _ _ _ _ _ _ _ _ _ _ _ (pv 0) M_Grove_boxed (rm hr) pass0 (@pa_cons _ _ _ _ _ (pv 1) (@pa_nil _) rfl) rfl rfl rfl)))), ?_⟩
    try dsimp only [cxK]
    refine ⟨_, rfl, g.p, g.dx, _, rfl, hg.hp, no_check g, _, rfl, g, G, v, rfl, hg, ov, fun i e hi => ?_, fun _ => ke⟩
    exact absurd (no i e) (by lia)
theorem ok_no {f : Addr} {fd : FuncData} {k : Nat} {ps : List Str} {CX : CXT} : FnOk P w K mg base CX k f fd ps spNo := ⟨fun _ _ _ _ h => h.elim, fun _ _ _ _ _ _ _ _ _ _ _ _ _ h => h.elim⟩
inductive SpLeX (a : Ad) (vs : List V) (H : Hp) (Q : VK) (E : XK) : Prop
  | mk (p : Addr) (v : V) (_ : vs = [.ref p, v]) (_ : Odd H v) (_ : stateV v = true → Q v H) (_ : stateV v = false → E (.ref a.x_NoState) none H) : SpLeX a vs H Q E
def spLeX (a : Ad) : Sp := fun vs H Q E => SpLeX a vs H Q E
theorem ok_lex {f : Addr} {fd : FuncData} (F : Fun K "leaf" "Grove.leaf" s_Grove_leaf f fd) (T : Top K mg a) (C_is_state : Cal P w K mg base CX0 2 "is_state" p_is_state spISo) : FnOk P w K mg base (CXE P w) 3 f fd p_Grove_leaf (spLeX a) := by
  refine F.okE sc_Grove_leaf (fun vs H Q E h => ?_) (fun cdv A outer s H vs Q E hr h => ?_)
  · obtain ⟨p, v, rfl, _⟩ := h
    rfl
  · obtain ⟨p, v, rfl, ov, k, ke⟩ := h
    refine ⟨_, (@pss_cons _ _ _ _ _ (@ps_if _ _ _ _ _ _ _ _ (@pt_not _ _ _ _ (@pt_val _ _ _ (@pe_cal _ _ _ _ _ _ _ _ _ _ _ _ C_is_state (rm hr) rfl pass0 (@pa_cons _ _ _ _ _ (pv 1) (@pa_nil _) rfl) (by decide) rfl rfl) (by intro _ ; rfl))) (@pss_one _ _ _ (@ps_raise _ _ _ _ _ _ _ _ _ _ raisesE rfl rfl T.mx_NoState T.ec_NoState (@pa_str _ _ _ _ _ _ (@pa_nil _)) (by decide) rfl rfl)) (@pss_nil _)) (@pss_one _ _ _ (@ps_ret _ _ _ _ (pv 1)))), ?_⟩
    try dsimp only [cxK]
    refine ⟨_, rfl, v, rfl, ov, _, rfl, ?_⟩
    revert k ke
    generalize stateV v = b
    cases b
    · exact fun _ ke => iteT ⟨by show 1 ≤ 100; decide, ke rfl⟩
    · exact fun k _ => iteF ⟨_, rfl, k rfl⟩
/-- no level -/
def NoLev (v : V) : Prop := ∀ i : Int, v = .int i → i < 0 ∨ 48 < i
inductive SpSoX (a : Ad) (vs : List V) (H : Hp) (E : XK) : Prop
  | mk (g : GA) (G : Gv) (u v : V) (_ : vs = [.ref g.p, u, v]) (_ : GroveAt a H g G) (_ : Odd H u) (_ : Odd H v) (_ : (NoLev u ∧ E (.ref a.x_NoLevel) none H) ∨ (∃ i : Nat, u = .int i ∧ i ≤ 48 ∧ stateV v = false ∧ E (.ref a.x_NoState) none H)) : SpSoX a vs H E
def spSoX (a : Ad) : Sp := fun vs H _ E => SpSoX a vs H E
theorem ok_sox {f : Addr} {fd : FuncData} (F : Fun K "solid" "Grove.solid" s_Grove_solid f fd) (T : Top K mg a) (C_is_whole : Cal P w K mg base CX0 1 "is_whole" p_is_whole spIWo) (E_Grove_leaf : CalM P w K mg base (CXE P w) 3 a.c_Grove "leaf" p_Grove_leaf (spLeX a)) (M_Grove_linked : CalM P w K mg base CX0 2 a.c_Grove "linked" p_Grove_linked spNo) : FnOk P w K mg base (CXE P w) 4 f fd p_Grove_solid (spSoX a) := by
  refine F.okE sc_Grove_solid (fun vs H Q E h => ?_) (fun cdv A outer s H vs Q E hr h => ?_)
  · obtain ⟨g, G, u, v, rfl, _⟩ := h
    rfl
  · obtain ⟨g, G, u, v, rfl, hg, ou, ov, h⟩ := h
    refine ⟨_, (@pss_cons _ _ _ _ _ (@ps_if _ _ _ _ _ _ _ _ (@PW.pt _ _ _ (@pw_or _ _ _ _ _ _ _ (@pt_not _ _ _ _ (@pt_val _ _ _ (@pe_cal _ _ _ _ _ _ _ _ _ _ _ _ C_is_whole (rm hr) rfl pass0 (@pa_cons _ _ _ _ _ (pv 1) (@pa_nil _) rfl) (by decide) rfl rfl) (by intro _ ; rfl))) (@pw_or1 _ _ _ _ (@pt_not _ _ _ _ (@pt_chain _ _ _ _ _ _ _ _ _ _ _ _ (@op_le _) (@op_le _) (@pe_int _ _ _ _) (pv 1) (@pe_gint _ _ _ _ rfl T.k_TOP_LEVEL (by decide)) (by with_unfolding_all rfl)))))) (@pss_one _ _ _ (@ps_raise _ _ _ _ _ _ _ _ _ _ raisesE rfl rfl T.mx_NoLevel T.ec_NoLevel (@pa_str _ _ _ _ _ _ (@pa_nil _)) (by decide) rfl rfl)) (@pss_nil _)) (@pss_cons _ _ _ _ _ (@ps_set _ _ (3) _ _ _ _ sc_Grove_solid.nd rfl (Or.inl rfl) (@pe_calm _ _ _ _ _ _ _ _ _ _ _ _ _ _ _ _ (pv 0) E_Grove_leaf (rm hr) passE (@pa_cons _ _ _ _ _ (pv 2) (@pa_nil _) rfl) rfl rfl rfl) rfl (by first | exact .inl rfl | exact .inr rfl | assumption)) (@pss_cons _ _ _ _ _ (@ps_for _ _ _ _ _ _ _ _ PassesOwn.leaving rfl (@pi_range1 _ _ _ _ _ _ rfl T.b_range (@pa_cons _ _ _ _ _ (pv 1) (@pa_nil _) rfl) rfl) (@pg_name _ _ (4) _ sc_Grove_solid.nd rfl (Or.inl rfl) (by first | exact .inl rfl | exact .inr rfl | assumption)) (@pss_one _ _ _ (@ps_set _ _ (3) _ _ _ _ sc_Grove_solid.nd rfl (Or.inl rfl) (@pe_calm _ _ _ _ _ _ _ _ _ _ _ _ _ _ _ _ (pv 0) M_Grove_linked (rm hr) pass0 (@pa_tup _ _ _ _ _ _ _ (@pa_cons _ _ _ _ _ (pv 3) (@pa_cons _ _ _ _ _ (pv 3) (@pa_cons _ _ _ _ _ (pv 3) (@pa_cons _ _ _ _ _ (pv 3) (@pa_nil _) rfl) rfl) rfl) rfl) (@pa_nil _)) rfl rfl rfl) rfl (by first | exact .inl rfl | exact .inr rfl | assumption))) (by intro _ ; rfl)) (@pss_one _ _ _ (@ps_ret _ _ _ _ (pv 3)))))), ?_⟩
    try dsimp only [cxK]
    refine ⟨_, rfl, u, rfl, ou, _, rfl, ?_⟩
    rcases h with ⟨no, ke⟩ | ⟨i, rfl, i48, hv, ke⟩
    · cases ou with
      | int i =>
        refine iteF ⟨_, rfl, _, _, rfl, rfl, _, rfl, ?_⟩
        rcases no i rfl with z | z
        · rw [decide_eq_false (by lia : ¬ (0 : Int) ≤ i)]
          exact iteF ⟨false, rfl, iteT ⟨by show 1 ≤ 100; decide, ke⟩⟩
        · rw [decide_eq_true (by lia : (0 : Int) ≤ i)]
          refine iteT ⟨_, _, rfl, rfl, _, rfl, ?_⟩
          rw [decide_eq_false (by lia : ¬ i ≤ 48)]
          exact iteT ⟨by show 1 ≤ 100; decide, ke⟩
      | bl b => exact iteT ⟨by show 1 ≤ 100; decide, ke⟩
      | str b => exact iteT ⟨by show 1 ≤ 100; decide, ke⟩
      | non => exact iteT ⟨by show 1 ≤ 100; decide, ke⟩
      | tup t xs e => exact iteT ⟨by show 1 ≤ 100; decide, ke⟩
    · refine iteF ⟨_, rfl, _, _, rfl, rfl, _, rfl, ?_⟩
      rw [decide_eq_true (by lia : (0 : Int) ≤ (i : Int))]
      refine iteT ⟨_, _, rfl, rfl, _, rfl, ?_⟩
      rw [decide_eq_true (by lia : (i : Int) ≤ 48)]
      refine iteF ⟨_, rfl, g.p, g.dx, _, rfl, hg.hp, no_leaf g, _, rfl, g.p, v, rfl, ov, fun z => ?_, fun _ => ke⟩
      rw [hv] at z
      cases z
end
end J

set_option maxHeartbeats 200000
set_option Elab.async false
set_option linter.all false
set_option maxRecDepth 100000
set_option maxHeartbeats 4000000
/-! Four squares that can't be joined. -/
namespace J
open PySem L2
section
variable {P : Program} {w : World} {K : PySem.W.Frag} {mg : Str → Option Value} {base : Heap} {a : Ad}
/-- four squares of unlike levels, or of the highest -/
def Unlike (G : Gv) (x y z w : Nat) : Prop := ∃ l m n o : Int, LevAt G x l ∧ LevAt G y m ∧ LevAt G z n ∧ LevAt G w o ∧ (l = 48 ∨ m ≠ l ∨ n ≠ l ∨ o ≠ l)
inductive SpJoX (a : Ad) (vs : List V) (H : Hp) (E : XK) : Prop
  | mk (g : GA) (G : Gv) (v1 v2 v3 v4 : V) (_ : vs = [.ref g.p, v1, v2, v3, v4]) (_ : GroveAt a H g G) (_ : ∀ v ∈ [v1, v2, v3, v4], Odd H v)
    (_ : ((∃ v ∈ [v1, v2, v3, v4], NoNum G v) ∧ ∀ H', Same H H' → E (.ref a.x_NoSquare) none H') ∨ (∃ x y z w : Nat, v1 = .int x ∧ v2 = .int y ∧ v3 = .int z ∧ v4 = .int w ∧ Unlike G x y z w ∧ ∀ H', Same H H' → E (.ref a.x_NoLevel) none H')) : SpJoX a vs H E
def spJoX (a : Ad) : Sp := fun vs H _ E => SpJoX a vs H E
theorem ok_jox {f : Addr} {fd : FuncData} (F : Fun K "joined" "Grove.joined" s_Grove_joined f fd) (T : Top K mg a) (E_Grove_check_square : CalM P w K mg base (CXE P w) 2 a.c_Grove "check_square" p_Grove_check_square (spChX a)) (M_Grove_linked : CalM P w K mg base CX0 2 a.c_Grove "linked" p_Grove_linked spNo) : FnOk P w K mg base (CXE P w) 4 f fd p_Grove_joined (spJoX a) := by
  refine F.okE sc_Grove_joined (fun vs H Q E h => ?_) (fun cdv A outer s H vs Q E hr h => ?_)
  · obtain ⟨g, G, v1, v2, v3, v4, rfl, _⟩ := h
    rfl
  · obtain ⟨g, G, v1, v2, v3, v4, rfl, hg, od, h⟩ := h
    refine ⟨_, (@pss_cons _ _ _ _ _ (@ps_for _ _ _ _ _ _ _ _ PassesOwn.leaving rfl (@pi_tup _ _ _ _ (@pe_tup _ _ _ _ _ (@pa_cons _ _ _ _ _ (pv 1) (@pa_cons _ _ _ _ _ (pv 2) (@pa_cons _ _ _ _ _ (pv 3) (@pa_cons _ _ _ _ _ (pv 4) (@pa_nil _) rfl) rfl) rfl) rfl))) (@pg_name _ _ (5) _ sc_Grove_joined.nd rfl (Or.inl rfl) (by first | exact .inl rfl | exact .inr rfl | assumption)) (@pss_one _ _ _ (@ps_expr _ _ _ _ (@pe_calm _ _ _ _ _ _ _ _ _ _ _ _ _ _ _ _ (pv 0) E_Grove_check_square (rm hr) passE (@pa_cons _ _ _ _ _ (pv 5) (@pa_nil _) rfl) rfl rfl rfl) rfl)) (by intro _ ; rfl)) (@pss_cons _ _ _ _ _ (@ps_set _ _ (6) _ _ _ _ sc_Grove_joined.nd rfl (Or.inr rfl) (@pe_ix _ _ _ _ _ _ _ (@ix_list _) (@pe_fld _ _ _ _ _ (pv 0) rfl) (pv 1) (fun _ _ => rfl)) rfl (by first | exact .inl rfl | exact .inr rfl | assumption)) (@pss_cons _ _ _ _ _ (@ps_if _ _ _ _ _ _ _ _ (@PW.pt _ _ _ (@pw_or _ _ _ _ _ _ _ (@pt_cmpR _ _ _ _ _ _ _ _ (@op_eq _) (pv 6) (@pe_gint _ _ _ _ rfl T.k_TOP_LEVEL (by decide)) (nomark _)) (@pw_or1 _ _ _ _ (@pt_val _ _ _ (@pe_callB _ _ _ _ _ _ _ _ _ (@call_any _ rfl) rfl T.b_any PyProof.Rows.boot_any (@pa_cons _ _ _ _ _ (@pe_comp _ _ _ _ _ _ _ _ _ _ _ _ _ _ rfl (@CScope.of _ ((defScope s_Grove_joined)) (n_Grove_joined) _ (["square", "self", "level"]) (1) ([0, 6]) rfl rfl (by decide +kernel)) (@pi_tup _ _ _ _ (@pe_tup _ _ _ _ _ (@pa_cons _ _ _ _ _ (pv 2) (@pa_cons _ _ _ _ _ (pv 3) (@pa_cons _ _ _ _ _ (pv 4) (@pa_nil _) rfl) rfl) rfl))) (fun _ _ _ => (@pgc_name _ _ _ _ _ _ _ _ (0) (by decide +kernel) rfl rfl)) (fun _ _ _ => (@pts_nil _)) (fun _ _ _ => (@pe_cmpR _ _ _ _ _ _ _ _ (@op_ne _) (@pe_ix _ _ _ _ _ _ _ (@ixc_list _ (K) rfl) (@pe_fldK _ (K) _ _ _ _ rfl (pv 1) rfl) (pv 0) (fun _ _ => rfl)) (pv 2) (nomark _))) (by intro _ ; rfl)) (@pa_nil _) rfl) (by decide) (by decide) rfl rfl) (by intro _ ; rfl))))) (@pss_one _ _ _ (@ps_raise _ _ _ _ _ _ _ _ _ _ raisesE rfl rfl T.mx_NoLevel T.ec_NoLevel (@pa_str _ _ _ _ _ _ (@pa_nil _)) (by decide) rfl rfl)) (@pss_nil _)) (@pss_one _ _ _ (@ps_ret _ _ _ _ (@pe_calm _ _ _ _ _ _ _ _ _ _ _ _ _ _ _ _ (pv 0) M_Grove_linked (rm hr) pass0 (@pa_tup _ _ _ _ _ _ _ (@pa_cons _ _ _ _ _ (pv 1) (@pa_cons _ _ _ _ _ (pv 2) (@pa_cons _ _ _ _ _ (pv 3) (@pa_cons _ _ _ _ _ (pv 4) (@pa_nil _) rfl) rfl) rfl) rfl) (@pa_nil _)) rfl rfl rfl)))))), ?_⟩
    try dsimp only [cxK]
    refine ⟨_, rfl, _, rfl, _, rfl, _, rfl, (by show 4 ≤ sizeLine; decide), fun t1 ht1 => ⟨t1, rfl, ⟨_, SqT.of upd_same⟩, ?_⟩⟩
    have s1 := same_up (o := .tup [v1, v2, v3, v4]) ht1
    have ht1' : upd H t1 (.tup [v1, v2, v3, v4]) t1 = some (.tup [v1, v2, v3, v4]) := upd_same
    generalize upd H t1 (.tup [v1, v2, v3, v4]) = H1 at s1 ht1' ⊢
    have hg1 := hg.same s1
    refine for_tup (xs := [v1, v2, v3, v4]) (fun i σ H2 => H1 = H2 ∧ (∀ j v, j < i → [v1, v2, v3, v4][j]? = some v → ¬ NoNum G v) ∧ ∃ u5 : Option V, σ = [some (.ref g.p), some v1, some v2, some v3, some v4, u5, none]) ⟨rfl, fun j v z => absurd z (by lia), none, rfl⟩ (fun i σ H2 _ q => q.1 ▸ SqT.of ht1') ?_ ?_
    · rintro i v σ H2 ev ⟨rfl, gd, u5, rfl⟩
      have ov := (od v (List.mem_of_getElem? ev)).same (H' := H1) fun b xs e => s1 _ _ e
      refine ⟨_, rfl, g.p, g.dx, _, rfl, hg1.hp, no_check g, _, rfl, g, G, v, rfl, hg1, ov, fun n e hn => ⟨rfl, fun j u hj eu => ?_, _, rfl⟩, fun no => ?_⟩
      · by_cases z : j < i
        · exact gd j u z eu
        · have : j = i := by lia
          subst this
          rw [ev] at eu
          cases eu
          subst e
          exact fun no => absurd (no n rfl) (by lia)
      · rcases h with ⟨_, ke⟩ | ⟨x, y, z, w', rfl, rfl, rfl, rfl, ⟨l, m, n, o, hx, hy, hz, hw, _⟩, _⟩
        · exact ke _ s1
        · exfalso
          have := List.mem_of_getElem? ev
          simp only [List.mem_cons, List.not_mem_nil, or_false] at this
          rcases this with rfl | rfl | rfl | rfl
          · have := no x rfl; have := hx.lt; lia
          · have := no y rfl; have := hy.lt; lia
          · have := no z rfl; have := hz.lt; lia
          · have := no w' rfl; have := hw.lt; lia
    · rintro σ H2 ⟨rfl, gd, u5, rfl⟩
      rcases h with ⟨⟨v, hv, no⟩, _⟩ | ⟨x, y, z, w', rfl, rfl, rfl, rfl, ⟨l, m, n, o, hx, hy, hz, hw, un⟩, ke⟩
      · obtain ⟨j, ej⟩ := List.getElem?_of_mem hv
        exact absurd no (gd j v (by have := (List.getElem?_eq_some_iff.mp ej).1; exact this) ej)
      · obtain ⟨qx, ex, lx⟩ := id hx
        refine ⟨_, rfl, g.p, _, g.dx, _, _, rfl, hg1.hp, T.cl_Grove, T.na_Grove_levels, fl6_lv g, _, rfl, g.lv, _, (x : Int), .int qx.lev, rfl, rfl, SqL.of hg1.lv, atI_nat (by rw [List.getElem?_map, ex]; rfl), ?_⟩
        rw [lx]
        refine ⟨_, rfl, rfl, _, rfl, ?_⟩
        by_cases l48 : l = 48
        · rw [decide_eq_true (by rw [l48])]
          exact iteT (iteT ⟨by show 1 ≤ 100; decide, ke _ s1⟩)
        rw [decide_eq_false (by intro z; injection z with z; lia)]
        refine iteF ⟨_, rfl, _, rfl, _, rfl, (by show 3 ≤ sizeLine; decide), fun t2 ht2 => ⟨t2, rfl, ⟨_, SqT.of upd_same⟩, ?_⟩⟩
        have s2 := same_up (o := .tup [.int y, .int z, .int w']) ht2
        have ht2' : upd H1 t2 (.tup [.int y, .int z, .int w']) t2 = some (.tup [.int y, .int z, .int w']) := upd_same
        generalize upd H1 t2 (.tup [.int y, .int z, .int w']) = H2 at s2 ht2' ⊢
        have hg2 := hg1.same s2
        have mem2 : ∀ (i : Nat) v, [V.int (y : Int), V.int (z : Int), V.int (w' : Int)][i]? = some v → ∃ (k : Nat) (q : Sq), v = .int k ∧ G[k]? = some q ∧ [m, n, o][i]? = some q.lev := fun i v e => by
          obtain ⟨q2, e2, l2⟩ := hy
          obtain ⟨q3, e3, l3⟩ := hz
          obtain ⟨q4, e4, l4⟩ := hw
          match i, e with
          | 0, e => cases e; exact ⟨y, q2, rfl, e2, by rw [l2]; rfl⟩
          | 1, e => cases e; exact ⟨z, q3, rfl, e3, by rw [l3]; rfl⟩
          | 2, e => cases e; exact ⟨w', q4, rfl, e4, by rw [l4]; rfl⟩
          | i + 3, e => simp at e
        refine blk_tup (xs := [.int y, .int z, .int w']) (fun i acc H4 => H2 = H4 ∧ acc = (([m, n, o].map fun k => !decide (V.int k = V.int l)).take i).map V.bl) ⟨rfl, rfl⟩ (fun i acc H4 _ z => z.1 ▸ SqT.of ht2') ?_ ?_
        · rintro i v acc H4 ev ⟨rfl, rfl⟩
          obtain ⟨k, q, rfl, en, lq⟩ := mem2 i v ev
          refine ⟨⟨[some (.int k)], rfl, rfl⟩, Nat.lt_of_le_of_lt (by rw [List.length_map, List.length_take]; exact Nat.min_le_right _ _) (lt_ln (n := 3) (by decide)), tyes ⟨_, rfl, g.p, _, g.dx, _, _, rfl, hg2.hp, T.cl_Grove, T.na_Grove_levels, fl6_lv g, _, rfl, g.lv, _, (k : Int), .int q.lev, rfl, rfl, SqL.of hg2.lv, atI_nat (by rw [List.getElem?_map, en]; rfl), _, rfl, rfl, rfl, ?_⟩⟩
          rw [List.take_add_one, List.map_append, List.getElem?_map, lq]
          rfl
        · rintro acc H4 ⟨rfl, rfl⟩ q hq
          refine ⟨q, ([m, n, o].map fun k => !decide (V.int k = V.int l)), rfl, SqL.of upd_same, _, rfl, ?_⟩
          have : ([m, n, o].map fun k => !decide (V.int k = V.int l)).any id = true := by
            rcases un with u | u | u | u
            · exact absurd u l48
            all_goals
              have : ∀ {k : Int}, k ≠ l → (!decide (V.int k = V.int l)) = true := fun {k} h => by rw [decide_eq_false (by intro z; injection z with z; exact h z)]; rfl
              simp only [List.map_cons, List.map_nil, List.any_cons, List.any_nil, id]
              rw [this u]
              simp
          refine ite2 (fun _ => ?_) (fun hc => absurd this hc)
          exact ⟨by show 1 ≤ 100; decide, ke _ ((s1.trans s2).trans (same_up hq))⟩
end
end J

set_option maxHeartbeats 200000
set_option Elab.async false
set_option linter.all false
set_option maxRecDepth 100000
set_option maxHeartbeats 4000000
/-! What is drawn to be refused; a deed that is refused; a question. -/
namespace J
open PySem L2
/-- what isinstance answers of a refusal of the class c, the d-th of the three that are due -/
structure KiX (K : PySem.W.Frag) (a : Ad) (c : Addr) (d : Nat) : Prop where
  ec : ExcC K c
  ef : ExcF K c
  mr : PySem.W.mroIn K c (.ref a.x_FieldError) = some true
  kv : PySem.W.kitOne K (.ref c) (.type "ValueError") = some true
  o1 : PySem.W.kitOne K (.ref c) (.ref a.x_NoNumber) = some false
  o2 : PySem.W.kitOne K (.ref c) (.ref a.x_NoRule) = some false
  o3 : PySem.W.kitOne K (.ref c) (.ref a.x_Restless) = some false
  o4 : PySem.W.kitOne K (.ref c) (.ref a.x_NoBox) = some false
  o5 : PySem.W.kitOne K (.ref c) (.ref a.x_TooFar) = some false
  o6 : PySem.W.kitOne K (.ref c) (.ref a.x_TooMany) = some false
  o7 : PySem.W.kitOne K (.ref c) (.ref a.x_NoSteps) = some false
  o8 : PySem.W.kitOne K (.ref c) (.ref a.x_NoPattern) = some false
  o9 : PySem.W.kitOne K (.ref c) (.ref a.x_NoName) = some false
  o10 : PySem.W.kitOne K (.ref c) (.ref a.x_NoRow) = some false
  s0 : PySem.W.kitOne K (.ref c) (.ref a.x_NoSquare) = some (decide (V.int d = V.int 0))
  s1 : PySem.W.kitOne K (.ref c) (.ref a.x_NoLevel) = some (decide (V.int d = V.int 1))
  s2 : PySem.W.kitOne K (.ref c) (.ref a.x_NoState) = some (decide (V.int d = V.int 2))
section
variable {P : Program} {w : World} {K : PySem.W.Frag} {mg : Str → Option Value} {base : Heap} {a : Ad}
theorem kix_sq (T : Top K mg a) : KiX K a a.x_NoSquare 0 := ⟨T.ec_NoSquare, T.ef_NoSquare, T.mr_NoSquare, T.kv_NoSquare, T.ki_NoSquare_NoNumber, T.ki_NoSquare_NoRule, T.ki_NoSquare_Restless, T.ki_NoSquare_NoBox, T.ki_NoSquare_TooFar, T.ki_NoSquare_TooMany, T.ki_NoSquare_NoSteps, T.ki_NoSquare_NoPattern, T.ki_NoSquare_NoName, T.ki_NoSquare_NoRow, T.ki_NoSquare_NoSquare, T.ki_NoSquare_NoLevel, T.ki_NoSquare_NoState⟩
theorem kix_lv (T : Top K mg a) : KiX K a a.x_NoLevel 1 := ⟨T.ec_NoLevel, T.ef_NoLevel, T.mr_NoLevel, T.kv_NoLevel, T.ki_NoLevel_NoNumber, T.ki_NoLevel_NoRule, T.ki_NoLevel_Restless, T.ki_NoLevel_NoBox, T.ki_NoLevel_TooFar, T.ki_NoLevel_TooMany, T.ki_NoLevel_NoSteps, T.ki_NoLevel_NoPattern, T.ki_NoLevel_NoName, T.ki_NoLevel_NoRow, T.ki_NoLevel_NoSquare, T.ki_NoLevel_NoLevel, T.ki_NoLevel_NoState⟩
theorem kix_st (T : Top K mg a) : KiX K a a.x_NoState 2 := ⟨T.ec_NoState, T.ef_NoState, T.mr_NoState, T.kv_NoState, T.ki_NoState_NoNumber, T.ki_NoState_NoRule, T.ki_NoState_Restless, T.ki_NoState_NoBox, T.ki_NoState_TooFar, T.ki_NoState_TooMany, T.ki_NoState_NoSteps, T.ki_NoState_NoPattern, T.ki_NoState_NoName, T.ki_NoState_NoRow, T.ki_NoState_NoSquare, T.ki_NoState_NoLevel, T.ki_NoState_NoState⟩
theorem log8 {r : Int} (h1 : 0 ≤ r) (h2 : r < 8) : r.natAbs.log2 < 1920 := by
  have : r.natAbs < 8 := by lia
  by_cases z : r.natAbs = 0
  · rw [z]; decide
  · exact Nat.lt_trans ((Nat.log2_lt z).mpr (Nat.lt_of_lt_of_le this (by decide : 8 ≤ 2 ^ 3))) (by decide)
inductive SpBad (vs : List V) (H : Hp) (Q : VK) : Prop
  | mk (c m : Int) (_ : vs = [.int c, .int m]) (_ : 0 ≤ m) (_ : ∀ v H', Odd H' v → Same H H' → (∀ i : Int, v = .int i → i < 0 ∨ m < i) → Q v H') : SpBad vs H Q
def spBad : Sp := fun vs H Q _ => SpBad vs H Q
theorem pow30 : ((10 : Int) ^ (30 : Int).toNat) = 1000000000000000000000000000000 := by decide
theorem ok_bad {f : Addr} {fd : FuncData} (F : Fun K "_law_bad" "_law_bad" s__law_bad f fd) (T : Top K mg a) : FnOk P w K mg base CX0 1 f fd p__law_bad spBad := by
  refine F.ok sc__law_bad (fun vs H Q E h => ?_) (fun cdv A outer s H vs Q E hr h => ?_)
  · obtain ⟨c, m, rfl, _⟩ := h
    rfl
  · obtain ⟨c, m, rfl, m0, k⟩ := h
    refine ⟨_, (@pss_cons _ _ _ _ _ (@ps_set _ _ (2) _ _ _ _ sc__law_bad.nd rfl (Or.inl rfl) (@pe_op _ _ _ _ _ _ _ _ (@op_mod _) (pv 0) (@pe_int _ _ _ _)) rfl (by first | exact .inl rfl | exact .inr rfl | assumption)) (@pss_cons _ _ _ _ _ (@ps_set _ _ (3) _ _ _ _ sc__law_bad.nd rfl (Or.inl rfl) (@pe_op _ _ _ _ _ _ _ _ (@op_mod _) (@pe_op _ _ _ _ _ _ _ _ (@op_fdiv _) (pv 0) (@pe_int _ _ _ _)) (@pe_op _ _ _ _ _ _ _ _ (@op_pow _) (@pe_int _ _ _ _) (@pe_int _ _ _ _))) rfl (by first | exact .inl rfl | exact .inr rfl | assumption)) (@pss_cons _ _ _ _ _ (@ps_if _ _ _ _ _ _ _ _ (@pt_cmpR _ _ _ _ _ _ _ _ (@op_eq _) (pv 2) (@pe_int _ _ _ _) (nomark _)) (@pss_one _ _ _ (@ps_ret _ _ _ _ (@pe_op _ _ _ _ _ _ _ _ (@op_sub _) (@pe_un _ _ _ _ _ _ (@un_neg _) (@pe_int _ _ _ _)) (pv 3)))) (@pss_nil _)) (@pss_cons _ _ _ _ _ (@ps_if _ _ _ _ _ _ _ _ (@pt_cmpR _ _ _ _ _ _ _ _ (@op_eq _) (pv 2) (@pe_int _ _ _ _) (nomark _)) (@pss_one _ _ _ (@ps_ret _ _ _ _ (@pe_op _ _ _ _ _ _ _ _ (@op_add _) (@pe_op _ _ _ _ _ _ _ _ (@op_add _) (pv 1) (@pe_int _ _ _ _)) (pv 3)))) (@pss_nil _)) (@pss_cons _ _ _ _ _ (@ps_if _ _ _ _ _ _ _ _ (@pt_cmpR _ _ _ _ _ _ _ _ (@op_eq _) (pv 2) (@pe_int _ _ _ _) (nomark _)) (@pss_one _ _ _ (@ps_ret _ _ _ _ (@pe_op _ _ _ _ _ _ _ _ (@op_add _) (pv 1) (@pe_int _ _ _ _)))) (@pss_nil _)) (@pss_cons _ _ _ _ _ (@ps_if _ _ _ _ _ _ _ _ (@pt_cmpR _ _ _ _ _ _ _ _ (@op_eq _) (pv 2) (@pe_int _ _ _ _) (nomark _)) (@pss_one _ _ _ (@ps_ret _ _ _ _ (@pe_un _ _ _ _ _ _ (@un_neg _) (@pe_int _ _ _ _)))) (@pss_nil _)) (@pss_cons _ _ _ _ _ (@ps_if _ _ _ _ _ _ _ _ (@pt_cmpR _ _ _ _ _ _ _ _ (@op_eq _) (pv 2) (@pe_int _ _ _ _) (nomark _)) (@pss_one _ _ _ (@ps_ret _ _ _ _ (@pe_cmpR _ _ _ _ _ _ _ _ (@op_eq _) (@pe_op _ _ _ _ _ _ _ _ (@op_mod _) (pv 3) (@pe_int _ _ _ _)) (@pe_int _ _ _ _) (nomark _)))) (@pss_nil _)) (@pss_cons _ _ _ _ _ (@ps_if _ _ _ _ _ _ _ _ (@pt_cmpR _ _ _ _ _ _ _ _ (@op_eq _) (pv 2) (@pe_int _ _ _ _) (nomark _)) (@pss_one _ _ _ (@ps_ret _ _ _ _ (@pe_non _ _ _))) (@pss_nil _)) (@pss_cons _ _ _ _ _ (@ps_if _ _ _ _ _ _ _ _ (@pt_cmpR _ _ _ _ _ _ _ _ (@op_eq _) (pv 2) (@pe_int _ _ _ _) (nomark _)) (@pss_one _ _ _ (@ps_ret _ _ _ _ (@pe_callTy _ _ _ _ _ _ _ _ _ (@call_str_int _) rfl T.b_str PyProof.Rows.boot_str (@pa_op _ _ _ _ _ _ _ _ _ _ (@op_mod _) (pv 3) (@pe_int _ _ _ _) (@pa_nil _)) (by decide) (by decide) rfl rfl))) (@pss_nil _)) (@pss_one _ _ _ (@ps_ret _ _ _ _ (@pe_tup _ _ _ _ _ (@pa_op _ _ _ _ _ _ _ _ _ _ (@op_mod _) (pv 3) (@pe_int _ _ _ _) (@pa_nil _)))))))))))))), ?_⟩
    try dsimp only [cxK]
    refine ⟨_, rfl, _, _, rfl, rfl, (by show (0 : Int) < 8; decide), ?_⟩
    refine ⟨_, rfl, _, _, rfl, rfl, ⟨by decide, by decide⟩, _, _, rfl, rfl, ⟨by decide, by decide, by decide⟩, ?_⟩
    refine ⟨_, _, rfl, rfl, by show (0 : Int) < 10 ^ (30 : Int).toNat; decide, ?_⟩
    rw [pow30]
    have f0 : 0 ≤ c / 8 % 1000000000000000000000000000000 := Int.emod_nonneg _ (by decide)
    have st : ∀ {n : Int} {A B : Prop}, (c % 8 = n → A) → (c % 8 ≠ n → B) → if decide (V.int (c % 8) = V.int n) = true then A else B := fun {n A B} h1 h2 => ite2 (fun z => h1 (by have := of_decide_eq_true z; injection this)) (fun z => h2 (fun e => z (decide_eq_true (by rw [e]))))
    refine ⟨_, rfl, rfl, _, rfl, st (fun _ => ?_) (fun _ => ?_)⟩
    · exact ⟨_, rfl, _, rfl, _, _, rfl, rfl, k _ H (.int _) (Same.refl H) fun i e => by injection e with e; lia⟩
    refine ⟨_, rfl, rfl, _, rfl, st (fun _ => ?_) (fun _ => ?_)⟩
    · exact ⟨_, rfl, _, _, rfl, rfl, _, rfl, _, _, rfl, rfl, k _ H (.int _) (Same.refl H) fun i e => by injection e with e; lia⟩
    refine ⟨_, rfl, rfl, _, rfl, st (fun _ => ?_) (fun _ => ?_)⟩
    · exact ⟨_, rfl, _, _, rfl, rfl, k _ H (.int _) (Same.refl H) fun i e => by injection e with e; lia⟩
    refine ⟨_, rfl, rfl, _, rfl, st (fun _ => ?_) (fun _ => ?_)⟩
    · exact ⟨_, rfl, k _ H (.int _) (Same.refl H) fun i e => by injection e with e; lia⟩
    refine ⟨_, rfl, rfl, _, rfl, st (fun _ => ?_) (fun _ => ?_)⟩
    · exact ⟨_, rfl, _, _, rfl, rfl, (by show (0 : Int) < 2; decide), rfl, k _ H (.bl _) (Same.refl H) fun i e => by cases e⟩
    refine ⟨_, rfl, rfl, _, rfl, st (fun _ => ?_) (fun _ => ?_)⟩
    · exact k _ H .non (Same.refl H) fun i e => by cases e
    refine ⟨_, rfl, rfl, _, rfl, st (fun _ => ?_) (fun _ => ?_)⟩
    · refine ⟨_, rfl, _, _, rfl, rfl, (by show (0 : Int) < 8; decide), _, rfl, ?_, k _ H (.str _) (Same.refl H) fun i e => by cases e⟩
      exact log8 (Int.emod_nonneg _ (by decide)) (Int.emod_lt_of_pos _ (by decide))
    · refine ⟨_, rfl, _, _, rfl, rfl, (by show (0 : Int) < 8; decide), (by show 1 ≤ sizeLine; decide), fun t ht => ?_⟩
      exact k _ _ (.tup t _ upd_same) (same_up ht) fun i e => by cases e
inductive SpOth (K : PySem.W.Frag) (a : Ad) (vs : List V) (H : Hp) (Q : VK) : Prop
  | mk (e c : Addr) (d : Nat) (_ : vs = [.ref e]) (_ : H e = some (isExc e c)) (_ : KiX K a c d) (_ : ∀ p H', Same H H' → H' p = some (.lst ((List.replicate 10 false).map V.bl)) → Q (.ref p) H') : SpOth K a vs H Q
def spOth (K : PySem.W.Frag) (a : Ad) : Sp := fun vs H Q _ => SpOth K a vs H Q
theorem ok_oth {f : Addr} {fd : FuncData} (F : Fun K "_law_others" "_law_others" s__law_others f fd) (T : Top K mg a) : FnOkH P w K mg base 1 f fd p__law_others (spOth K a) := by
  refine F.okH sc__law_others (fun vs H Q E h => ?_) (fun cdv A outer s H vs Q hr h => ?_)
  · obtain ⟨e, c, d, rfl, _⟩ := h
    rfl
  · obtain ⟨e, c, d, rfl, he, ki, k⟩ := h
    refine ⟨_, (@pss_cons _ _ _ _ _ (@ps_set _ _ (1) _ _ _ _ sc__law_others.nd rfl (Or.inl rfl) (@pe_lst _ _ _ _ (@pa_cons _ _ _ _ _ (@pe_callB _ _ _ _ _ _ _ _ _ (@call_isi _) rfl T.b_isinstance PyProof.Rows.boot_isinstance (@pa_cons _ _ _ _ _ (pv 0) (@pa_cons _ _ _ _ _ (@pe_gref _ _ _ _ rfl T.mx_NoNumber (by decide)) (@pa_nil _) rfl) rfl) (by decide) (by decide) rfl rfl) (@pa_cons _ _ _ _ _ (@pe_callB _ _ _ _ _ _ _ _ _ (@call_isi _) rfl T.b_isinstance PyProof.Rows.boot_isinstance (@pa_cons _ _ _ _ _ (pv 0) (@pa_cons _ _ _ _ _ (@pe_gref _ _ _ _ rfl T.mx_NoRule (by decide)) (@pa_nil _) rfl) rfl) (by decide) (by decide) rfl rfl) (@pa_cons _ _ _ _ _ (@pe_callB _ _ _ _ _ _ _ _ _ (@call_isi _) rfl T.b_isinstance PyProof.Rows.boot_isinstance (@pa_cons _ _ _ _ _ (pv 0) (@pa_cons _ _ _ _ _ (@pe_gref _ _ _ _ rfl T.mx_Restless (by decide)) (@pa_nil _) rfl) rfl) (by decide) (by decide) rfl rfl) (@pa_cons _ _ _ _ _ (@pe_callB _ _ _ _ _ _ _ _ _ (@call_isi _) rfl T.b_isinstance PyProof.Rows.boot_isinstance (@pa_cons _ _ _ _ _ (pv 0) (@pa_cons _ _ _ _ _ (@pe_gref _ _ _ _ rfl T.mx_NoBox (by decide)) (@pa_nil _) rfl) rfl) (by decide) (by decide) rfl rfl) (@pa_nil _) rfl) rfl) rfl) rfl)) rfl (by first | exact .inl rfl | exact .inr rfl | assumption)) (@pss_cons _ _ _ _ _ (@ps_set _ _ (1) _ _ _ _ sc__law_others.nd rfl (Or.inl rfl) (@pe_op _ _ _ _ _ _ _ _ (@op_cat _) (pv 1) (@pe_lst _ _ _ _ (@pa_cons _ _ _ _ _ (@pe_callB _ _ _ _ _ _ _ _ _ (@call_isi _) rfl T.b_isinstance PyProof.Rows.boot_isinstance (@pa_cons _ _ _ _ _ (pv 0) (@pa_cons _ _ _ _ _ (@pe_gref _ _ _ _ rfl T.mx_TooFar (by decide)) (@pa_nil _) rfl) rfl) (by decide) (by decide) rfl rfl) (@pa_cons _ _ _ _ _ (@pe_callB _ _ _ _ _ _ _ _ _ (@call_isi _) rfl T.b_isinstance PyProof.Rows.boot_isinstance (@pa_cons _ _ _ _ _ (pv 0) (@pa_cons _ _ _ _ _ (@pe_gref _ _ _ _ rfl T.mx_TooMany (by decide)) (@pa_nil _) rfl) rfl) (by decide) (by decide) rfl rfl) (@pa_cons _ _ _ _ _ (@pe_callB _ _ _ _ _ _ _ _ _ (@call_isi _) rfl T.b_isinstance PyProof.Rows.boot_isinstance (@pa_cons _ _ _ _ _ (pv 0) (@pa_cons _ _ _ _ _ (@pe_gref _ _ _ _ rfl T.mx_NoSteps (by decide)) (@pa_nil _) rfl) rfl) (by decide) (by decide) rfl rfl) (@pa_nil _) rfl) rfl) rfl))) rfl (by first | exact .inl rfl | exact .inr rfl | assumption)) (@pss_one _ _ _ (@ps_ret _ _ _ _ (@pe_op _ _ _ _ _ _ _ _ (@op_cat _) (pv 1) (@pe_lst _ _ _ _ (@pa_cons _ _ _ _ _ (@pe_callB _ _ _ _ _ _ _ _ _ (@call_isi _) rfl T.b_isinstance PyProof.Rows.boot_isinstance (@pa_cons _ _ _ _ _ (pv 0) (@pa_cons _ _ _ _ _ (@pe_gref _ _ _ _ rfl T.mx_NoPattern (by decide)) (@pa_nil _) rfl) rfl) (by decide) (by decide) rfl rfl) (@pa_cons _ _ _ _ _ (@pe_callB _ _ _ _ _ _ _ _ _ (@call_isi _) rfl T.b_isinstance PyProof.Rows.boot_isinstance (@pa_cons _ _ _ _ _ (pv 0) (@pa_cons _ _ _ _ _ (@pe_gref _ _ _ _ rfl T.mx_NoName (by decide)) (@pa_nil _) rfl) rfl) (by decide) (by decide) rfl rfl) (@pa_cons _ _ _ _ _ (@pe_callB _ _ _ _ _ _ _ _ _ (@call_isi _) rfl T.b_isinstance PyProof.Rows.boot_isinstance (@pa_cons _ _ _ _ _ (pv 0) (@pa_cons _ _ _ _ _ (@pe_gref _ _ _ _ rfl T.mx_NoRow (by decide)) (@pa_nil _) rfl) rfl) (by decide) (by decide) rfl rfl) (@pa_nil _) rfl) rfl) rfl))))))), ?_⟩
    try dsimp only [cxK]
    have ty : ∀ {H2 : Hp}, Same H H2 → TyX K H2 (.ref e) (.ref c) := fun s => .exc (s _ _ he) ki.ef
    have s0 := Same.refl H
    refine ⟨_, rfl, _, _, _, _, _, rfl, rfl, ty s0, ki.o1, _, rfl, _, _, _, _, _, rfl, rfl, ty s0, ki.o2, _, rfl, _, _, _, _, _, rfl, rfl, ty s0, ki.o3, _, rfl, _, _, _, _, _, rfl, rfl, ty s0, ki.o4, by show 4 ≤ sizeLine; decide, fun p1 hp1 => ?_⟩
    have s1 := same_up (o := .lst [.bl false, .bl false, .bl false, .bl false]) hp1
    have h1 : upd H p1 (.lst [.bl false, .bl false, .bl false, .bl false]) p1 = some _ := upd_same
    generalize upd H p1 (.lst [.bl false, .bl false, .bl false, .bl false]) = H1 at s1 h1 ⊢
    refine ⟨_, rfl, _, rfl, _, _, _, _, _, rfl, rfl, ty s1, ki.o5, _, rfl, _, _, _, _, _, rfl, rfl, ty s1, ki.o6, _, rfl, _, _, _, _, _, rfl, rfl, ty s1, ki.o7, by show 3 ≤ sizeLine; decide, fun p2 hp2 => ?_⟩
    refine ⟨p1, p2, _, _, rfl, rfl, (same_up hp2 _ _ h1), upd_same, (by show 4 + 3 ≤ sizeLine; decide), fun p3 hp3 => ?_⟩
    obtain ⟨H3, s3, h3, eH3⟩ : ∃ H3, Same H1 H3 ∧ H3 p3 = some (.lst [.bl false, .bl false, .bl false, .bl false, .bl false, .bl false, .bl false]) ∧ upd (upd H1 p2 (.lst [.bl false, .bl false, .bl false])) p3 (.lst ([.bl false, .bl false, .bl false, .bl false] ++ [.bl false, .bl false, .bl false])) = H3 := ⟨_, (same_up hp2).trans (same_up hp3), upd_same, rfl⟩
    rw [eH3]
    have s3 := s1.trans s3
    clear eH3
    refine ⟨_, rfl, _, rfl, _, _, _, _, _, rfl, rfl, ty s3, ki.o8, _, rfl, _, _, _, _, _, rfl, rfl, ty s3, ki.o9, _, rfl, _, _, _, _, _, rfl, rfl, ty s3, ki.o10, by show 3 ≤ sizeLine; decide, fun p4 hp4 => ?_⟩
    refine ⟨p3, p4, _, _, rfl, rfl, (same_up hp4 _ _ h3), upd_same, (by show 7 + 3 ≤ sizeLine; decide), fun p5 hp5 => ?_⟩
    exact k p5 _ ((s3.trans (same_up hp4)).trans (same_up hp5)) upd_same
/-- what a deed does that is refused with the d-th class and changes nothing -/
def spD (K : PySem.W.Frag) (a : Ad) (d : Nat) (H : Hp) : VK → XK → Prop := fun _ E => ∀ c H', KiX K a c d → Same H H' → E (.ref c) none H'
inductive SpRef (P : Program) (w : World) (K : PySem.W.Frag) (mg : Str → Option Value) (base : Heap) (a : Ad) (k : Nat) (outer : List Env) (s : Shared) (vs : List V) (H : Hp) (Q : VK) : Prop
  | mk (p : Addr) (d : Nat) (_ : vs = [.ref p, .int d]) (_ : ∃ fd, H p = some (isLam p fd)) (_ : Deed P w K mg base k p outer s H (spD K a d H)) (_ : ∀ H', Same H H' → Q (.bl true) H') : SpRef P w K mg base a k outer s vs H Q
def spRef (P : Program) (w : World) (K : PySem.W.Frag) (mg : Str → Option Value) (base : Heap) (a : Ad) (k : Nat) : SpS := fun outer s vs H Q _ => SpRef P w K mg base a k outer s vs H Q
def SRf (p : Addr) (d : Nat) (σ : St) : Prop := ∃ x3 x4, σ = [some (.ref p), some (.int d), x3, x4]
theorem ok_ref {f : Addr} {fd : FuncData} {k : Nat} (F : Fun K "_law_refused" "_law_refused" s__law_refused f fd) (T : Top K mg a) (hk : 1 ≤ k) (H__law_others : CalH P w K mg base 1 "_law_others" p__law_others (spOth K a)) : FnOkS P w K mg base CX0 (k + 1) f fd p__law_refused (spRef P w K mg base a k) := by
  refine F.okS sc__law_refused (fun o s vs H Q E h => ?_) (fun cdv A outer s H vs Q E hr h => ?_)
  · obtain ⟨p, d, rfl, _⟩ := h
    rfl
  · obtain ⟨p, d, rfl, hlam, D, q⟩ := h
    refine ⟨_, (@pss_cons _ _ _ _ _ (@ps_tryAs _ _ _ _ _ _ _ (2) _ _ _ ((SRf p d)) _ _ rfl rfl rfl rfl rfl T.mx_FieldError T.ec_FieldError sc__law_refused.nd rfl rfl (fun xe pn E1 pass => (@pss_one _ _ _ (@ps_expr _ _ _ _ (@pe_deed _ _ _ _ _ (0) _ _ _ _ (H) rfl rfl rfl (rm hr) D pass rfl hlam (by decide)) rfl))) (fun ea => (@pss_cons _ _ _ _ _ (@ps_if _ _ _ _ _ _ _ _ (@PW.pt _ _ _ (@pw_or _ _ _ _ _ _ _ (@pt_not _ _ _ _ (@pt_val _ _ _ (@pe_callB _ _ _ _ _ _ _ _ _ (@call_isiK _ K rfl) rfl T.b_isinstance PyProof.Rows.boot_isinstance (@pa_cons _ _ _ _ _ (pv 2) (@pa_cons _ _ _ _ _ (@pe_bltn _ _ ((.ty "ValueError")) _ _ rfl T.b_ValueError PyProof.Rows.Boot.«ValueError» rfl (by decide) (by decide)) (@pa_nil _) rfl) rfl) (by decide) (by decide) rfl rfl) (by intro _ ; rfl))) (@pw_or1 _ _ _ _ (@pt_cmpR _ _ _ _ _ _ _ _ (@op_in_seqK _ K rfl) (@pe_bl _ _ _ _) (@pe_calH _ _ _ _ _ _ _ _ _ _ H__law_others ((rm hr).marked _) rfl (@pa_cons _ _ _ _ _ (pv 2) (@pa_nil _) rfl) (by decide) rfl rfl) rfl)))) (@pss_one _ _ _ (@ps_ret _ _ _ _ (@pe_bl _ _ _ _))) (@pss_nil _)) (@pss_cons _ _ _ _ _ (@ps_set _ _ (3) _ _ _ _ sc__law_refused.nd rfl (Or.inl rfl) (@pe_lst _ _ _ _ (@pa_cons _ _ _ _ _ (@pe_callB _ _ _ _ _ _ _ _ _ (@call_isiK _ K rfl) rfl T.b_isinstance PyProof.Rows.boot_isinstance (@pa_cons _ _ _ _ _ (pv 2) (@pa_cons _ _ _ _ _ (@pe_gref _ _ _ _ rfl T.mx_NoSquare (by decide)) (@pa_nil _) rfl) rfl) (by decide) (by decide) rfl rfl) (@pa_cons _ _ _ _ _ (@pe_callB _ _ _ _ _ _ _ _ _ (@call_isiK _ K rfl) rfl T.b_isinstance PyProof.Rows.boot_isinstance (@pa_cons _ _ _ _ _ (pv 2) (@pa_cons _ _ _ _ _ (@pe_gref _ _ _ _ rfl T.mx_NoLevel (by decide)) (@pa_nil _) rfl) rfl) (by decide) (by decide) rfl rfl) (@pa_cons _ _ _ _ _ (@pe_callB _ _ _ _ _ _ _ _ _ (@call_isiK _ K rfl) rfl T.b_isinstance PyProof.Rows.boot_isinstance (@pa_cons _ _ _ _ _ (pv 2) (@pa_cons _ _ _ _ _ (@pe_gref _ _ _ _ rfl T.mx_NoState (by decide)) (@pa_nil _) rfl) rfl) (by decide) (by decide) rfl rfl) (@pa_nil _) rfl) rfl) rfl)) rfl (by first | exact .inl rfl | exact .inr rfl | assumption)) (@pss_one _ _ _ (@ps_ret _ _ _ _ (@pe_cmpR _ _ _ _ _ _ _ _ (@op_eq_listB _ K rfl hr.units) (pv 3) (@pe_lst _ _ _ _ (@pa_cons _ _ _ _ _ (@pe_cmpR _ _ _ _ _ _ _ _ (@op_eq _) (pv 1) (@pe_int _ _ _ _) (nomark _)) (@pa_cons _ _ _ _ _ (@pe_cmpR _ _ _ _ _ _ _ _ (@op_eq _) (pv 1) (@pe_int _ _ _ _) (nomark _)) (@pa_cons _ _ _ _ _ (@pe_cmpR _ _ _ _ _ _ _ _ (@op_eq _) (pv 1) (@pe_int _ _ _ _) (nomark _)) (@pa_nil _) rfl) rfl) rfl)) (nomark _))))))) (by decide)) (@pss_one _ _ _ (@ps_ret _ _ _ _ (@pe_bl _ _ _ _)))), ?_⟩
    try dsimp only [cxK]
    refine ⟨rfl, rfl, ⟨_, _, rfl⟩, fun c H' ki sm => ?_⟩
    refine ⟨c, rfl, ki.ec, ki.mr, fun σ' e hS he => ?_⟩
    obtain ⟨x3, x4, rfl⟩ := hS
    have s1 := same_up (o := isExc e c) he
    have h1 : upd H' e (isExc e c) e = some (isExc e c) := upd_same
    generalize upd H' e (isExc e c) = H1 at s1 h1 ⊢
    have ty : ∀ {H2 : Hp}, Same H1 H2 → TyX K H2 (.ref e) (.ref c) := fun s => .exc (s _ _ h1) ki.ef
    refine ⟨_, rfl, _, _, _, _, _, rfl, rfl, ty (Same.refl H1), ki.kv, true, rfl, iteF ?_⟩
    refine ⟨_, rfl, e, c, d, rfl, h1, ki, fun p2 H2 s2 h2 => ?_⟩
    refine ⟨p2, _, rfl, .inl (SqL.of h2), rfl, rfl, false, rfl, iteF ?_⟩
    refine ⟨_, rfl, _, _, _, _, _, rfl, rfl, ty s2, ki.s0, _, rfl, _, _, _, _, _, rfl, rfl, ty s2, ki.s1, _, rfl, _, _, _, _, _, rfl, rfl, ty s2, ki.s2, by show 3 ≤ sizeLine; decide, fun p3 hp3 => ?_⟩
    refine ⟨_, rfl, _, rfl, rfl, _, rfl, rfl, _, rfl, rfl, by show 3 ≤ sizeLine; decide, fun p4 hp4 => ?_⟩
    have s3 := same_up (o := .lst ([decide (V.int (d : Int) = V.int 0), decide (V.int (d : Int) = V.int 1), decide (V.int (d : Int) = V.int 2)].map V.bl)) hp3
    refine ⟨⟨p3, p4, [decide (V.int (d : Int) = V.int 0), decide (V.int (d : Int) = V.int 1), decide (V.int (d : Int) = V.int 2)], rfl, rfl, SqL.of (same_up hp4 _ _ upd_same), SqL.of upd_same⟩, ?_⟩
    exact q _ ((((sm.trans s1).trans s2).trans s3).trans (same_up hp4))
/-- a question that is refused: with NoSquare, or one of two with NoLevel -/
inductive SpAsk (K : PySem.W.Frag) (a : Ad) (vs : List V) (H : Hp) (E : XK) : Prop
  | mk (g : GA) (G : Gv) (v : V) (n : Int) (d : Nat) (_ : vs = [.ref g.p, v, .int n]) (_ : GroveAt a H g G) (_ : Odd H v) (_ : (d = 0 ∧ NoNum G v) ∨ (d = 1 ∧ n = 1 ∧ ∃ i : Nat, v = .int i ∧ LevAt G i 0) ∨ (d = 1 ∧ n = 2 ∧ ∃ (i : Nat) (l : Int), v = .int i ∧ LevAt G i l ∧ l ≠ 0)) (_ : ∀ c, KiX K a c d → E (.ref c) none H) : SpAsk K a vs H E
def spAsk (K : PySem.W.Frag) (a : Ad) : Sp := fun vs H _ E => SpAsk K a vs H E
theorem ok_ask {f : Addr} {fd : FuncData} (F : Fun K "_law_ask" "_law_ask" s__law_ask f fd) (T : Top K mg a) (E_Grove_level_of : CalM P w K mg base (CXE P w) 3 a.c_Grove "level_of" p_Grove_level_of (spLvX a)) (E_Grove_quarters : CalM P w K mg base (CXE P w) 4 a.c_Grove "quarters" p_Grove_quarters (spQuX a)) (E_Grove_state_of : CalM P w K mg base (CXE P w) 4 a.c_Grove "state_of" p_Grove_state_of (spStX a)) (E_Grove_living : CalM P w K mg base (CXE P w) 3 a.c_Grove "living" p_Grove_living (spLiX a)) (E_Grove_span : CalM P w K mg base (CXE P w) 3 a.c_Grove "span" p_Grove_span (spLiX a)) : FnOk P w K mg base (CXE P w) 5 f fd p__law_ask (spAsk K a) := by
  refine F.okE sc__law_ask (fun vs H Q E h => ?_) (fun cdv A outer s H vs Q E hr h => ?_)
  · obtain ⟨g, G, v, n, d, rfl, _⟩ := h
    rfl
  · obtain ⟨g, G, v, n, d, rfl, hg, ov, why, ke⟩ := h
    refine ⟨_, (@pss_cons _ _ _ _ _ (@ps_if _ _ _ _ _ _ _ _ (@pt_cmpR _ _ _ _ _ _ _ _ (@op_eq _) (pv 2) (@pe_int _ _ _ _) (nomark _)) (@pss_one _ _ _ (@ps_ret _ _ _ _ (@pe_calm _ _ _ _ _ _ _ _ _ _ _ _ _ _ _ _ (pv 0) E_Grove_level_of (rm hr) passE (@pa_cons _ _ _ _ _ (pv 1) (@pa_nil _) rfl) rfl rfl rfl))) (@pss_nil _)) (@pss_cons _ _ _ _ _ (@ps_if _ _ _ _ _ _ _ _ (@pt_cmpR _ _ _ _ _ _ _ _ (@op_eq _) (pv 2) (@pe_int _ _ _ _) (nomark _)) (@pss_one _ _ _ (@ps_ret _ _ _ _ (@pe_calm _ _ _ _ _ _ _ _ _ _ _ _ _ _ _ _ (pv 0) E_Grove_quarters (rm hr) passE (@pa_cons _ _ _ _ _ (pv 1) (@pa_nil _) rfl) rfl rfl rfl))) (@pss_nil _)) (@pss_cons _ _ _ _ _ (@ps_if _ _ _ _ _ _ _ _ (@pt_cmpR _ _ _ _ _ _ _ _ (@op_eq _) (pv 2) (@pe_int _ _ _ _) (nomark _)) (@pss_one _ _ _ (@ps_ret _ _ _ _ (@pe_calm _ _ _ _ _ _ _ _ _ _ _ _ _ _ _ _ (pv 0) E_Grove_state_of (rm hr) passE (@pa_cons _ _ _ _ _ (pv 1) (@pa_nil _) rfl) rfl rfl rfl))) (@pss_nil _)) (@pss_cons _ _ _ _ _ (@ps_if _ _ _ _ _ _ _ _ (@pt_cmpR _ _ _ _ _ _ _ _ (@op_eq _) (pv 2) (@pe_int _ _ _ _) (nomark _)) (@pss_one _ _ _ (@ps_ret _ _ _ _ (@pe_calm _ _ _ _ _ _ _ _ _ _ _ _ _ _ _ _ (pv 0) E_Grove_living (rm hr) passE (@pa_cons _ _ _ _ _ (pv 1) (@pa_nil _) rfl) rfl rfl rfl))) (@pss_nil _)) (@pss_one _ _ _ (@ps_ret _ _ _ _ (@pe_calm _ _ _ _ _ _ _ _ _ _ _ _ _ _ _ _ (pv 0) E_Grove_span (rm hr) passE (@pa_cons _ _ _ _ _ (pv 1) (@pa_nil _) rfl) rfl rfl rfl))))))), ?_⟩
    try dsimp only [cxK]
    have sq : ∀ {X : Prop}, NoNum G v → (d = 0 → X) → X := fun {X} no h => by
      rcases why with ⟨e, _⟩ | ⟨_, _, i, rfl, q, e1, _⟩ | ⟨_, _, i, l, rfl, ⟨q, e1, _⟩, _⟩
      · exact h e
      · exact (no_num no e1).elim
      · exact (no_num no e1).elim
    have st : ∀ {m : Int} {A B : Prop}, (n = m → A) → (n ≠ m → B) → if decide (V.int n = V.int m) = true then A else B := fun {m A B} h1 h2 => ite2 (fun z => h1 (by have := of_decide_eq_true z; injection this)) (fun z => h2 (fun e => z (decide_eq_true (by rw [e]))))
    refine ⟨_, rfl, rfl, _, rfl, st (fun e => ?_) (fun n0 => ?_)⟩
    · refine ⟨_, rfl, g.p, g.dx, _, rfl, hg.hp, no_levelOf g, _, rfl, g, G, v, rfl, hg, ov, fun i q ei eq => ?_, fun no => sq no fun d0 => ke _ (d0 ▸ kix_sq T)⟩
      rcases why with ⟨_, no⟩ | ⟨_, z, _⟩ | ⟨_, z, _⟩
      · subst ei
        exact (no_num no eq).elim
      · lia
      · lia
    refine ⟨_, rfl, rfl, _, rfl, st (fun e => ?_) (fun n1 => ?_)⟩
    · refine ⟨_, rfl, g.p, g.dx, _, rfl, hg.hp, no_quarters g, _, rfl, g, G, v, rfl, hg, ov, ?_⟩
      rcases why with ⟨d0, no⟩ | ⟨d1, _, i, e1, e2⟩ | ⟨_, z, _⟩
      · exact .inl ⟨no, ke _ (d0 ▸ kix_sq T)⟩
      · exact .inr ⟨i, e1, e2, ke _ (d1 ▸ kix_lv T)⟩
      · lia
    refine ⟨_, rfl, rfl, _, rfl, st (fun e => ?_) (fun n2 => ?_)⟩
    · refine ⟨_, rfl, g.p, g.dx, _, rfl, hg.hp, no_stateOf g, _, rfl, g, G, v, rfl, hg, ov, ?_⟩
      rcases why with ⟨d0, no⟩ | ⟨_, z, _⟩ | ⟨d1, _, i, l, e1, e2, e3⟩
      · exact .inl ⟨no, ke _ (d0 ▸ kix_sq T)⟩
      · lia
      · exact .inr ⟨i, l, e1, e2, e3, ke _ (d1 ▸ kix_lv T)⟩
    have no : NoNum G v ∧ d = 0 := by
      rcases why with ⟨d0, no⟩ | ⟨_, z, _⟩ | ⟨_, z, _⟩
      · exact ⟨no, d0⟩
      · exact absurd z n1
      · exact absurd z n2
    refine ⟨_, rfl, rfl, _, rfl, st (fun e => ?_) (fun n3 => ?_)⟩
    · exact ⟨_, rfl, g.p, g.dx, _, rfl, hg.hp, fl6_no g (by decide +kernel) (by decide +kernel) (by decide +kernel) (by decide +kernel) (by decide +kernel) (by decide +kernel), _, rfl, g, G, v, rfl, hg, ov, no.1, ke _ (no.2 ▸ kix_sq T)⟩
    · exact ⟨_, rfl, g.p, g.dx, _, rfl, hg.hp, fl6_no g (by decide +kernel) (by decide +kernel) (by decide +kernel) (by decide +kernel) (by decide +kernel) (by decide +kernel), _, rfl, g, G, v, rfl, hg, ov, no.1, ke _ (no.2 ▸ kix_sq T)⟩
end
end J

set_option maxHeartbeats 200000
set_option Elab.async false
set_option linter.all false
set_option maxRecDepth 100000
set_option maxHeartbeats 4000000
/-! Lambdas that are handed in to be refused; no numbers. -/
namespace J
open PySem L2
/-- all but the table at Pt stays -/
def Kp (Pt : Addr) (H H' : Hp) : Prop := ∀ b o, b ≠ Pt → H b = some o → H' b = some o
theorem Kp.refl (Pt : Addr) (H : Hp) : Kp Pt H H := fun _ _ _ e => e
theorem Kp.trans {Pt : Addr} {H H1 H2 : Hp} (h : Kp Pt H H1) (h2 : Kp Pt H1 H2) : Kp Pt H H2 := fun b o n e => h2 b o n (h b o n e)
theorem Same.kp {Pt : Addr} {H H' : Hp} (h : Same H H') : Kp Pt H H' := fun b o _ e => h b o e
theorem Tab.ne {H : Hp} {Pt b : Addr} {q : Str} {o : HO} (t : Tab H Pt q) (e : H b = some o) (n : ∀ ps, o ≠ .tbl ps) : b ≠ Pt := fun z => by
  obtain ⟨ps, h, _⟩ := t
  rw [z, h] at e
  cases e
  exact n _ rfl
theorem Kp.grove {a : Ad} {Pt : Addr} {q : Str} {H H' : Hp} {g : GA} {G : Gv} (k : Kp Pt H H') (t : Tab H Pt q) (h : GroveAt a H g G) : GroveAt a H' g G := by
  obtain ⟨h1, h2, ⟨ts, h3, h4⟩, h5, h6⟩ := h
  exact ⟨k _ _ (Tab.ne t h1 (by intro _ z; cases z)) h1, k _ _ (Tab.ne t h2 (by intro _ z; cases z)) h2, ⟨ts, k _ _ (Tab.ne t h3 (by intro _ z; cases z)) h3, PairedM.imp (fun u q z => k _ _ (Tab.ne t z (by intro _ z; cases z)) z) h4⟩, k _ _ (Tab.ne t h5 (by intro _ z; cases z)) h5, h6⟩
theorem Kp.odd {Pt : Addr} {q : Str} {H H' : Hp} {v : V} (k : Kp Pt H H') (t : Tab H Pt q) (h : Odd H v) : Odd H' v := h.same fun b xs e => k _ _ (Tab.ne t e (by intro _ z; cases z)) e
/-- a new thing is new to the entry too -/
theorem Kp.new {Pt b : Addr} {q : Str} {H H' : Hp} (k : Kp Pt H H') (t : Tab H' Pt q) (n : H' b = none) : H b = none := by
  cases e : H b with
  | none => rfl
  | some o =>
    by_cases z : b = Pt
    · obtain ⟨ps, h, _⟩ := t
      rw [z, h] at n
      cases n
    · rw [k b o z e] at n
      cases n
theorem Kp.upd {Pt b : Addr} {o : HO} {H H' : Hp} (k : Kp Pt H H') (n : H b = none) : Kp Pt H (upd H' b o) := fun c u z e => by
  rw [upd_ne (ne_of_none e n)]
  exact k c u z e
theorem Tab.upd {Pt b : Addr} {q : Str} {o : HO} {xs : List V} {H : Hp} (t : Tab H Pt q) (h : H b = some (.lst xs)) : Tab (upd H b o) Pt q := by
  obtain ⟨ps, e, c⟩ := t
  exact ⟨ps, by rw [upd_ne (ne_of e h (by intro z; cases z))]; exact e, c.mono (fun d e => by rw [upd_ne (ne_of e h (by intro z; cases z))]; exact e) _⟩
/-- _law_refused, handed a lambda -/
theorem ref_at {X : Cx} {params : Arguments} {body : Expr} {scope : Scope} {Pt : Addr} {N : List Str} {cs : List Nat} {k : Nat} {a : Ad} {d : Nat} {σ : St} {H : Hp} {Q : VK} (S : CScope X scope N 0 cs) (hT : Tab H Pt (lamQ X))
    (go : ∀ (p c : Addr) (H' : Hp), LamH Pt (lamQ X) (lamF X params body scope) p H H' → ∀ (A2 : Around) (outer2 : List Env) (s2 : Shared) (Q' : VK) (E' : XK), Room k (A2.deeper (envL X scope s2.heap.objs.size p c)) → spD X.K a d H' Q' E' → ∃ te, PE (cxL X.prog X.w X.K X.mg X.base N (envL X scope s2.heap.objs.size p c) A2 outer2 s2 H' E') body te ∧ te (caps cs σ) H' Q')
    (q : ∀ H', Kp Pt H H' → Tab H' Pt (lamQ X) → Q (.bl true) H')
    (hfn : ∀ x, X.fn x = true := by exact fun _ => rfl) (hco : scope.isCoroutine = false := by rfl) (hgen : scope.isGenerator = false := by rfl) (hb : ∀ c ct, bindArgs (lamF X params body scope (.ref c) ct) ⟨[], []⟩ = pure [] := by exact fun _ _ => rfl) :
    tCallT X (spRef X.prog X.w X.K X.mg X.base a (k + 1)) (tCons (tLam Pt (lamQ X) (lamF X params body scope)) (tCons (tC (.int d)) tNil)) σ H Q := by
  refine ⟨hT, fun p H' L pins s1 I => ?_⟩
  obtain ⟨c, ct, hp, hc⟩ := L.lam
  exact ⟨p, d, rfl, ⟨_, hp⟩, deed_of I hfn S hco hgen hp hc (hb c ct) (go p c H' L), fun H'' s => q H'' (Kp.trans L.st (Same.kp s)) (L.tab.same s)⟩
theorem ix4 : ∀ i, i < 4 → ixN 4 (0 + (i : Nat)) = some i ∧ ∃ j, ixN 4 (0 + ((i : Nat) : Int) - 1) = some j ∧ j ≠ i ∧ j < 4
  | 0, _ => ⟨rfl, 3, rfl, by decide, by decide⟩
  | 1, _ => ⟨rfl, 0, rfl, by decide, by decide⟩
  | 2, _ => ⟨rfl, 1, rfl, by decide, by decide⟩
  | 3, _ => ⟨rfl, 2, rfl, by decide, by decide⟩
  | n + 4, h => absurd h (by lia)
theorem four_v : ∀ xs : List V, xs.length = 4 → ∃ x y z w, xs = [x, y, z, w]
  | [x, y, z, w], _ => ⟨x, y, z, w, rfl⟩
section
variable {P : Program} {w : World} {K : PySem.W.Frag} {mg : Str → Option Value} {base : Heap} {a : Ad}
inductive SpNr (a : Ad) (Pt : Addr) (vs : List V) (H : Hp) (Q : VK) : Prop
  | mk (g : GA) (G : Gv) (v : V) (F : Addr) (ns : List Int) (o : Int) (_ : vs = [.ref g.p, v, .ref F, .int o]) (_ : GroveAt a H g G) (_ : Odd H v) (_ : NoNum G v) (_ : H F = some (.lst (ns.map V.int))) (_ : ns.length = 4) (_ : Tab H Pt ("_law_numbers_refused" ++ ".<locals>." ++ "<lambda>")) (_ : ∀ H', Kp Pt H H' → Tab H' Pt ("_law_numbers_refused" ++ ".<locals>." ++ "<lambda>") → Q (.bl true) H') : SpNr a Pt vs H Q
def spNr (a : Ad) (Pt : Addr) : Sp := fun vs H Q _ => SpNr a Pt vs H Q
theorem ok_nr {f c Pt : Addr} {fd : FuncData} (F : Fun K "_law_numbers_refused" "_law_numbers_refused" s__law_numbers_refused f fd) (T : Top K mg a) (hfd : fd.code = .ref c) (hC : PySem.W.CodeHd base c Pt) (hB : Blt mg base) (R__law_refused : CalT P w K mg base 7 "_law_refused" p__law_refused (spRef P w K mg base a 6)) (C__law_ask : Cal P w K mg base (CXE P w) 5 "_law_ask" p__law_ask (spAsk K a)) (E_Grove_joined : CalM P w K mg base (CXE P w) 4 a.c_Grove "joined" p_Grove_joined (spJoX a)) : FnOk P w K mg base CX0 8 f fd p__law_numbers_refused (spNr a Pt) := by
  refine F.okC sc__law_numbers_refused (fun vs H Q E h => ?_) (fun cdv A outer s H vs Q E hcd hr h => ?_)
  · obtain ⟨g, G, v, F, ns, o, rfl, _⟩ := h
    rfl
  · obtain ⟨g, G, v, L, ns, o, rfl, hg, ov, no, hF, l4, tb, k⟩ := h
    have hcd : cdv = .ref c := hcd.symm.trans hfd
    refine ⟨_, (@pss_cons _ _ _ _ _ (@ps_for _ _ _ _ _ _ _ _ PassesOwn.never rfl (@pi_range1 _ _ _ _ _ _ rfl T.b_range (@pa_int _ _ _ _ _ _ (@pa_nil _)) rfl) (@pg_name _ _ (4) _ sc__law_numbers_refused.nd rfl (Or.inr rfl) (by first | exact .inl rfl | exact .inr rfl | assumption)) (@pss_one _ _ _ (@ps_if _ _ _ _ _ _ _ _ (@pt_not _ _ _ _ (@pt_val _ _ _ (@pe_calT _ _ _ _ _ _ _ _ _ _ R__law_refused (rm hr) rfl (@pa_cons _ _ _ _ _ (@pe_lam _ _ _ _ _ _ _ _ _ (@CScope.of _ ((defScope s__law_numbers_refused)) (n__law_numbers_refused) _ (["_law_grove", "_law_bad_here", "_law_which"]) (0) ([0, 1, 4]) rfl rfl (by decide +kernel)) hcd hC hB rfl) (@pa_int _ _ _ _ _ _ (@pa_nil _)) rfl) (by decide) rfl rfl) (by intro _ ; rfl))) (@pss_one _ _ _ (@ps_ret _ _ _ _ (@pe_bl _ _ _ _))) (@pss_nil _))) (by intro _ ; rfl)) (@pss_cons _ _ _ _ _ (@ps_for _ _ _ _ _ _ _ _ PassesOwn.never rfl (@pi_range1 _ _ _ _ _ _ rfl T.b_range (@pa_int _ _ _ _ _ _ (@pa_nil _)) rfl) (@pg_name _ _ (5) _ sc__law_numbers_refused.nd rfl (Or.inl rfl) (by first | exact .inl rfl | exact .inr rfl | assumption)) (@pss_cons _ _ _ _ _ (@ps_set _ _ (6) _ _ _ _ sc__law_numbers_refused.nd rfl (Or.inr rfl) (@pe_callTy _ _ _ _ _ _ _ _ _ (@call_list_of _) rfl T.b_list PyProof.Rows.boot_list (@pa_cons _ _ _ _ _ (pv 2) (@pa_nil _) rfl) (by decide) (by decide) rfl rfl) rfl (by first | exact .inl rfl | exact .inr rfl | assumption)) (@pss_cons _ _ _ _ _ (@ps_asg _ _ _ _ _ _ (pv 1) (@pg_sub _ _ _ _ _ _ _ (pv 6) (pv 5) set_list (by intro _ ; rfl)) rfl rfl rfl) (@pss_cons _ _ _ _ _ (@ps_if _ _ _ _ _ _ _ _ (@pt_not _ _ _ _ (@pt_val _ _ _ (@pe_calT _ _ _ _ _ _ _ _ _ _ R__law_refused (rm hr) rfl (@pa_cons _ _ _ _ _ (@pe_lam _ _ _ _ _ _ _ _ _ (@CScope.of _ ((defScope s__law_numbers_refused)) (n__law_numbers_refused) _ (["_law_grove", "_law_some"]) (0) ([0, 6]) rfl rfl (by decide +kernel)) hcd hC hB rfl) (@pa_int _ _ _ _ _ _ (@pa_nil _)) rfl) (by decide) rfl rfl) (by intro _ ; rfl))) (@pss_one _ _ _ (@ps_ret _ _ _ _ (@pe_bl _ _ _ _))) (@pss_nil _)) (@pss_cons _ _ _ _ _ (@ps_asg _ _ _ _ _ _ (pv 3) (@pg_sub _ _ _ _ _ _ _ (pv 6) (@pe_op _ _ _ _ _ _ _ _ (@op_sub _) (pv 5) (@pe_int _ _ _ _)) set_list (by intro _ ; rfl)) rfl rfl rfl) (@pss_one _ _ _ (@ps_if _ _ _ _ _ _ _ _ (@pt_not _ _ _ _ (@pt_val _ _ _ (@pe_calT _ _ _ _ _ _ _ _ _ _ R__law_refused (rm hr) rfl (@pa_cons _ _ _ _ _ (@pe_lam _ _ _ _ _ _ _ _ _ (@CScope.of _ ((defScope s__law_numbers_refused)) (n__law_numbers_refused) _ (["_law_grove", "_law_some"]) (0) ([0, 6]) rfl rfl (by decide +kernel)) hcd hC hB rfl) (@pa_int _ _ _ _ _ _ (@pa_nil _)) rfl) (by decide) rfl rfl) (by intro _ ; rfl))) (@pss_one _ _ _ (@ps_ret _ _ _ _ (@pe_bl _ _ _ _))) (@pss_nil _))))))) (by intro _ ; rfl)) (@pss_one _ _ _ (@ps_ret _ _ _ _ (@pe_bl _ _ _ _))))), ?_⟩
    try dsimp only [cxK]
    refine ⟨5, rfl, by decide, by decide, ?_⟩
    refine for_range (n := 5) (fun i σ H2 => Kp Pt H H2 ∧ Tab H2 Pt ("_law_numbers_refused" ++ ".<locals>." ++ "<lambda>") ∧ ∃ u4 : Option V, σ = [some (.ref g.p), some v, some (.ref L), some (.int o), u4, none, none]) ⟨Kp.refl Pt H, tb, none, rfl⟩ ?_ ?_
    · rintro i σ H2 hi ⟨kp, tb2, u4, rfl⟩
      refine ref_at (CScope.of (So := defScope s__law_numbers_refused) (No := n__law_numbers_refused) (N := ["_law_grove", "_law_bad_here", "_law_which"]) (k := 0) (cs := [0, 1, 4]) rfl rfl (by decide +kernel)) tb2 (fun p c' H3 LH A2 outer2 s2 Q' E' hr hd => ⟨_, (@pe_cal _ _ _ _ _ _ _ _ _ _ _ _ C__law_ask (rm hr) rfl (passL rfl) (@pa_cons _ _ _ _ _ (pv 0) (@pa_cons _ _ _ _ _ (pv 1) (@pa_cons _ _ _ _ _ (pv 2) (@pa_nil _) rfl) rfl) rfl) (by decide) rfl rfl), ?_⟩) (fun H4 kp4 tb4 => ?_)
      · have kp3 : Kp Pt H H3 := kp.trans LH.st
        refine ⟨_, rfl, _, rfl, _, rfl, g, G, v, 0 + (i : Int), 0, rfl, kp3.grove tb hg, kp3.odd tb ov, .inl ⟨rfl, no⟩, fun cl ki => hd cl H3 ki (Same.refl H3)⟩
      · exact ⟨true, rfl, iteF ⟨kp.trans kp4, tb4, _, rfl⟩⟩
    · rintro σ H1 ⟨kp1, tb1, u4, rfl⟩
      refine ⟨4, rfl, by decide, by decide, ?_⟩
      refine for_range (n := 4) (fun i σ H2 => Kp Pt H H2 ∧ Tab H2 Pt ("_law_numbers_refused" ++ ".<locals>." ++ "<lambda>") ∧ ∃ u5 u6 : Option V, σ = [some (.ref g.p), some v, some (.ref L), some (.int o), u4, u5, u6]) ⟨kp1, tb1, none, none, rfl⟩ ?_ ?_
      · rintro i σ H2 hi ⟨kp, tb2, u5, u6, rfl⟩
        have hF2 := kp _ _ (Tab.ne tb hF (by intro _ z; cases z)) hF
        refine ⟨_, rfl, L, _, rfl, .inl (SqL.of hF2), fun S hS => ?_⟩
        have nS : H S = none := kp.new tb2 hS
        obtain ⟨x4, j, y4, ji, j4⟩ := ix4 i hi
        have s3 := same_up (o := .lst (ns.map V.int)) hS
        have tb3 := tb2.same s3
        have kp3 := kp.trans (Same.kp s3)
        have hS3 : upd H2 S (.lst (ns.map V.int)) S = some (.lst (ns.map V.int)) := upd_same
        generalize upd H2 S (.lst (ns.map V.int)) = H3 at s3 tb3 kp3 hS3 ⊢
        refine ⟨_, rfl, _, rfl, _, rfl, S, _, _, i, rfl, rfl, hS3, by rw [List.length_map, l4]; exact x4, ?_⟩
        have tb4 := Tab.upd tb3 (o := .lst ((ns.map V.int).set i v)) hS3
        have kp4 := kp3.upd (b := S) (o := .lst ((ns.map V.int).set i v)) nS
        have hS4 : upd H3 S (.lst ((ns.map V.int).set i v)) S = some (.lst ((ns.map V.int).set i v)) := upd_same
        generalize upd H3 S (.lst ((ns.map V.int).set i v)) = H4 at tb4 kp4 hS4 ⊢
        have l4' : ((ns.map V.int).set i v).length = 4 := by rw [List.length_set, List.length_map, l4]
        have vm : ((ns.map V.int).set i v)[i]? = some v := List.getElem?_set_self (by rw [List.length_map, l4]; exact hi)
        have oz : ∀ {H5 : Hp}, Odd H5 v → ∀ u ∈ (ns.map V.int).set i v, Odd H5 u := fun o5 u hu => by
          rcases List.mem_or_eq_of_mem_set hu with z | z
          · obtain ⟨n, _, rfl⟩ := List.mem_map.mp z
            exact .int n
          · rw [z]; exact o5
        generalize (ns.map V.int).set i v = xs at hS4 l4' vm oz ⊢
        refine ref_at (CScope.of (So := defScope s__law_numbers_refused) (No := n__law_numbers_refused) (N := ["_law_grove", "_law_some"]) (k := 0) (cs := [0, 6]) rfl rfl (by decide +kernel)) tb4 (fun p c' H5 LH A2 outer2 s2 Q' E' hr hd => ⟨_, (@pe_calm _ _ _ _ _ _ _ _ _ _ _ _ _ _ _ _ (pv 0) E_Grove_joined (rm hr) (passL rfl) (@pa_cons _ _ _ _ _ (@pe_ix _ _ _ _ _ _ _ (@ixc_list _ (K) rfl) (pv 1) (@pe_int _ _ _ _) (fun _ _ => rfl)) (@pa_cons _ _ _ _ _ (@pe_ix _ _ _ _ _ _ _ (@ixc_list _ (K) rfl) (pv 1) (@pe_int _ _ _ _) (fun _ _ => rfl)) (@pa_cons _ _ _ _ _ (@pe_ix _ _ _ _ _ _ _ (@ixc_list _ (K) rfl) (pv 1) (@pe_int _ _ _ _) (fun _ _ => rfl)) (@pa_cons _ _ _ _ _ (@pe_ix _ _ _ _ _ _ _ (@ixc_list _ (K) rfl) (pv 1) (@pe_int _ _ _ _) (fun _ _ => rfl)) (@pa_nil _) rfl) rfl) rfl) rfl) rfl rfl rfl), ?_⟩) (fun H5 kp5 tb5 => ?_)
        · have kp5 : Kp Pt H H5 := kp4.trans LH.st
          have hS5 : H5 S = some (.lst xs) := LH.st _ _ (Tab.ne tb4 hS4 (by intro _ z; cases z)) hS4
          have o5 := oz (kp5.odd tb ov)
          have vm := List.mem_of_getElem? vm
          have hg5 := kp5.grove tb hg
          obtain ⟨a0, a1, a2, a3, rfl⟩ := four_v xs l4'
          exact ⟨_, rfl, g.p, g.dx, _, rfl, hg5.hp, no_joined g, _, rfl, S, _, 0, a0, rfl, rfl, SqL.of hS5, atI_nat (j := 0) rfl, _, rfl, S, _, 1, a1, rfl, rfl, SqL.of hS5, atI_nat (j := 1) rfl, _, rfl, S, _, 2, a2, rfl, rfl, SqL.of hS5, atI_nat (j := 2) rfl, _, rfl, S, _, 3, a3, rfl, rfl, SqL.of hS5, atI_nat (j := 3) rfl, g, G, a0, a1, a2, a3, rfl, hg5, o5, .inl ⟨⟨v, vm, no⟩, fun H6 s6 => hd _ H6 (kix_sq T) s6⟩⟩
        refine ⟨true, rfl, iteF ?_⟩
        have kp5' := kp4.trans kp5
        have hS5 := kp5 _ _ (Tab.ne tb4 hS4 (by intro _ z; cases z)) hS4
        refine ⟨_, rfl, _, rfl, _, rfl, _, _, rfl, rfl, S, _, _, j, rfl, rfl, hS5, by rw [l4']; exact y4, ?_⟩
        have tb6 := Tab.upd tb5 (o := .lst (xs.set j (.int o))) hS5
        have kp6 := kp5'.upd (b := S) (o := .lst (xs.set j (.int o))) nS
        have hS6 : upd H5 S (.lst (xs.set j (.int o))) S = some (.lst (xs.set j (.int o))) := upd_same
        generalize upd H5 S (.lst (xs.set j (.int o))) = H6 at tb6 kp6 hS6 ⊢
        have l4'' : (xs.set j (.int o)).length = 4 := by rw [List.length_set, l4']
        have vm' : (xs.set j (.int o))[i]? = some v := by rw [List.getElem?_set_ne ji, vm]
        have oz' : ∀ {H5 : Hp}, Odd H5 v → ∀ u ∈ xs.set j (.int o), Odd H5 u := fun o5 u hu => by
          rcases List.mem_or_eq_of_mem_set hu with z | z
          · exact oz o5 u z
          · rw [z]; exact .int o
        generalize xs.set j (.int o) = ys at hS6 l4'' vm' oz' ⊢
        refine ref_at (CScope.of (So := defScope s__law_numbers_refused) (No := n__law_numbers_refused) (N := ["_law_grove", "_law_some"]) (k := 0) (cs := [0, 6]) rfl rfl (by decide +kernel)) tb6 (fun p c' H7 LH A2 outer2 s2 Q' E' hr hd => ⟨_, (@pe_calm _ _ _ _ _ _ _ _ _ _ _ _ _ _ _ _ (pv 0) E_Grove_joined (rm hr) (passL rfl) (@pa_cons _ _ _ _ _ (@pe_ix _ _ _ _ _ _ _ (@ixc_list _ (K) rfl) (pv 1) (@pe_int _ _ _ _) (fun _ _ => rfl)) (@pa_cons _ _ _ _ _ (@pe_ix _ _ _ _ _ _ _ (@ixc_list _ (K) rfl) (pv 1) (@pe_int _ _ _ _) (fun _ _ => rfl)) (@pa_cons _ _ _ _ _ (@pe_ix _ _ _ _ _ _ _ (@ixc_list _ (K) rfl) (pv 1) (@pe_int _ _ _ _) (fun _ _ => rfl)) (@pa_cons _ _ _ _ _ (@pe_ix _ _ _ _ _ _ _ (@ixc_list _ (K) rfl) (pv 1) (@pe_int _ _ _ _) (fun _ _ => rfl)) (@pa_nil _) rfl) rfl) rfl) rfl) rfl rfl rfl), ?_⟩) (fun H7 kp7 tb7 => ?_)
        · have kp7 : Kp Pt H H7 := kp6.trans LH.st
          have hS7 : H7 S = some (.lst ys) := LH.st _ _ (Tab.ne tb6 hS6 (by intro _ z; cases z)) hS6
          have o7 := oz' (kp7.odd tb ov)
          have vm' := List.mem_of_getElem? vm'
          have hg7 := kp7.grove tb hg
          obtain ⟨a0, a1, a2, a3, rfl⟩ := four_v ys l4''
          exact ⟨_, rfl, g.p, g.dx, _, rfl, hg7.hp, no_joined g, _, rfl, S, _, 0, a0, rfl, rfl, SqL.of hS7, atI_nat (j := 0) rfl, _, rfl, S, _, 1, a1, rfl, rfl, SqL.of hS7, atI_nat (j := 1) rfl, _, rfl, S, _, 2, a2, rfl, rfl, SqL.of hS7, atI_nat (j := 2) rfl, _, rfl, S, _, 3, a3, rfl, rfl, SqL.of hS7, atI_nat (j := 3) rfl, g, G, a0, a1, a2, a3, rfl, hg7, o7, .inl ⟨⟨v, vm', no⟩, fun H8 s8 => hd _ H8 (kix_sq T) s8⟩⟩
        · exact ⟨true, rfl, iteF ⟨kp6.trans kp7, tb7, _, _, rfl⟩⟩
      · rintro σ H2 ⟨kp, tb2, u5, u6, rfl⟩
        exact k H2 kp tb2
end
end J

set_option maxHeartbeats 200000
set_option Elab.async false
set_option linter.all false
set_option maxRecDepth 100000
set_option maxHeartbeats 4000000
/-! No levels, unlike levels. -/
namespace J
open PySem L2
def ApG (g : GA) (x : Addr) : Prop := x ≠ g.lv ∧ x ≠ g.pt ∧ x ≠ g.nm
theorem ApG.new {a : Ad} {H : Hp} {g : GA} {G : Gv} (h : GroveAt a H g G) {x : Addr} (n : H x = none) : ApG g x := by
  obtain ⟨ts, h3, _⟩ := h.pt
  exact ⟨Ne.symm (ne_of_none h.lv n), Ne.symm (ne_of_none h3 n), Ne.symm (ne_of_none h.nm n)⟩
theorem Fr.at {g : GA} {H H' : Hp} {x : Addr} {o : HO} (f : Fr g H H') (p : ApG g x) (e : H x = some o) : H' x = some o := f _ _ e p.1 p.2.1 p.2.2
theorem ApG.kind {a : Ad} {H : Hp} {g : GA} {G : Gv} (h : GroveAt a H g G) {x : Addr} {o : HO} (e : H x = some o) (n1 : ∀ l, o ≠ .lst l) (n2 : ∀ l, o ≠ .dT l) : ApG g x := by
  obtain ⟨ts, h3, _⟩ := h.pt
  exact ⟨ne_of e h.lv (n1 _), ne_of e h3 (n1 _), ne_of e h.nm (n2 _)⟩
theorem Fr.tab {a : Ad} {g : GA} {G : Gv} {H H' : Hp} {Pt : Addr} {q : Str} (f : Fr g H H') (h : GroveAt a H g G) (t : Tab H Pt q) : Tab H' Pt q := by
  obtain ⟨ps, e, c⟩ := t
  exact ⟨ps, f.at (ApG.kind h e (by intro _ z; cases z) (by intro _ z; cases z)) e, c.mono (fun d e => f.at (ApG.kind h e (by intro _ z; cases z) (by intro _ z; cases z)) e) _⟩
theorem Fr.odd {a : Ad} {g : GA} {G : Gv} {H H' : Hp} {v : V} (f : Fr g H H') (h : GroveAt a H g G) (o : Odd H v) : Odd H' v := o.same fun b xs e => f.at (ApG.kind h e (by intro _ z; cases z) (by intro _ z; cases z)) e
/-- all but the grove's own lists and the table at Pt stays -/
def RL (g : GA) (Pt : Addr) (H H' : Hp) : Prop := ∀ b o, H b = some o → ApG g b → b ≠ Pt → H' b = some o
theorem RL.of {g : GA} {Pt : Addr} {H H1 H2 : Hp} (f : Fr g H H1) (k : Kp Pt H1 H2) : RL g Pt H H2 := fun b o e n z => k _ _ z (f.at n e)
theorem unlike_set {G : Gv} {l lo : Int} {o : Nat} (ho : LevAt G o lo) (ne : lo ≠ l) : ∀ (ns : List Nat) (i : Nat), ns.length = 4 → i < 4 → (∀ n ∈ ns, LevAt G n l) → ∃ x y z w, ns.set i o = [x, y, z, w] ∧ Unlike G x y z w
  | [x, y, z, w], 0, _, _, h => ⟨o, y, z, w, rfl, lo, l, l, l, ho, h _ (by simp), h _ (by simp), h _ (by simp), .inr (.inl (Ne.symm ne))⟩
  | [x, y, z, w], 1, _, _, h => ⟨x, o, z, w, rfl, l, lo, l, l, h _ (by simp), ho, h _ (by simp), h _ (by simp), .inr (.inl ne)⟩
  | [x, y, z, w], 2, _, _, h => ⟨x, y, o, w, rfl, l, l, lo, l, h _ (by simp), h _ (by simp), ho, h _ (by simp), .inr (.inr (.inl ne))⟩
  | [x, y, z, w], 3, _, _, h => ⟨x, y, z, o, rfl, l, l, l, lo, h _ (by simp), h _ (by simp), h _ (by simp), ho, .inr (.inr (.inr ne))⟩
  | [x, y, z, w], n + 4, _, hi, _ => absurd hi (by lia)
def intN (n : Nat) : V := .int n
section
variable {P : Program} {w : World} {K : PySem.W.Frag} {mg : Str → Option Value} {base : Heap} {a : Ad}
inductive SpLr (a : Ad) (Pt : Addr) (vs : List V) (H : Hp) (Q : VK) : Prop
  | mk (g : GA) (G : Gv) (v : V) (l : Nat) (F : Addr) (ns : List Nat) (o : Nat) (lo : Int) (_ : vs = [.ref g.p, v, .int l, .ref F, .int o]) (_ : GroveAt a H g G) (_ : GOk G) (_ : G.length < 7000000) (_ : Odd H v) (_ : NoLev v) (_ : H F = some (.lst (ns.map intN))) (_ : ApG g F) (_ : ns.length = 4) (_ : ∀ n ∈ ns, LevAt G n l) (_ : LevAt G o lo) (_ : lo ≠ l) (_ : Tab H Pt ("_law_levels_refused" ++ ".<locals>." ++ "<lambda>")) (_ : ∀ G' H', RL g Pt H H' → GroveAt a H' g G' → Goes G G' 48 → Tab H' Pt ("_law_levels_refused" ++ ".<locals>." ++ "<lambda>") → Q (.bl true) H') : SpLr a Pt vs H Q
def spLr (a : Ad) (Pt : Addr) : Sp := fun vs H Q _ => SpLr a Pt vs H Q
theorem ok_lr {f c Pt : Addr} {fd : FuncData} (F : Fun K "_law_levels_refused" "_law_levels_refused" s__law_levels_refused f fd) (T : Top K mg a) (hfd : fd.code = .ref c) (hC : PySem.W.CodeHd base c Pt) (hB : Blt mg base) (R__law_refused : CalT P w K mg base 7 "_law_refused" p__law_refused (spRef P w K mg base a 6)) (C__law_ask : Cal P w K mg base (CXE P w) 5 "_law_ask" p__law_ask (spAsk K a)) (E_Grove_joined : CalM P w K mg base (CXE P w) 4 a.c_Grove "joined" p_Grove_joined (spJoX a)) (E_Grove_solid : CalM P w K mg base (CXE P w) 4 a.c_Grove "solid" p_Grove_solid (spSoX a)) (E_Grove_state_of : CalM P w K mg base (CXE P w) 4 a.c_Grove "state_of" p_Grove_state_of (spStX a)) (M_Grove_leaf : CalM P w K mg base CX0 3 a.c_Grove "leaf" p_Grove_leaf (spLeaf a)) (M_Grove_solid : CalM P w K mg base CX0 4 a.c_Grove "solid" p_Grove_solid (spSolid a)) : FnOk P w K mg base CX0 8 f fd p__law_levels_refused (spLr a Pt) := by
  refine F.okC sc__law_levels_refused (fun vs H Q E h => ?_) (fun cdv A outer s H vs Q E hcd hr h => ?_)
  · obtain ⟨g, G, v, l, F, ns, o, lo, rfl, _⟩ := h
    rfl
  · obtain ⟨g, G, v, l, L, ns, o, lo, rfl, hg0, ok0, few, ov0, nl, hF0, aF, l4, lns0, ho0, nelo, tb0, k0⟩ := h
    have hcd : cdv = .ref c := hcd.symm.trans hfd
    refine ⟨_, (@pss_cons _ _ _ _ _ (@ps_set _ _ (5) _ _ _ _ sc__law_levels_refused.nd rfl (Or.inr rfl) (@pe_calm _ _ _ _ _ _ _ _ _ _ _ _ _ _ _ _ (pv 0) M_Grove_leaf (rm hr) pass0 (@pa_int _ _ _ _ _ _ (@pa_nil _)) rfl rfl rfl) rfl (by first | exact .inl rfl | exact .inr rfl | assumption)) (@pss_cons _ _ _ _ _ (@ps_set _ _ (6) _ _ _ _ sc__law_levels_refused.nd rfl (Or.inr rfl) (@pe_calm _ _ _ _ _ _ _ _ _ _ _ _ _ _ _ _ (pv 0) M_Grove_solid (rm hr) pass0 (@pa_int _ _ _ _ _ _ (@pa_int _ _ _ _ _ _ (@pa_nil _))) rfl rfl rfl) rfl (by first | exact .inl rfl | exact .inr rfl | assumption)) (@pss_cons _ _ _ _ _ (@ps_for _ _ _ _ _ _ _ _ PassesOwn.never rfl (@pi_tup _ _ _ _ (@pe_tup _ _ _ _ _ (@pa_int _ _ _ _ _ _ (@pa_int _ _ _ _ _ _ (@pa_nil _))))) (@pg_name _ _ (7) _ sc__law_levels_refused.nd rfl (Or.inr rfl) (by first | exact .inl rfl | exact .inr rfl | assumption)) (@pss_one _ _ _ (@ps_if _ _ _ _ _ _ _ _ (@pt_not _ _ _ _ (@pt_val _ _ _ (@pe_calT _ _ _ _ _ _ _ _ _ _ R__law_refused (rm hr) rfl (@pa_cons _ _ _ _ _ (@pe_lam _ _ _ _ _ _ _ _ _ (@CScope.of _ ((defScope s__law_levels_refused)) (n__law_levels_refused) _ (["_law_grove", "_law_bad_here", "_law_some"]) (0) ([0, 1, 7]) rfl rfl (by decide +kernel)) hcd hC hB rfl) (@pa_int _ _ _ _ _ _ (@pa_nil _)) rfl) (by decide) rfl rfl) (by intro _ ; rfl))) (@pss_one _ _ _ (@ps_ret _ _ _ _ (@pe_bl _ _ _ _))) (@pss_nil _))) (by intro _ ; rfl)) (@pss_cons _ _ _ _ _ (@ps_if _ _ _ _ _ _ _ _ (@pt_not _ _ _ _ (@pt_val _ _ _ (@pe_calT _ _ _ _ _ _ _ _ _ _ R__law_refused (rm hr) rfl (@pa_cons _ _ _ _ _ (@pe_lam _ _ _ _ _ _ _ _ _ (@CScope.of _ ((defScope s__law_levels_refused)) (n__law_levels_refused) _ (["_law_grove", "_law_leaf"]) (0) ([0, 5]) rfl rfl (by decide +kernel)) hcd hC hB rfl) (@pa_int _ _ _ _ _ _ (@pa_nil _)) rfl) (by decide) rfl rfl) (by intro _ ; rfl))) (@pss_one _ _ _ (@ps_ret _ _ _ _ (@pe_bl _ _ _ _))) (@pss_nil _)) (@pss_cons _ _ _ _ _ (@ps_if _ _ _ _ _ _ _ _ (@pt_not _ _ _ _ (@pt_val _ _ _ (@pe_calT _ _ _ _ _ _ _ _ _ _ R__law_refused (rm hr) rfl (@pa_cons _ _ _ _ _ (@pe_lam _ _ _ _ _ _ _ _ _ (@CScope.of _ ((defScope s__law_levels_refused)) (n__law_levels_refused) _ (["_law_grove", "_law_high"]) (0) ([0, 6]) rfl rfl (by decide +kernel)) hcd hC hB rfl) (@pa_int _ _ _ _ _ _ (@pa_nil _)) rfl) (by decide) rfl rfl) (by intro _ ; rfl))) (@pss_one _ _ _ (@ps_ret _ _ _ _ (@pe_bl _ _ _ _))) (@pss_nil _)) (@pss_cons _ _ _ _ _ (@ps_if _ _ _ _ _ _ _ _ (@pt_not _ _ _ _ (@pt_val _ _ _ (@pe_calT _ _ _ _ _ _ _ _ _ _ R__law_refused (rm hr) rfl (@pa_cons _ _ _ _ _ (@pe_lam _ _ _ _ _ _ _ _ _ (@CScope.of _ ((defScope s__law_levels_refused)) (n__law_levels_refused) _ (["_law_grove", "_law_high"]) (0) ([0, 6]) rfl rfl (by decide +kernel)) hcd hC hB rfl) (@pa_int _ _ _ _ _ _ (@pa_nil _)) rfl) (by decide) rfl rfl) (by intro _ ; rfl))) (@pss_one _ _ _ (@ps_ret _ _ _ _ (@pe_bl _ _ _ _))) (@pss_nil _)) (@pss_cons _ _ _ _ _ (@ps_for _ _ _ _ _ _ _ _ PassesOwn.never rfl (@pi_range1 _ _ _ _ _ _ rfl T.b_range (@pa_int _ _ _ _ _ _ (@pa_nil _)) rfl) (@pg_name _ _ (8) _ sc__law_levels_refused.nd rfl (Or.inl rfl) (by first | exact .inl rfl | exact .inr rfl | assumption)) (@pss_cons _ _ _ _ _ (@ps_set _ _ (7) _ _ _ _ sc__law_levels_refused.nd rfl (Or.inr rfl) (@pe_callTy _ _ _ _ _ _ _ _ _ (@call_list_of _) rfl T.b_list PyProof.Rows.boot_list (@pa_cons _ _ _ _ _ (pv 3) (@pa_nil _) rfl) (by decide) (by decide) rfl rfl) rfl (by first | exact .inl rfl | exact .inr rfl | assumption)) (@pss_cons _ _ _ _ _ (@ps_asg _ _ _ _ _ _ (pv 4) (@pg_sub _ _ _ _ _ _ _ (pv 7) (pv 8) set_list (by intro _ ; rfl)) rfl rfl rfl) (@pss_one _ _ _ (@ps_if _ _ _ _ _ _ _ _ (@pt_not _ _ _ _ (@pt_val _ _ _ (@pe_calT _ _ _ _ _ _ _ _ _ _ R__law_refused (rm hr) rfl (@pa_cons _ _ _ _ _ (@pe_lam _ _ _ _ _ _ _ _ _ (@CScope.of _ ((defScope s__law_levels_refused)) (n__law_levels_refused) _ (["_law_grove", "_law_some"]) (0) ([0, 7]) rfl rfl (by decide +kernel)) hcd hC hB rfl) (@pa_int _ _ _ _ _ _ (@pa_nil _)) rfl) (by decide) rfl rfl) (by intro _ ; rfl))) (@pss_one _ _ _ (@ps_ret _ _ _ _ (@pe_bl _ _ _ _))) (@pss_nil _))))) (by intro _ ; rfl)) (@pss_one _ _ _ (@ps_ret _ _ _ _ (@pe_or _ _ _ _ _ _ _ (@pe_cmpR _ _ _ _ _ _ _ _ (@op_eq _) (pv 2) (@pe_int _ _ _ _) (nomark _)) (@pe_one _ _ _ _ _ (@pe_calT _ _ _ _ _ _ _ _ _ _ R__law_refused (rm hr) rfl (@pa_cons _ _ _ _ _ (@pe_lam _ _ _ _ _ _ _ _ _ (@CScope.of _ ((defScope s__law_levels_refused)) (n__law_levels_refused) _ (["_law_grove", "_law_four"]) (0) ([0, 3]) rfl rfl (by decide +kernel)) hcd hC hB rfl) (@pa_int _ _ _ _ _ _ (@pa_nil _)) rfl) (by decide) rfl rfl)))))))))))), ?_⟩
    try dsimp only [cxK]
    refine ⟨_, rfl, g.p, g.dx, _, rfl, hg0.hp, no_leaf g, g.p, 3, rfl, by decide, by decide, ?_⟩
    refine ⟨_, rfl, g.p, g.dx, _, rfl, hg0.hp, no_solid g, g, G, 48, 2, rfl, hg0, ok0, by decide, by decide, by lia, fun n G1 H1 fr hg go so => ?_⟩
    have tb := fr.tab hg0 tb0
    have ov := fr.odd hg0 ov0
    have hF := fr.at aF hF0
    have lns : ∀ n ∈ ns, LevAt G1 n l := fun n hn => go.lev (lns0 n hn)
    have ho := go.lev ho0
    have lh : LevAt G1 n 48 := Sol.lev go.ok (by decide) so
    have k : ∀ H', Kp Pt H1 H' → Tab H' Pt ("_law_levels_refused" ++ ".<locals>." ++ "<lambda>") → Q (.bl true) H' := fun H' kp t => k0 G1 H' (RL.of fr kp) (kp.grove tb hg) go t
    clear k0 fr hg0 ov0 hF0 tb0 lns0 ho0
    refine ⟨(by show 2 ≤ sizeLine; decide), fun t ht => ⟨t, rfl, ⟨_, SqT.of upd_same⟩, ?_⟩⟩
    have s2 := same_up (o := .tup [.int 1, .int 9]) ht
    have ht2 : upd H1 t (.tup [.int 1, .int 9]) t = some (.tup [.int 1, .int 9]) := upd_same
    generalize upd H1 t (.tup [.int 1, .int 9]) = H2 at s2 ht2 ⊢
    refine for_tup (xs := [.int 1, .int 9]) (fun i σ H3 => Kp Pt H1 H3 ∧ Tab H3 Pt ("_law_levels_refused" ++ ".<locals>." ++ "<lambda>") ∧ H3 t = some (.tup [.int 1, .int 9]) ∧ ∃ u7 : Option V, σ = [some (.ref g.p), some v, some (.int l), some (.ref L), some (.int o), some (.int 3), some (.int n), u7, none]) ⟨Same.kp s2, tb.same s2, ht2, none, rfl⟩ (fun i σ H3 _ q => SqT.of q.2.2.1) ?_ ?_
    · rintro i x σ H3 ex ⟨kp, tb3, ht3, u7, rfl⟩
      obtain ⟨m, rfl⟩ : ∃ m : Int, x = .int m := by
        have := List.mem_of_getElem? ex
        simp only [List.mem_cons, List.not_mem_nil, or_false] at this
        rcases this with rfl | rfl <;> exact ⟨_, rfl⟩
      refine ref_at (CScope.of (So := defScope s__law_levels_refused) (No := n__law_levels_refused) (N := ["_law_grove", "_law_bad_here", "_law_some"]) (k := 0) (cs := [0, 1, 7]) rfl rfl (by decide +kernel)) tb3 (fun p c' H4 LH A2 outer2 s2 Q' E' hr hd => ⟨_, (@pe_calm _ _ _ _ _ _ _ _ _ _ _ _ _ _ _ _ (pv 0) E_Grove_solid (rm hr) (passL rfl) (@pa_cons _ _ _ _ _ (pv 1) (@pa_cons _ _ _ _ _ (pv 2) (@pa_nil _) rfl) rfl) rfl rfl rfl), ?_⟩) (fun H4 kp4 tb4 => ?_)
      · have kp4 : Kp Pt H1 H4 := kp.trans LH.st
        have hg4 := kp4.grove tb hg
        exact ⟨_, rfl, g.p, g.dx, _, rfl, hg4.hp, no_solid g, _, rfl, _, rfl, g, G1, v, .int m, rfl, hg4, kp4.odd tb ov, .int m, .inl ⟨nl, hd _ H4 (kix_lv T) (Same.refl H4)⟩⟩
      · exact ⟨true, rfl, iteF ⟨kp.trans kp4, tb4, kp4 _ _ (Tab.ne tb3 ht3 (by intro _ z; cases z)) ht3, _, rfl⟩⟩
    · rintro σ H3 ⟨kp3, tb3, _, u7, rfl⟩
      refine ref_at (CScope.of (So := defScope s__law_levels_refused) (No := n__law_levels_refused) (N := ["_law_grove", "_law_leaf"]) (k := 0) (cs := [0, 5]) rfl rfl (by decide +kernel)) tb3 (fun p c' H4 LH A2 outer2 s2 Q' E' hr hd => ⟨_, (@pe_cal _ _ _ _ _ _ _ _ _ _ _ _ C__law_ask (rm hr) rfl (passL rfl) (@pa_cons _ _ _ _ _ (pv 0) (@pa_cons _ _ _ _ _ (pv 1) (@pa_int _ _ _ _ _ _ (@pa_nil _)) rfl) rfl) (by decide) rfl rfl), ?_⟩) (fun H4 kp4 tb4 => ⟨true, rfl, iteF ?_⟩)
      · have kp4 : Kp Pt H1 H4 := kp3.trans LH.st
        exact ⟨_, rfl, _, rfl, g, G1, .int (3 : Nat), 1, 1, rfl, kp4.grove tb hg, .int _, .inr (.inl ⟨rfl, rfl, 3, rfl, ⟨_, go.ok.leaf 3 (by decide), rfl⟩⟩), fun cl ki => hd cl H4 ki (Same.refl H4)⟩
      have kp4 := kp3.trans kp4
      refine ref_at (CScope.of (So := defScope s__law_levels_refused) (No := n__law_levels_refused) (N := ["_law_grove", "_law_high"]) (k := 0) (cs := [0, 6]) rfl rfl (by decide +kernel)) tb4 (fun p c' H5 LH A2 outer2 s2 Q' E' hr hd => ⟨_, (@pe_cal _ _ _ _ _ _ _ _ _ _ _ _ C__law_ask (rm hr) rfl (passL rfl) (@pa_cons _ _ _ _ _ (pv 0) (@pa_cons _ _ _ _ _ (pv 1) (@pa_int _ _ _ _ _ _ (@pa_nil _)) rfl) rfl) (by decide) rfl rfl), ?_⟩) (fun H5 kp5 tb5 => ⟨true, rfl, iteF ?_⟩)
      · have kp5 : Kp Pt H1 H5 := kp4.trans LH.st
        exact ⟨_, rfl, _, rfl, g, G1, .int n, 2, 1, rfl, kp5.grove tb hg, .int _, .inr (.inr ⟨rfl, rfl, n, 48, rfl, lh, by decide⟩), fun cl ki => hd cl H5 ki (Same.refl H5)⟩
      have kp5 := kp4.trans kp5
      refine ref_at (CScope.of (So := defScope s__law_levels_refused) (No := n__law_levels_refused) (N := ["_law_grove", "_law_high"]) (k := 0) (cs := [0, 6]) rfl rfl (by decide +kernel)) tb5 (fun p c' H6 LH A2 outer2 s2 Q' E' hr hd => ⟨_, (@pe_calm _ _ _ _ _ _ _ _ _ _ _ _ _ _ _ _ (pv 0) E_Grove_joined (rm hr) (passL rfl) (@pa_cons _ _ _ _ _ (pv 1) (@pa_cons _ _ _ _ _ (pv 1) (@pa_cons _ _ _ _ _ (pv 1) (@pa_cons _ _ _ _ _ (pv 1) (@pa_nil _) rfl) rfl) rfl) rfl) rfl rfl rfl), ?_⟩) (fun H6 kp6 tb6 => ⟨true, rfl, iteF ?_⟩)
      · have kp6 : Kp Pt H1 H6 := kp5.trans LH.st
        have hg6 := kp6.grove tb hg
        exact ⟨_, rfl, g.p, g.dx, _, rfl, hg6.hp, no_joined g, _, rfl, _, rfl, _, rfl, _, rfl, g, G1, .int n, .int n, .int n, .int n, rfl, hg6, fun u hu => by
          simp only [List.mem_cons, List.not_mem_nil, or_false, or_self] at hu
          rw [hu]
          exact .int _, .inr ⟨n, n, n, n, rfl, rfl, rfl, rfl, ⟨48, 48, 48, 48, lh, lh, lh, lh, .inl rfl⟩, fun H7 s7 => hd _ H7 (kix_lv T) s7⟩⟩
      have kp6 := kp5.trans kp6
      refine ⟨4, rfl, by decide, by decide, ?_⟩
      refine for_range (n := 4) (fun i σ H7 => Kp Pt H1 H7 ∧ Tab H7 Pt ("_law_levels_refused" ++ ".<locals>." ++ "<lambda>") ∧ ∃ u7 u8 : Option V, σ = [some (.ref g.p), some v, some (.int l), some (.ref L), some (.int o), some (.int 3), some (.int n), u7, u8]) ⟨kp6, tb6, u7, none, rfl⟩ ?_ ?_
      · rintro i σ H7 hi ⟨kp7, tb7, u7, u8, rfl⟩
        have hF7 := kp7 _ _ (Tab.ne tb hF (by intro _ z; cases z)) hF
        refine ⟨_, rfl, L, _, rfl, .inl (SqL.of hF7), fun S hS => ?_⟩
        have nS : H1 S = none := kp7.new tb7 hS
        obtain ⟨x4, _⟩ := ix4 i hi
        have s8 := same_up (o := .lst (ns.map intN)) hS
        have tb8 := tb7.same s8
        have kp8 := kp7.trans (Same.kp s8)
        have hS8 : upd H7 S (.lst (ns.map intN)) S = some (.lst (ns.map intN)) := upd_same
        generalize upd H7 S (.lst (ns.map intN)) = H8 at s8 tb8 kp8 hS8 ⊢
        refine ⟨_, rfl, _, rfl, _, rfl, S, _, _, i, rfl, rfl, hS8, by rw [List.length_map, l4]; exact x4, ?_⟩
        have tb9 := Tab.upd tb8 (o := .lst ((ns.map intN).set i (.int o))) hS8
        have kp9 := kp8.upd (b := S) (o := .lst ((ns.map intN).set i (.int o))) nS
        have hS9 : upd H8 S (.lst ((ns.map intN).set i (.int o))) S = some (.lst ((ns.map intN).set i (.int o))) := upd_same
        generalize upd H8 S (.lst ((ns.map intN).set i (.int o))) = H9 at tb9 kp9 hS9 ⊢
        obtain ⟨x, y, z, w', ems, un⟩ := unlike_set ho nelo ns i l4 hi lns
        rw [show V.int (o : Int) = intN o from rfl, ← List.map_set, ems] at hS9
        refine ref_at (CScope.of (So := defScope s__law_levels_refused) (No := n__law_levels_refused) (N := ["_law_grove", "_law_some"]) (k := 0) (cs := [0, 7]) rfl rfl (by decide +kernel)) tb9 (fun p c' H10 LH A2 outer2 s2 Q' E' hr hd => ⟨_, (@pe_calm _ _ _ _ _ _ _ _ _ _ _ _ _ _ _ _ (pv 0) E_Grove_joined (rm hr) (passL rfl) (@pa_cons _ _ _ _ _ (@pe_ix _ _ _ _ _ _ _ (@ixc_list _ (K) rfl) (pv 1) (@pe_int _ _ _ _) (fun _ _ => rfl)) (@pa_cons _ _ _ _ _ (@pe_ix _ _ _ _ _ _ _ (@ixc_list _ (K) rfl) (pv 1) (@pe_int _ _ _ _) (fun _ _ => rfl)) (@pa_cons _ _ _ _ _ (@pe_ix _ _ _ _ _ _ _ (@ixc_list _ (K) rfl) (pv 1) (@pe_int _ _ _ _) (fun _ _ => rfl)) (@pa_cons _ _ _ _ _ (@pe_ix _ _ _ _ _ _ _ (@ixc_list _ (K) rfl) (pv 1) (@pe_int _ _ _ _) (fun _ _ => rfl)) (@pa_nil _) rfl) rfl) rfl) rfl) rfl rfl rfl), ?_⟩) (fun H10 kp10 tb10 => ⟨true, rfl, iteF ⟨kp9.trans kp10, tb10, _, _, rfl⟩⟩)
        have kp10 : Kp Pt H1 H10 := kp9.trans LH.st
        have hS10 := LH.st _ _ (Tab.ne tb9 hS9 (by intro _ z; cases z)) hS9
        have hg10 := kp10.grove tb hg
        exact ⟨_, rfl, g.p, g.dx, _, rfl, hg10.hp, no_joined g, _, rfl, S, _, 0, .int x, rfl, rfl, SqL.of hS10, atI_nat (j := 0) rfl, _, rfl, S, _, 1, .int y, rfl, rfl, SqL.of hS10, atI_nat (j := 1) rfl, _, rfl, S, _, 2, .int z, rfl, rfl, SqL.of hS10, atI_nat (j := 2) rfl, _, rfl, S, _, 3, .int w', rfl, rfl, SqL.of hS10, atI_nat (j := 3) rfl, g, G1, .int x, .int y, .int z, .int w', rfl, hg10, fun u hu => by
          simp only [List.mem_cons, List.not_mem_nil, or_false] at hu
          rcases hu with rfl | rfl | rfl | rfl <;> exact .int _, .inr ⟨x, y, z, w', rfl, rfl, rfl, rfl, un, fun H11 s11 => hd _ H11 (kix_lv T) s11⟩⟩
      · rintro σ H7 ⟨kp7, tb7, u7, u8, rfl⟩
        refine ⟨_, rfl, rfl, _, rfl, ?_⟩
        refine ite2 (fun _ => k H7 kp7 tb7) (fun hc => ?_)
        have l0 : (l : Int) ≠ 0 := fun z => hc (decide_eq_true (by rw [z]))
        refine ref_at (CScope.of (So := defScope s__law_levels_refused) (No := n__law_levels_refused) (N := ["_law_grove", "_law_four"]) (k := 0) (cs := [0, 3]) rfl rfl (by decide +kernel)) tb7 (fun p c' H8 LH A2 outer2 s2 Q' E' hr hd => ⟨_, (@pe_calm _ _ _ _ _ _ _ _ _ _ _ _ _ _ _ _ (pv 0) E_Grove_state_of (rm hr) (passL rfl) (@pa_cons _ _ _ _ _ (@pe_ix _ _ _ _ _ _ _ (@ixc_list _ (K) rfl) (pv 1) (@pe_int _ _ _ _) (fun _ _ => rfl)) (@pa_nil _) rfl) rfl rfl rfl), ?_⟩) (fun H8 kp8 tb8 => k H8 (kp7.trans kp8) tb8)
        have kp8 : Kp Pt H1 H8 := kp7.trans LH.st
        have hF8 := kp8 _ _ (Tab.ne tb hF (by intro _ z; cases z)) hF
        have hg8 := kp8.grove tb hg
        obtain ⟨x, r, rfl⟩ : ∃ x r, ns = x :: r := by
          cases ns with
          | nil => cases l4
          | cons x r => exact ⟨x, r, rfl⟩
        exact ⟨_, rfl, g.p, g.dx, _, rfl, hg8.hp, no_stateOf g, _, rfl, L, _, 0, .int x, rfl, rfl, SqL.of hF8, atI_nat (j := 0) rfl, g, G1, .int x, rfl, hg8, .int _, .inr ⟨x, l, rfl, lns x (by simp), l0, hd _ H8 (kix_lv T) (Same.refl H8)⟩⟩
end
end J

set_option maxHeartbeats 200000
set_option Elab.async false
set_option linter.all false
set_option maxRecDepth 100000
set_option maxHeartbeats 4000000
namespace J
open PySem L2
theorem Goes.mono {G G' : Gv} {n m : Nat} (h : Goes G G' n) (e : n ≤ m) : Goes G G' m := ⟨h.ok, h.pre, Nat.le_trans h.few (by lia)⟩
/-- the script: known to the grove not to be its own, or the module's -/
def ScL (K : PySem.W.Frag) (g : GA) (l : Addr) (xs : List V) (H : Hp) : Prop := (ApG g l ∧ Rd H l (.lst xs)) ∨ ∀ H, SqL K H l xs
theorem ScL.seq {K : PySem.W.Frag} {g : GA} {l : Addr} {xs : List V} {H : Hp} (h : ScL K g l xs H) : SqL K H l xs := by
  rcases h with ⟨_, h⟩ | h
  · exact .inl h
  · exact h H
theorem RL.tab {a : Ad} {g : GA} {G : Gv} {H H' : Hp} {Pt Qt : Addr} {q r : Str} (k : RL g Qt H H') (h : GroveAt a H g G) (tQ : Tab H Qt r) (ne : Pt ≠ Qt) (t : Tab H Pt q) : Tab H' Pt q := by
  obtain ⟨ps, e, c⟩ := t
  exact ⟨ps, k _ _ e (ApG.kind h e (by intro _ z; cases z) (by intro _ z; cases z)) ne, c.mono (fun d e => k _ _ e (ApG.kind h e (by intro _ z; cases z) (by intro _ z; cases z)) (Tab.ne tQ e (by intro _ z; cases z))) _⟩
structure Y14 (K : PySem.W.Frag) (a : Ad) (g : GA) (l : Addr) (ns : List Int) (P1 P2 P3 : Addr) (H : Hp) (G : Gv) : Prop where
  at' : GroveAt a H g G
  ok : GOk G
  sc : ScL K g l (ns.map V.int) H
  t1 : Tab H P1 ("_law_numbers_refused" ++ ".<locals>." ++ "<lambda>")
  t2 : Tab H P2 ("_law_levels_refused" ++ ".<locals>." ++ "<lambda>")
  t3 : Tab H P3 ("law" ++ ".<locals>." ++ "<lambda>")
section
variable {K : PySem.W.Frag} {a : Ad} {g : GA} {l : Addr} {ns : List Int} {P1 P2 P3 : Addr} {H H' : Hp} {G G' : Gv}
theorem ScL.rl {xs : List V} {Pt : Addr} {q : Str} (h : ScL K g l xs H) (t : Tab H Pt q) (k : RL g Pt H H') : ScL K g l xs H' := by
  rcases h with ⟨p, h⟩ | h
  · rcases h with h | ⟨o, h⟩
    · exact .inl ⟨p, .inl (k _ _ h p (Tab.ne t h (by intro _ z; cases z)))⟩
    · exact .inl ⟨p, .inr ⟨o, k _ _ h p (Tab.ne t h (by intro _ z; cases z))⟩⟩
  · exact .inr h
theorem Y14.fr (h : Y14 K a g l ns P1 P2 P3 H G) (f : Fr g H H') (at2 : GroveAt a H' g G') (ok2 : GOk G') : Y14 K a g l ns P1 P2 P3 H' G' :=
  ⟨at2, ok2, h.sc.rl h.t1 fun b o e p _ => f.at p e, f.tab h.at' h.t1, f.tab h.at' h.t2, f.tab h.at' h.t3⟩
theorem Y14.same (h : Y14 K a g l ns P1 P2 P3 H G) (s : Same H H') : Y14 K a g l ns P1 P2 P3 H' G := h.fr (Same.fr s) (h.at'.same s) h.ok
theorem Y14.s1 (h : Y14 K a g l ns P1 P2 P3 H G) (n2 : P1 ≠ P2) (n3 : P1 ≠ P3) (k : Kp P1 H H') (t : Tab H' P1 ("_law_numbers_refused" ++ ".<locals>." ++ "<lambda>")) : Y14 K a g l ns P1 P2 P3 H' G :=
  have r : RL g P1 H H' := fun b o e _ z => k _ _ z e
  ⟨k.grove h.t1 h.at', h.ok, h.sc.rl h.t1 r, t, r.tab h.at' h.t1 (Ne.symm n2) h.t2, r.tab h.at' h.t1 (Ne.symm n3) h.t3⟩
theorem Y14.s2 (h : Y14 K a g l ns P1 P2 P3 H G) (n2 : P1 ≠ P2) (n3 : P2 ≠ P3) (r : RL g P2 H H') (at2 : GroveAt a H' g G') (ok2 : GOk G') (t : Tab H' P2 ("_law_levels_refused" ++ ".<locals>." ++ "<lambda>")) : Y14 K a g l ns P1 P2 P3 H' G' :=
  ⟨at2, ok2, h.sc.rl h.t2 r, r.tab h.at' h.t2 n2 h.t1, t, r.tab h.at' h.t2 (Ne.symm n3) h.t3⟩
theorem Y14.s3 (h : Y14 K a g l ns P1 P2 P3 H G) (n2 : P1 ≠ P3) (n3 : P2 ≠ P3) (k : Kp P3 H H') (t : Tab H' P3 ("law" ++ ".<locals>." ++ "<lambda>")) : Y14 K a g l ns P1 P2 P3 H' G :=
  have r : RL g P3 H H' := fun b o e _ z => k _ _ z e
  ⟨k.grove h.t3 h.at', h.ok, h.sc.rl h.t3 r, r.tab h.at' h.t3 n2 h.t1, r.tab h.at' h.t3 n3 h.t2, t⟩
end
theorem four_n : ∀ xs : List Nat, xs.length = 4 → ∃ x y z w, xs = [x, y, z, w]
  | [x, y, z, w], _ => ⟨x, y, z, w, rfl⟩
theorem pow9 : ((10 : Int) ^ (9 : Int).toNat) = 1000000000 := by decide
section
variable {P : Program} {w : World} {K : PySem.W.Frag} {mg : Str → Option Value} {base : Heap} {a : Ad}
inductive SpLj (a : Ad) (vs : List V) (H : Hp) (Q : VK) : Prop
  | mk (g : GA) (G : Gv) (F : Addr) (ns : List Nat) (l : Int) (_ : vs = [.ref g.p, .ref F]) (_ : GroveAt a H g G) (_ : GOk G) (_ : G.length < 7000000) (_ : H F = some (.lst (ns.map intN))) (_ : ApG g F) (_ : ns.length = 4) (_ : ∀ n ∈ ns, LevAt G n l) (_ : l ≤ 47) (_ : ∀ G' H', Fr g H H' → GroveAt a H' g G' → Goes G G' 1 → Q (.bl true) H') : SpLj a vs H Q
def spLj (a : Ad) : Sp := fun vs H Q _ => SpLj a vs H Q
theorem ok_lj {f : Addr} {fd : FuncData} (F : Fun K "_law_joined" "_law_joined" s__law_joined f fd) (T : Top K mg a) (M_Grove_joined : CalM P w K mg base CX0 4 a.c_Grove "joined" p_Grove_joined (spJoin a)) (M_Grove_quarters : CalM P w K mg base CX0 4 a.c_Grove "quarters" p_Grove_quarters (spQua a)) : FnOk P w K mg base CX0 5 f fd p__law_joined (spLj a) := by
  refine F.ok sc__law_joined (fun vs H Q E h => ?_) (fun cdv A outer s H vs Q E hr h => ?_)
  · obtain ⟨g, G, F, ns, l, rfl, _⟩ := h
    rfl
  · obtain ⟨g, G, L, ns, l, rfl, hg, ok, few, hF, aF, l4, lns, l47, k⟩ := h
    obtain ⟨x, y, z, w', rfl⟩ := four_n ns l4
    refine ⟨_, (@pss_cons _ _ _ _ _ (@ps_set _ _ (2) _ _ _ _ sc__law_joined.nd rfl (Or.inl rfl) (@pe_calm _ _ _ _ _ _ _ _ _ _ _ _ _ _ _ _ (pv 0) M_Grove_joined (rm hr) pass0 (@pa_cons _ _ _ _ _ (@pe_ix _ _ _ _ _ _ _ (@ix_list _) (pv 1) (@pe_int _ _ _ _) (fun _ _ => rfl)) (@pa_cons _ _ _ _ _ (@pe_ix _ _ _ _ _ _ _ (@ix_list _) (pv 1) (@pe_int _ _ _ _) (fun _ _ => rfl)) (@pa_cons _ _ _ _ _ (@pe_ix _ _ _ _ _ _ _ (@ix_list _) (pv 1) (@pe_int _ _ _ _) (fun _ _ => rfl)) (@pa_cons _ _ _ _ _ (@pe_ix _ _ _ _ _ _ _ (@ix_list _) (pv 1) (@pe_int _ _ _ _) (fun _ _ => rfl)) (@pa_nil _) rfl) rfl) rfl) rfl) rfl rfl rfl) rfl (by first | exact .inl rfl | exact .inr rfl | assumption)) (@pss_one _ _ _ (@ps_ret _ _ _ _ (@pe_cmpR _ _ _ _ _ _ _ _ (@op_eq_tup _ hr.units) (@pe_calm _ _ _ _ _ _ _ _ _ _ _ _ _ _ _ _ (pv 0) M_Grove_quarters (rm hr) pass0 (@pa_cons _ _ _ _ _ (pv 2) (@pa_nil _) rfl) rfl rfl rfl) (@pe_tup _ _ _ _ _ (@pa_cons _ _ _ _ _ (@pe_ix _ _ _ _ _ _ _ (@ix_list _) (pv 1) (@pe_int _ _ _ _) (fun _ _ => rfl)) (@pa_cons _ _ _ _ _ (@pe_ix _ _ _ _ _ _ _ (@ix_list _) (pv 1) (@pe_int _ _ _ _) (fun _ _ => rfl)) (@pa_cons _ _ _ _ _ (@pe_ix _ _ _ _ _ _ _ (@ix_list _) (pv 1) (@pe_int _ _ _ _) (fun _ _ => rfl)) (@pa_cons _ _ _ _ _ (@pe_ix _ _ _ _ _ _ _ (@ix_list _) (pv 1) (@pe_int _ _ _ _) (fun _ _ => rfl)) (@pa_nil _) rfl) rfl) rfl) rfl)) (nomark _))))), ?_⟩
    try dsimp only [cxK]
    refine ⟨_, rfl, g.p, g.dx, _, rfl, hg.hp, no_joined g, _, rfl, L, _, 0, .int x, rfl, rfl, SqL.of hF, atI_nat (j := 0) rfl, _, rfl, L, _, 1, .int y, rfl, rfl, SqL.of hF, atI_nat (j := 1) rfl, _, rfl, L, _, 2, .int z, rfl, rfl, SqL.of hF, atI_nat (j := 2) rfl, _, rfl, L, _, 3, .int w', rfl, rfl, SqL.of hF, atI_nat (j := 3) rfl, ?_⟩
    refine ⟨g, G, x, y, z, w', l, rfl, hg, ok, ⟨lns x (by simp), lns y (by simp), lns z (by simp), lns w' (by simp)⟩, l47, by lia, fun n G1 H1 fr hg1 go e1 => ?_⟩
    have hF1 := fr.at aF hF
    have l0 : 0 ≤ l := by
      obtain ⟨q, e, el⟩ := lns x (by simp)
      have := (ok.lev e).1
      lia
    refine ⟨_, rfl, g.p, g.dx, _, rfl, hg1.hp, no_quarters g, _, rfl, g, G1, n, _, rfl, hg1, e1, by show l + 1 ≠ 0; lia, fun t ht => ?_⟩
    refine ⟨_, rfl, L, _, 0, .int x, rfl, rfl, SqL.of hF1, atI_nat (j := 0) rfl, _, rfl, L, _, 1, .int y, rfl, rfl, SqL.of hF1, atI_nat (j := 1) rfl, _, rfl, L, _, 2, .int z, rfl, rfl, SqL.of hF1, atI_nat (j := 2) rfl, _, rfl, L, _, 3, .int w', rfl, rfl, SqL.of hF1, atI_nat (j := 3) rfl, (by show 4 ≤ sizeLine; decide), fun t2 ht2 => ?_⟩
    refine ⟨t, t2, [(x : Int), (y : Int), (z : Int), (w' : Int)], [(x : Int), (y : Int), (z : Int), (w' : Int)], rfl, rfl, SqT.of (same_up ht2 _ _ ht), SqT.of upd_same, ?_⟩
    rw [decide_eq_true rfl]
    exact k G1 _ (fr.trans (Same.fr (same_up ht2))) (hg1.same (same_up ht2)) go
inductive SpLawT (K : PySem.W.Frag) (P1 P2 P3 : Addr) (vs : List V) (H : Hp) (Q : VK) : Prop
  | mk (l : Addr) (ns : List Int) (_ : vs = [.ref l]) (_ : SqL K H l (ns.map V.int)) (_ : ns.length ≤ 63) (_ : ∀ q, Tab H P1 q) (_ : ∀ q, Tab H P2 q) (_ : ∀ q, Tab H P3 q) (_ : ∀ H', Q (.bl true) H') : SpLawT K P1 P2 P3 vs H Q
def spLawT (K : PySem.W.Frag) (P1 P2 P3 : Addr) : Sp := fun vs H Q _ => SpLawT K P1 P2 P3 vs H Q
theorem no_state {v : V} (h : ∀ i : Int, v = .int i → i < 0 ∨ 7 < i) : stateV v = false := by
  cases v with
  | int i =>
    show (decide (0 ≤ i) && decide (i < 8)) = false
    rcases h i rfl with z | z
    · rw [decide_eq_false (by lia : ¬ 0 ≤ i)]; rfl
    · rw [decide_eq_false (by lia : ¬ i < 8), Bool.and_false]
  | non => rfl
  | bl _ => rfl
  | str _ => rfl
  | byt _ => rfl
  | flt _ => rfl
  | ref _ => rfl
  | ty _ => rfl
theorem ok_law {f c P1 P2 P3 : Addr} {fd : FuncData} (F : Fun K "law" "law" s_law f fd) (T : Top K mg a) (hfd : fd.code = .ref c) (hC : PySem.W.CodeHd base c P3) (hB : Blt mg base) (n12 : P1 ≠ P2) (n13 : P1 ≠ P3) (n23 : P2 ≠ P3) (C__law_at : Cal P w K mg base CX0 1 "_law_at" p__law_at (spAt K)) (C_Grove : CalC P w K mg base CX0 2 "Grove" a.c_Grove p_Grove_init (spGInit a)) (M_Grove_leaf : CalM P w K mg base CX0 3 a.c_Grove "leaf" p_Grove_leaf (spLeaf a)) (M_Grove_solid : CalM P w K mg base CX0 4 a.c_Grove "solid" p_Grove_solid (spSolid a)) (M_Grove_level_of : CalM P w K mg base CX0 3 a.c_Grove "level_of" p_Grove_level_of (spLev a))
    (R__law_refused : CalT P w K mg base 7 "_law_refused" p__law_refused (spRef P w K mg base a 6)) (E_Grove_leaf : CalM P w K mg base (CXE P w) 3 a.c_Grove "leaf" p_Grove_leaf (spLeX a)) (E_Grove_solid : CalM P w K mg base (CXE P w) 4 a.c_Grove "solid" p_Grove_solid (spSoX a)) (C__law_bad : Cal P w K mg base CX0 1 "_law_bad" p__law_bad spBad) (C__law_numbers_refused : Cal P w K mg base CX0 8 "_law_numbers_refused" p__law_numbers_refused (spNr a P1)) (C__law_levels_refused : Cal P w K mg base CX0 8 "_law_levels_refused" p__law_levels_refused (spLr a P2)) (C__law_joined : Cal P w K mg base CX0 5 "_law_joined" p__law_joined (spLj a)) : FnOk P w K mg base CX0 9 f fd ["_law_script"] (spLawT K P1 P2 P3) := by
  refine F.okC (ps := ["_law_script"]) sc_law (fun vs H Q E h => ?_) (fun cdv A outer s H vs Q E hcd hr h => ?_)
  · obtain ⟨l, ns, rfl, _⟩ := h
    rfl
  · obtain ⟨l, ns, rfl, hS, hlen, tb1, tb2, tb3, k⟩ := h
    have hcd : cdv = .ref c := hcd.symm.trans hfd
    refine ⟨_, (@pss_cons _ _ _ _ _ (@ps_set _ _ (1) _ _ _ _ sc_law.nd rfl (Or.inr rfl) (@pe_calC0 _ _ _ _ _ _ _ _ _ _ C_Grove (rm hr) rfl pass0 (by decide)) rfl (by first | exact .inl rfl | exact .inr rfl | assumption)) (@pss_cons _ _ _ _ _ (@ps_set _ _ (2) _ _ _ _ sc_law.nd rfl (Or.inl rfl) (@pe_calm _ _ _ _ _ _ _ _ _ _ _ _ _ _ _ _ (pv 1) M_Grove_leaf (rm hr) pass0 (@pa_op _ _ _ _ _ _ _ _ _ _ (@op_mod _) (@pe_cal _ _ _ _ _ _ _ _ _ _ _ _ C__law_at (rm hr) rfl pass0 (@pa_cons _ _ _ _ _ (pv 0) (@pa_int _ _ _ _ _ _ (@pa_nil _)) rfl) (by decide) rfl rfl) (@pe_int _ _ _ _) (@pa_nil _)) rfl rfl rfl) rfl (by first | exact .inl rfl | exact .inr rfl | assumption)) (@pss_cons _ _ _ _ _ (@ps_for _ _ _ _ _ _ _ _ PassesOwn.never rfl (@pi_range2 _ _ _ _ _ _ _ rfl T.b_range (@pa_int _ _ _ _ _ _ (@pa_cons _ _ _ _ _ (@pe_callB _ _ _ _ _ _ _ _ _ (@call_max2 _ rfl) rfl T.b_max PyProof.Rows.boot_max (@pa_int _ _ _ _ _ _ (@pa_cons _ _ _ _ _ (@pe_callB _ _ _ _ _ _ _ _ _ (@call_min2 _ rfl) rfl T.b_min PyProof.Rows.boot_min (@pa_cons _ _ _ _ _ (@pe_callB _ _ _ _ _ _ _ _ _ (@call_len_seq _) rfl T.b_len PySem.boot_len (@pa_cons _ _ _ _ _ (pv 0) (@pa_nil _) rfl) (by decide) (by decide) rfl rfl) (@pa_int _ _ _ _ _ _ (@pa_nil _)) rfl) (by decide) (by decide) rfl rfl) (@pa_nil _) rfl)) (by decide) (by decide) rfl rfl) (@pa_nil _) rfl)) rfl rfl) (@pg_name _ _ (3) _ sc_law.nd rfl (Or.inl rfl) (by first | exact .inl rfl | exact .inr rfl | assumption)) (@pss_cons _ _ _ _ _ (@ps_set _ _ (4) _ _ _ _ sc_law.nd rfl (Or.inr rfl) (@pe_cal _ _ _ _ _ _ _ _ _ _ _ _ C__law_at (rm hr) rfl pass0 (@pa_cons _ _ _ _ _ (pv 0) (@pa_cons _ _ _ _ _ (pv 3) (@pa_nil _) rfl) rfl) (by decide) rfl rfl) rfl (by first | exact .inl rfl | exact .inr rfl | assumption)) (@pss_cons _ _ _ _ _ (@ps_set _ _ (5) _ _ _ _ sc_law.nd rfl (Or.inr rfl) (@pe_op _ _ _ _ _ _ _ _ (@op_mod _) (@pe_op _ _ _ _ _ _ _ _ (@op_fdiv _) (pv 4) (@pe_int _ _ _ _)) (@pe_int _ _ _ _)) rfl (by first | exact .inl rfl | exact .inr rfl | assumption)) (@pss_cons _ _ _ _ _ (@ps_set _ _ (6) _ _ _ _ sc_law.nd rfl (Or.inr rfl) (@pe_op _ _ _ _ _ _ _ _ (@op_mod _) (@pe_op _ _ _ _ _ _ _ _ (@op_fdiv _) (pv 4) (@pe_int _ _ _ _)) (@pe_int _ _ _ _)) rfl (by first | exact .inl rfl | exact .inr rfl | assumption)) (@pss_cons _ _ _ _ _ (@ps_setComp _ _ _ _ _ _ _ _ _ _ _ _ _ _ (7) _ _ _ rfl sc_law.nd rfl rfl (@CScope.of _ ((defScope s_law)) (n_law) _ (["_law_k", "_law_grove", "_law_cell", "_law_level", "_law_state"]) (1) ([1, 4, 5, 6]) rfl rfl (by decide +kernel)) (@pi_range1 _ _ _ _ _ _ rfl T.b_range (@pa_int _ _ _ _ _ _ (@pa_nil _)) rfl) (fun _ _ _ => (@pgc_name _ _ _ _ _ _ _ _ (0) (by decide +kernel) rfl rfl)) (fun _ _ _ => (@pts_nil _)) (fun _ _ _ => (@pe_calm _ _ _ _ _ _ _ _ _ _ _ _ _ _ _ _ (pv 1) M_Grove_solid (rm hr) pass0 (@pa_cons _ _ _ _ _ (pv 3) (@pa_op _ _ _ _ _ _ _ _ _ _ (@op_mod _) (@pe_op _ _ _ _ _ _ _ _ (@op_add _) (pv 4) (@pe_op _ _ _ _ _ _ _ _ (@op_mul _) (pv 0) (@pe_op _ _ _ _ _ _ _ _ (@op_mod _) (pv 2) (@pe_int _ _ _ _)))) (@pe_int _ _ _ _) (@pa_nil _)) rfl) rfl rfl rfl)) rfl (by intro _ ; rfl)) (@pss_cons _ _ _ _ _ (@ps_set _ _ (8) _ _ _ _ sc_law.nd rfl (Or.inl rfl) (@pe_calm _ _ _ _ _ _ _ _ _ _ _ _ _ _ _ _ (pv 1) M_Grove_solid (rm hr) pass0 (@pa_op _ _ _ _ _ _ _ _ _ _ (@op_mod _) (@pe_op _ _ _ _ _ _ _ _ (@op_add _) (@pe_op _ _ _ _ _ _ _ _ (@op_add _) (pv 5) (@pe_int _ _ _ _)) (@pe_op _ _ _ _ _ _ _ _ (@op_mod _) (@pe_op _ _ _ _ _ _ _ _ (@op_fdiv _) (pv 4) (@pe_int _ _ _ _)) (@pe_int _ _ _ _))) (@pe_int _ _ _ _) (@pa_cons _ _ _ _ _ (pv 6) (@pa_nil _) rfl)) rfl rfl rfl) rfl (by first | exact .inl rfl | exact .inr rfl | assumption)) (@pss_cons _ _ _ _ _ (@ps_if _ _ _ _ _ _ _ _ (@pt_not _ _ _ _ (@pt_val _ _ _ (@pe_cal _ _ _ _ _ _ _ _ _ _ _ _ C__law_numbers_refused (rm hr) rfl pass0 (@pa_cons _ _ _ _ _ (pv 1) (@pa_cons _ _ _ _ _ (@pe_cal _ _ _ _ _ _ _ _ _ _ _ _ C__law_bad (rm hr) rfl pass0 (@pa_cons _ _ _ _ _ (pv 4) (@pa_op _ _ _ _ _ _ _ _ _ _ (@op_sub _) (@pe_op _ _ _ _ _ _ _ _ (@op_pow _) (@pe_int _ _ _ _) (@pe_int _ _ _ _)) (@pe_int _ _ _ _) (@pa_nil _)) rfl) (by decide) rfl rfl) (@pa_cons _ _ _ _ _ (pv 7) (@pa_cons _ _ _ _ _ (pv 8) (@pa_nil _) rfl) rfl) rfl) rfl) (by decide) rfl rfl) (by intro _ ; rfl))) (@pss_one _ _ _ (@ps_ret _ _ _ _ (@pe_bl _ _ _ _))) (@pss_nil _)) (@pss_cons _ _ _ _ _ (@ps_if _ _ _ _ _ _ _ _ (@pt_not _ _ _ _ (@pt_val _ _ _ (@pe_cal _ _ _ _ _ _ _ _ _ _ _ _ C__law_levels_refused (rm hr) rfl pass0 (@pa_cons _ _ _ _ _ (pv 1) (@pa_cons _ _ _ _ _ (@pe_cal _ _ _ _ _ _ _ _ _ _ _ _ C__law_bad (rm hr) rfl pass0 (@pa_op _ _ _ _ _ _ _ _ _ _ (@op_fdiv _) (pv 4) (@pe_int _ _ _ _) (@pa_int _ _ _ _ _ _ (@pa_nil _))) (by decide) rfl rfl) (@pa_cons _ _ _ _ _ (pv 5) (@pa_cons _ _ _ _ _ (pv 7) (@pa_cons _ _ _ _ _ (pv 8) (@pa_nil _) rfl) rfl) rfl) rfl) rfl) (by decide) rfl rfl) (by intro _ ; rfl))) (@pss_one _ _ _ (@ps_ret _ _ _ _ (@pe_bl _ _ _ _))) (@pss_nil _)) (@pss_cons _ _ _ _ _ (@ps_set _ _ (9) _ _ _ _ sc_law.nd rfl (Or.inr rfl) (@pe_cal _ _ _ _ _ _ _ _ _ _ _ _ C__law_bad (rm hr) rfl pass0 (@pa_op _ _ _ _ _ _ _ _ _ _ (@op_fdiv _) (pv 4) (@pe_int _ _ _ _) (@pa_int _ _ _ _ _ _ (@pa_nil _))) (by decide) rfl rfl) rfl (by first | exact .inl rfl | exact .inr rfl | assumption)) (@pss_cons _ _ _ _ _ (@ps_if _ _ _ _ _ _ _ _ (@pt_not _ _ _ _ (@pt_val _ _ _ (@pe_calT _ _ _ _ _ _ _ _ _ _ R__law_refused (rm hr) rfl (@pa_cons _ _ _ _ _ (@pe_lam _ _ _ _ _ _ _ _ _ (@CScope.of _ ((defScope s_law)) (n_law) _ (["_law_grove", "_law_none"]) (0) ([1, 9]) rfl rfl (by decide +kernel)) hcd hC hB rfl) (@pa_int _ _ _ _ _ _ (@pa_nil _)) rfl) (by decide) rfl rfl) (by intro _ ; rfl))) (@pss_one _ _ _ (@ps_ret _ _ _ _ (@pe_bl _ _ _ _))) (@pss_nil _)) (@pss_cons _ _ _ _ _ (@ps_if _ _ _ _ _ _ _ _ (@pt_not _ _ _ _ (@pt_val _ _ _ (@pe_calT _ _ _ _ _ _ _ _ _ _ R__law_refused (rm hr) rfl (@pa_cons _ _ _ _ _ (@pe_lam _ _ _ _ _ _ _ _ _ (@CScope.of _ ((defScope s_law)) (n_law) _ (["_law_grove", "_law_level", "_law_none"]) (0) ([1, 5, 9]) rfl rfl (by decide +kernel)) hcd hC hB rfl) (@pa_int _ _ _ _ _ _ (@pa_nil _)) rfl) (by decide) rfl rfl) (by intro _ ; rfl))) (@pss_one _ _ _ (@ps_ret _ _ _ _ (@pe_bl _ _ _ _))) (@pss_nil _)) (@pss_one _ _ _ (@ps_if _ _ _ _ _ _ _ _ (@PW.pt _ _ _ (@pw_and _ _ _ _ _ _ _ (@pt_cmpR _ _ _ _ _ _ _ _ (@op_lt _) (pv 5) (@pe_int _ _ _ _) (nomark _)) (@pw_and1 _ _ _ _ (@pt_not _ _ _ _ (@pt_val _ _ _ (@pe_cal _ _ _ _ _ _ _ _ _ _ _ _ C__law_joined (rm hr) rfl pass0 (@pa_cons _ _ _ _ _ (pv 1) (@pa_cons _ _ _ _ _ (pv 7) (@pa_nil _) rfl) rfl) (by decide) rfl rfl) (by intro _ ; rfl)))))) (@pss_one _ _ _ (@ps_ret _ _ _ _ (@pe_bl _ _ _ _))) (@pss_nil _))))))))))))) (by intro _ ; rfl)) (@pss_one _ _ _ (@ps_ret _ _ _ _ (@pe_and _ _ _ _ _ _ _ (@pe_cmpR _ _ _ _ _ _ _ _ (@op_eq _) (@pe_calm _ _ _ _ _ _ _ _ _ _ _ _ _ _ _ _ (pv 1) M_Grove_leaf (rm hr) pass0 (@pa_op _ _ _ _ _ _ _ _ _ _ (@op_mod _) (@pe_cal _ _ _ _ _ _ _ _ _ _ _ _ C__law_at (rm hr) rfl pass0 (@pa_cons _ _ _ _ _ (pv 0) (@pa_int _ _ _ _ _ _ (@pa_nil _)) rfl) (by decide) rfl rfl) (@pe_int _ _ _ _) (@pa_nil _)) rfl rfl rfl) (pv 2) (nomark _)) (@pe_one _ _ _ _ _ (@pe_cmpR _ _ _ _ _ _ _ _ (@op_eq _) (@pe_calm _ _ _ _ _ _ _ _ _ _ _ _ _ _ _ _ (pv 1) M_Grove_level_of (rm hr) pass0 (@pa_cons _ _ _ _ _ (pv 2) (@pa_nil _) rfl) rfl rfl rfl) (@pe_int _ _ _ _) (nomark _))))))))), ?_⟩
    try dsimp only [cxK]
    intro x dx nx ndx nex
    refine ⟨x, dx, rfl, upd_same, fun g H1 gp N => ⟨rfl, ?_⟩⟩
    have s1 : Same H H1 := fun b o e => N.kp b o (by rw [upd_ne (ne_of_none e nx), upd_ne (ne_of_none e ndx)]; exact e) (gp ▸ ne_of_none e nx)
    have Y0 : Y14 K a g l ns P1 P2 P3 H1 G0 := by
      refine ⟨N.at', g0_ok, ?_, (tb1 _).same s1, (tb2 _).same s1, (tb3 _).same s1⟩
      have ap : ∀ o, H l = some o → ApG g l := fun o e => by
        have e2 : upd (upd H dx (.own x)) x (.ins a.c_Grove dx []) l = some o := by rw [upd_ne (ne_of_none e nx), upd_ne (ne_of_none e ndx)]; exact e
        exact ⟨ne_of_none e2 N.fresh.1, ne_of_none e2 N.fresh.2.1, ne_of_none e2 N.fresh.2.2.1⟩
      rcases hS with (h | ⟨o, h⟩) | h
      · exact .inl ⟨ap _ h, .inl (s1 _ _ h)⟩
      · exact .inl ⟨ap _ h, .inr ⟨o, s1 _ _ h⟩⟩
      · exact .inr fun H => .inr h
    subst gp
    clear N
    have gl0 : G0.length = 56 := g0_len
    refine ⟨_, rfl, g.p, g.dx, _, rfl, Y0.at'.hp, no_leaf g, _, rfl, l, ns, 0, rfl, Y0.sc.seq, by decide, _, _, rfl, rfl, (by show (0 : Int) < 8; decide), ?_⟩
    obtain ⟨st, hst⟩ := Int.eq_ofNat_of_zero_le (show 0 ≤ atN ns 0 % 8 by lia)
    have st8 : st < 8 := by lia
    refine ⟨g.p, atN ns 0 % 8, rfl, by lia, by lia, ?_⟩
    refine ⟨_, rfl, l, _, rfl, .inl Y0.sc.seq, _, _, rfl, _, _, rfl, 1, _, rfl, ⟨by decide, by decide, ?_, ?_⟩, ?_⟩
    · split <;> (try split) <;> lia
    · split <;> (try split) <;> lia
    have hM : ((if (if (17 : Int) < ((ns.map V.int).length : Int) then 17 else ((ns.map V.int).length : Int)) > 2 then (if (17 : Int) < ((ns.map V.int).length : Int) then 17 else ((ns.map V.int).length : Int)) else 2) - 1).toNat ≤ 16 := by split <;> (try split) <;> lia
    generalize ((if (if (17 : Int) < ((ns.map V.int).length : Int) then 17 else ((ns.map V.int).length : Int)) > 2 then (if (17 : Int) < ((ns.map V.int).length : Int) then 17 else ((ns.map V.int).length : Int)) else 2) - 1).toNat = M at hM ⊢
    refine for_range (n := M) (fun i σ H2 => ∃ (G : Gv) (u3 u4 u5 u6 u7 u8 u9 : Option V), σ = [some (.ref l), some (.ref g.p), some (.int st), u3, u4, u5, u6, u7, u8, u9] ∧ Y14 K a g l ns P1 P2 P3 H2 G ∧ G.length ≤ 56 + 400 * i) ⟨G0, none, none, none, none, none, none, none, by rw [hst]; rfl, Y0, by rw [gl0]; exact Nat.le_refl _⟩ ?_ ?_
    · rintro i σ H2 hi ⟨G, u3, u4, u5, u6, u7, u8, u9, rfl, Y, gl⟩
      refine ⟨_, rfl, _, rfl, l, ns, 1 + (i : Int), rfl, Y.sc.seq, by lia, ?_⟩
      generalize atN ns (1 + (i : Int)) = cell
      refine ⟨_, rfl, _, _, rfl, rfl, ⟨by decide, by decide⟩, _, _, rfl, rfl, (by show (0 : Int) < 49; decide), ?_⟩
      obtain ⟨lev, hlev⟩ := Int.eq_ofNat_of_zero_le (show 0 ≤ cell / 5 % 49 by lia)
      have lev48 : lev ≤ 48 := by lia
      refine ⟨_, rfl, _, _, rfl, rfl, ⟨by decide, by decide⟩, _, _, rfl, rfl, (by show (0 : Int) < 8; decide), ?_⟩
      obtain ⟨sta, hsta⟩ := Int.eq_ofNat_of_zero_le (show 0 ≤ cell / 3 % 8 by lia)
      have sta8 : sta < 8 := by lia
      show tSeq _ _ _ [some (.ref l), some (.ref g.p), some (.int st), some (.int (1 + (i : Int))), some (.int cell), some (.int (cell / 5 % 49)), some (.int (cell / 3 % 8)), u7, u8, u9] H2
      rw [hlev, hsta]
      refine ⟨4, rfl, by decide, by decide, ?_⟩
      refine blk_range (n := 4) (fun j acc H3 => ∃ (G' : Gv) (ms : List Nat), acc = ms.map intN ∧ ms.length = j ∧ (∀ n ∈ ms, LevAt G' n lev) ∧ Y14 K a g l ns P1 P2 P3 H3 G' ∧ Goes G G' (48 * j)) ⟨G, [], rfl, rfl, fun n hn => by simp at hn, Y, Goes.refl Y.ok⟩ ?_ ?_
      · rintro j acc H3 hj ⟨G', ms, rfl, lms, lv, Y3, go⟩
        have gf := go.few
        refine ⟨⟨[some (.int (0 + (j : Int)))], rfl, rfl⟩, by rw [List.length_map, lms]; exact lt_ln (by lia), tyes ⟨_, rfl, g.p, g.dx, _, rfl, Y3.at'.hp, no_solid g, _, rfl, _, rfl, _, rfl, _, rfl, _, _, rfl, rfl, (by show (0 : Int) < 3; decide), _, _, rfl, rfl, .inl ⟨by lia, by lia⟩, _, _, rfl, rfl, _, _, rfl, rfl, (by show (0 : Int) < 8; decide), ?_⟩⟩
        obtain ⟨s4, hs4⟩ := Int.eq_ofNat_of_zero_le (show 0 ≤ ((sta : Int) + (0 + (j : Int)) * (cell % 3)) % 8 from Int.emod_nonneg _ (by decide))
        have s48 : s4 < 8 := by have := Int.emod_lt_of_pos ((sta : Int) + (0 + (j : Int)) * (cell % 3)) (by decide : (0 : Int) < 8); lia
        refine ⟨g, G', lev, s4, by rw [← hs4]; rfl, Y3.at', Y3.ok, lev48, s48, by lia, fun n G2 H4 fr hg4 go4 so4 => ?_⟩
        refine ⟨G2, ms ++ [n], by rw [List.map_append]; rfl, by rw [List.length_append, lms]; rfl, fun m hm => ?_, Y3.fr fr hg4 go4.ok, (go.trans go4).mono (by lia)⟩
        rcases List.mem_append.mp hm with z | z
        · exact go4.lev (lv m z)
        · rw [List.mem_singleton.mp z]
          exact Sol.lev go4.ok s48 so4
      · rintro acc H3 ⟨G1, ms, rfl, lms, lv, Y3, go⟩ F4 nF
        have gf := go.few
        have aF := ApG.new Y3.at' nF
        have Y4 := Y3.same (same_up (o := .lst (ms.map intN)) nF)
        have hF4 : upd H3 F4 (.lst (ms.map intN)) F4 = some (.lst (ms.map intN)) := upd_same
        generalize upd H3 F4 (.lst (ms.map intN)) = H4 at Y4 hF4 ⊢
        refine ⟨_, rfl, g.p, g.dx, _, rfl, Y4.at'.hp, no_solid g, _, rfl, _, _, rfl, rfl, _, rfl, _, _, rfl, rfl, ⟨by decide, by decide⟩, _, _, rfl, rfl, (by show (0 : Int) < 48; decide), _, _, rfl, rfl, _, _, rfl, rfl, (by show (0 : Int) < 49; decide), _, rfl, ?_⟩
        obtain ⟨lo, hlo⟩ := Int.eq_ofNat_of_zero_le (show 0 ≤ ((lev : Int) + 1 + cell / 7 % 48) % 49 by omega)
        have lo48 : lo ≤ 48 := by omega
        have nelo : (lo : Int) ≠ lev := by omega
        refine ⟨g, G1, lo, sta, by rw [← hlo]; rfl, Y4.at', Y4.ok, lo48, sta8, by lia, fun o G2 H5 fr5 hg5 go5 so5 => ?_⟩
        have gf5 := go5.few
        have Y5 := Y4.fr fr5 hg5 go5.ok
        have hF5 := fr5.at aF hF4
        have ho := Sol.lev go5.ok sta8 so5
        have lv5 : ∀ n ∈ ms, LevAt G2 n lev := fun n hn => go5.lev (lv n hn)
        refine ⟨_, rfl, _, rfl, _, _, rfl, rfl, ⟨by decide, by decide, by decide⟩, _, _, rfl, rfl, cell, _, rfl, (by show (0 : Int) ≤ 10 ^ (9 : Int).toNat - 1; decide), fun v H6 ov s6 bad => ?_⟩
        have Y6 := Y5.same s6
        have hF6 := s6 _ _ hF5
        refine ⟨_, rfl, _, rfl, g, G2, v, F4, ms.map (fun n : Nat => (n : Int)), o, rfl, Y6.at', ov, fun n e => ?_, by rw [List.map_map]; exact hF6, by rw [List.length_map, lms], Y6.t1, fun H7 kp7 tb7 => ⟨true, rfl, iteF ?_⟩⟩
        · have := bad n e
          rw [pow9] at this
          lia
        have Y7 := Y6.s1 n12 n13 kp7 tb7
        have hF7 := kp7 _ _ (Tab.ne Y6.t1 hF6 (by intro _ z; cases z)) hF6
        refine ⟨_, rfl, _, rfl, _, _, rfl, rfl, ⟨by decide, by decide⟩, _, 48, rfl, by decide, fun v2 H8 ov2 s8 bad2 => ?_⟩
        have Y8 := Y7.same s8
        have hF8 := s8 _ _ hF7
        refine ⟨_, rfl, _, rfl, _, rfl, g, G2, v2, lev, F4, ms, o, lo, rfl, Y8.at', Y8.ok, by lia, ov2, bad2, hF8, aF, lms, lv5, ho, nelo, Y8.t2, fun G3 H9 rl9 hg9 go9 tb9 => ⟨true, rfl, iteF ?_⟩⟩
        have gf9 := go9.few
        have Y9 := Y8.s2 n12 n23 rl9 hg9 go9.ok tb9
        have hF9 := rl9 _ _ hF8 aF (Tab.ne Y8.t2 hF8 (by intro _ z; cases z))
        refine ⟨_, rfl, _, _, rfl, rfl, ⟨by decide, by decide⟩, _, 7, rfl, by decide, fun v3 H10 ov3 s10 bad3 => ?_⟩
        have Y10 := Y9.same s10
        have hF10 := s10 _ _ hF9
        have ns3 := no_state bad3
        refine ref_at (CScope.of (So := defScope s_law) (No := n_law) (N := ["_law_grove", "_law_none"]) (k := 0) (cs := [1, 9]) rfl rfl (by decide +kernel)) Y10.t3 (fun p c' H11 LH A2 outer2 s2 Q' E' hr hd => ⟨_, (@pe_calm _ _ _ _ _ _ _ _ _ _ _ _ _ _ _ _ (pv 0) E_Grove_leaf (rm hr) (passL rfl) (@pa_cons _ _ _ _ _ (pv 1) (@pa_nil _) rfl) rfl rfl rfl), ?_⟩) (fun H11 kp11 tb11 => ⟨true, rfl, iteF ?_⟩)
        · have kp11 : Kp P3 H10 H11 := LH.st
          have hg11 := kp11.grove Y10.t3 Y10.at'
          exact ⟨_, rfl, g.p, g.dx, _, rfl, hg11.hp, no_leaf g, _, rfl, g.p, v3, rfl, kp11.odd Y10.t3 ov3, fun z => (by rw [ns3] at z; cases z), fun _ => hd _ H11 (kix_st T) (Same.refl H11)⟩
        have Y11 := Y10.s3 n13 n23 kp11 tb11
        have hF11 := kp11 _ _ (Tab.ne Y10.t3 hF10 (by intro _ z; cases z)) hF10
        have ov4 := kp11.odd Y10.t3 ov3
        refine ref_at (CScope.of (So := defScope s_law) (No := n_law) (N := ["_law_grove", "_law_level", "_law_none"]) (k := 0) (cs := [1, 5, 9]) rfl rfl (by decide +kernel)) tb11 (fun p c' H12 LH A2 outer2 s2 Q' E' hr hd => ⟨_, (@pe_calm _ _ _ _ _ _ _ _ _ _ _ _ _ _ _ _ (pv 0) E_Grove_solid (rm hr) (passL rfl) (@pa_cons _ _ _ _ _ (pv 1) (@pa_cons _ _ _ _ _ (pv 2) (@pa_nil _) rfl) rfl) rfl rfl rfl), ?_⟩) (fun H12 kp12 tb12 => ⟨true, rfl, iteF ?_⟩)
        · have kp12 : Kp P3 H11 H12 := LH.st
          have hg12 := kp12.grove Y11.t3 Y11.at'
          exact ⟨_, rfl, g.p, g.dx, _, rfl, hg12.hp, no_solid g, _, rfl, _, rfl, g, G3, .int lev, v3, rfl, hg12, .int _, kp12.odd Y11.t3 ov4, .inr ⟨lev, rfl, lev48, ns3, hd _ H12 (kix_st T) (Same.refl H12)⟩⟩
        have Y12 := Y11.s3 n13 n23 kp12 tb12
        have hF12 := kp12 _ _ (Tab.ne Y11.t3 hF11 (by intro _ z; cases z)) hF11
        refine ⟨_, rfl, _, _, rfl, rfl, _, rfl, ?_⟩
        refine ite2 (fun hc => ?_) (fun hc => ?_)
        · have l47 : (lev : Int) ≤ 47 := by have := of_decide_eq_true hc; lia
          refine ⟨_, rfl, _, rfl, g, G3, F4, ms, lev, rfl, Y12.at', Y12.ok, by lia, hF12, aF, lms, fun n hn => go9.lev (lv5 n hn), l47, fun G4 H13 fr13 hg13 go13 => ⟨true, rfl, iteF ?_⟩⟩
          have gf13 := go13.few
          exact ⟨G4, _, _, _, _, _, _, _, rfl, Y12.fr fr13 hg13 go13.ok, by lia⟩
        · exact iteF ⟨G3, _, _, _, _, _, _, _, rfl, Y12, by lia⟩
    · rintro σ H2 ⟨G, u3, u4, u5, u6, u7, u8, u9, rfl, Y, gl⟩
      refine ⟨_, rfl, g.p, g.dx, _, rfl, Y.at'.hp, no_leaf g, _, rfl, l, ns, 0, rfl, Y.sc.seq, by decide, _, _, rfl, rfl, (by show (0 : Int) < 8; decide), ?_⟩
      refine ⟨g.p, atN ns 0 % 8, rfl, by lia, by lia, _, rfl, rfl, true, by rw [hst, decide_eq_true rfl], iteT ?_⟩
      refine ⟨_, rfl, g.p, g.dx, _, rfl, Y.at'.hp, no_levelOf g, _, rfl, g, G, st, _, rfl, Y.at', Y.ok.leaf st st8, rfl, ?_⟩
      exact k _
end
end J

set_option maxHeartbeats 200000
set_option Elab.async false
set_option linter.all false
set_option maxRecDepth 100000
set_option maxHeartbeats 4000000
namespace J
open PySem L2
theorem ar1 {α : Type} : ∀ us : List α, us.length = 1 → ∃ a0, us = [a0]
  | [a0], _ => ⟨a0, rfl⟩
theorem ar2 {α : Type} : ∀ us : List α, us.length = 2 → ∃ a0 a1, us = [a0, a1]
  | [a0, a1], _ => ⟨a0, a1, rfl⟩
theorem ar3 {α : Type} : ∀ us : List α, us.length = 3 → ∃ a0 a1 a2, us = [a0, a1, a2]
  | [a0, a1, a2], _ => ⟨a0, a1, a2, rfl⟩
theorem ar4 {α : Type} : ∀ us : List α, us.length = 4 → ∃ a0 a1 a2 a3, us = [a0, a1, a2, a3]
  | [a0, a1, a2, a3], _ => ⟨a0, a1, a2, a3, rfl⟩
theorem ar5 {α : Type} : ∀ us : List α, us.length = 5 → ∃ a0 a1 a2 a3 a4, us = [a0, a1, a2, a3, a4]
  | [a0, a1, a2, a3, a4], _ => ⟨a0, a1, a2, a3, a4, rfl⟩
theorem fin {l : PySem.W.OpenLaw} {w : World} {K : PySem.W.Frag} {h : Heap} {mg : Str → Option Value} {fa : Addr} (X : K.In h) (G : h.Ns mainGlobals mg) (hfa : mg "law" = some (.ref fa))
    {c_Grove : Addr} {f0 : Addr} {od0 an0 : Option Addr} {sl0 : Array (Option Value)} {oc0 kV0 dc0 pm0 cd0 ct0 : Value} {f1 : Addr} {od1 an1 : Option Addr} {sl1 : Array (Option Value)} {oc1 kV1 dc1 pm1 cd1 ct1 : Value} {f2 : Addr} {od2 an2 : Option Addr} {sl2 : Array (Option Value)} {oc2 kV2 dc2 pm2 cd2 ct2 : Value} {f3 : Addr} {od3 an3 : Option Addr} {sl3 : Array (Option Value)} {oc3 kV3 dc3 pm3 cd3 ct3 : Value} {f4 : Addr} {od4 an4 : Option Addr} {sl4 : Array (Option Value)} {oc4 kV4 dc4 pm4 cd4 ct4 : Value} {f5 : Addr} {od5 an5 : Option Addr} {sl5 : Array (Option Value)} {oc5 kV5 dc5 pm5 cd5 ct5 : Value} {f6 : Addr} {od6 an6 : Option Addr} {sl6 : Array (Option Value)} {oc6 kV6 dc6 pm6 cd6 ct6 : Value} {f7 : Addr} {od7 an7 : Option Addr} {sl7 : Array (Option Value)} {oc7 kV7 dc7 pm7 cd7 ct7 : Value} {f8 : Addr} {od8 an8 : Option Addr} {sl8 : Array (Option Value)} {oc8 kV8 dc8 pm8 cd8 ct8 : Value} {f9 : Addr} {od9 an9 : Option Addr} {sl9 : Array (Option Value)} {oc9 kV9 dc9 pm9 cd9 ct9 : Value} {f10 : Addr} {od10 an10 : Option Addr} {sl10 : Array (Option Value)} {oc10 kV10 dc10 pm10 cd10 ct10 : Value} {f11 : Addr} {od11 an11 : Option Addr} {sl11 : Array (Option Value)} {oc11 kV11 dc11 pm11 cd11 ct11 : Value} {f12 : Addr} {od12 an12 : Option Addr} {sl12 : Array (Option Value)} {oc12 kV12 dc12 pm12 cd12 ct12 : Value} {f13 : Addr} {od13 an13 : Option Addr} {sl13 : Array (Option Value)} {oc13 kV13 dc13 pm13 cd13 ct13 : Value} {f14 : Addr} {od14 an14 : Option Addr} {sl14 : Array (Option Value)} {oc14 kV14 dc14 pm14 cd14 ct14 : Value} {f15 : Addr} {od15 an15 : Option Addr} {sl15 : Array (Option Value)} {oc15 kV15 dc15 pm15 cd15 ct15 : Value} {f16 : Addr} {od16 an16 : Option Addr} {sl16 : Array (Option Value)} {oc16 kV16 dc16 pm16 cd16 ct16 : Value} {f17 : Addr} {od17 an17 : Option Addr} {sl17 : Array (Option Value)} {oc17 kV17 dc17 pm17 cd17 ct17 : Value} {f18 : Addr} {od18 an18 : Option Addr} {sl18 : Array (Option Value)} {oc18 kV18 dc18 pm18 cd18 ct18 : Value} {f19 : Addr} {od19 an19 : Option Addr} {sl19 : Array (Option Value)} {oc19 kV19 dc19 pm19 cd19 ct19 : Value} {f20 : Addr} {od20 an20 : Option Addr} {sl20 : Array (Option Value)} {oc20 kV20 dc20 pm20 cd20 ct20 : Value} {f21 : Addr} {od21 an21 : Option Addr} {sl21 : Array (Option Value)} {oc21 kV21 dc21 pm21 cd21 ct21 : Value} {f22 : Addr} {od22 an22 : Option Addr} {sl22 : Array (Option Value)} {oc22 kV22 dc22 pm22 cd22 ct22 : Value} {f23 : Addr} {od23 an23 : Option Addr} {sl23 : Array (Option Value)} {oc23 kV23 dc23 pm23 cd23 ct23 : Value} {f24 : Addr} {od24 an24 : Option Addr} {sl24 : Array (Option Value)} {oc24 kV24 dc24 pm24 cd24 ct24 : Value} {f25 : Addr} {od25 an25 : Option Addr} {sl25 : Array (Option Value)} {oc25 kV25 dc25 pm25 cd25 ct25 : Value} {f26 : Addr} {od26 an26 : Option Addr} {sl26 : Array (Option Value)} {oc26 kV26 dc26 pm26 cd26 ct26 : Value} {f27 : Addr} {od27 an27 : Option Addr} {sl27 : Array (Option Value)} {oc27 kV27 dc27 pm27 cd27 ct27 : Value} {t_STATES : Tok} {t_TOP_LEVEL : Tok} {x_FieldError : Addr} {x_NoNumber : Addr} {x_NoRule : Addr} {x_Restless : Addr} {x_NoSquare : Addr} {x_NoLevel : Addr} {x_NoState : Addr} {x_NoBox : Addr} {x_TooFar : Addr} {x_TooMany : Addr} {x_NoSteps : Addr} {x_NoPattern : Addr} {x_NoName : Addr} {x_NoRow : Addr}
    (n_c_Grove : PySem.W.nsIn K mainGlobals "Grove" = some (some (.ref c_Grove)))
    (pg_Grove : PySem.W.plainGet K c_Grove Str.empty = true)
    (hd_Grove : PySem.W.hasDictIn K c_Grove = true)
    (po_Grove : PySem.W.plainOver K c_Grove = true)
    (sa_Grove : PySem.W.findIn K (.ref c_Grove) "__setattr__" = some (some (.builtin "object.__setattr__")))
    (mk_Grove : PySem.W.makesIn K c_Grove = true)
    (kc_Grove : PySem.W.keepIn K (.ref c_Grove) = true)
    (na_Grove_levels : PySem.W.findIn K (.ref c_Grove) "levels" = some none)
    (na_Grove_parts : PySem.W.findIn K (.ref c_Grove) "parts" = some none)
    (na_Grove_numbers : PySem.W.findIn K (.ref c_Grove) "numbers" = some none)
    (na_Grove_bares : PySem.W.findIn K (.ref c_Grove) "bares" = some none)
    (na_Grove_amounts : PySem.W.findIn K (.ref c_Grove) "amounts" = some none)
    (na_Grove_boxes : PySem.W.findIn K (.ref c_Grove) "boxes" = some none)
    (a0 : PySem.W.nsIn K mainGlobals "is_whole" = some (some (.ref f0)))
    (l0 : K.lookup f0 = some ⟨oc0, od0, .func (PySem.W.fnOf "is_whole" "is_whole" (defArgs s_is_whole) (defBody s_is_whole) (defScope s_is_whole) .none kV0 dc0 pm0 an0 cd0 ct0), sl0⟩)
    (c0 : PySem.W.codeIn K cd0 "is_whole" = true)
    (k0 : PySem.W.keepIn K (.ref f0) = true)
    (a1 : PySem.W.nsIn K mainGlobals "is_state" = some (some (.ref f1)))
    (l1 : K.lookup f1 = some ⟨oc1, od1, .func (PySem.W.fnOf "is_state" "is_state" (defArgs s_is_state) (defBody s_is_state) (defScope s_is_state) .none kV1 dc1 pm1 an1 cd1 ct1), sl1⟩)
    (c1 : PySem.W.codeIn K cd1 "is_state" = true)
    (k1 : PySem.W.keepIn K (.ref f1) = true)
    (a2 : PySem.W.nsIn K mainGlobals "shifted_box" = some (some (.ref f2)))
    (l2 : K.lookup f2 = some ⟨oc2, od2, .func (PySem.W.fnOf "shifted_box" "shifted_box" (defArgs s_shifted_box) (defBody s_shifted_box) (defScope s_shifted_box) .none kV2 dc2 pm2 an2 cd2 ct2), sl2⟩)
    (c2 : PySem.W.codeIn K cd2 "shifted_box" = true)
    (k2 : PySem.W.keepIn K (.ref f2) = true)
    (a3 : PySem.W.nsIn K mainGlobals "least_box" = some (some (.ref f3)))
    (l3 : K.lookup f3 = some ⟨oc3, od3, .func (PySem.W.fnOf "least_box" "least_box" (defArgs s_least_box) (defBody s_least_box) (defScope s_least_box) .none kV3 dc3 pm3 an3 cd3 ct3), sl3⟩)
    (c3 : PySem.W.codeIn K cd3 "least_box" = true)
    (k3 : PySem.W.keepIn K (.ref f3) = true)
    (a4 : PySem.W.nsIn K mainGlobals "_law_at" = some (some (.ref f4)))
    (l4 : K.lookup f4 = some ⟨oc4, od4, .func (PySem.W.fnOf "_law_at" "_law_at" (defArgs s__law_at) (defBody s__law_at) (defScope s__law_at) .none kV4 dc4 pm4 an4 cd4 ct4), sl4⟩)
    (c4 : PySem.W.codeIn K cd4 "_law_at" = true)
    (k4 : PySem.W.keepIn K (.ref f4) = true)
    (a5 : PySem.W.nsIn K mainGlobals "_law_bad" = some (some (.ref f5)))
    (l5 : K.lookup f5 = some ⟨oc5, od5, .func (PySem.W.fnOf "_law_bad" "_law_bad" (defArgs s__law_bad) (defBody s__law_bad) (defScope s__law_bad) .none kV5 dc5 pm5 an5 cd5 ct5), sl5⟩)
    (c5 : PySem.W.codeIn K cd5 "_law_bad" = true)
    (k5 : PySem.W.keepIn K (.ref f5) = true)
    (a6 : PySem.W.nsIn K mainGlobals "_law_others" = some (some (.ref f6)))
    (l6 : K.lookup f6 = some ⟨oc6, od6, .func (PySem.W.fnOf "_law_others" "_law_others" (defArgs s__law_others) (defBody s__law_others) (defScope s__law_others) .none kV6 dc6 pm6 an6 cd6 ct6), sl6⟩)
    (c6 : PySem.W.codeIn K cd6 "_law_others" = true)
    (k6 : PySem.W.keepIn K (.ref f6) = true)
    (a7 : PySem.W.nsIn K mainGlobals "_law_refused" = some (some (.ref f7)))
    (l7 : K.lookup f7 = some ⟨oc7, od7, .func (PySem.W.fnOf "_law_refused" "_law_refused" (defArgs s__law_refused) (defBody s__law_refused) (defScope s__law_refused) .none kV7 dc7 pm7 an7 cd7 ct7), sl7⟩)
    (c7 : PySem.W.codeIn K cd7 "_law_refused" = true)
    (k7 : PySem.W.keepIn K (.ref f7) = true)
    (a8 : PySem.W.nsIn K mainGlobals "_law_ask" = some (some (.ref f8)))
    (l8 : K.lookup f8 = some ⟨oc8, od8, .func (PySem.W.fnOf "_law_ask" "_law_ask" (defArgs s__law_ask) (defBody s__law_ask) (defScope s__law_ask) .none kV8 dc8 pm8 an8 cd8 ct8), sl8⟩)
    (c8 : PySem.W.codeIn K cd8 "_law_ask" = true)
    (k8 : PySem.W.keepIn K (.ref f8) = true)
    (a9 : PySem.W.nsIn K mainGlobals "_law_numbers_refused" = some (some (.ref f9)))
    (l9 : K.lookup f9 = some ⟨oc9, od9, .func (PySem.W.fnOf "_law_numbers_refused" "_law_numbers_refused" (defArgs s__law_numbers_refused) (defBody s__law_numbers_refused) (defScope s__law_numbers_refused) .none kV9 dc9 pm9 an9 cd9 ct9), sl9⟩)
    (cq__law_numbers_refused : cd9 = .ref 365)
    (c9 : PySem.W.codeIn K cd9 "_law_numbers_refused" = true)
    (k9 : PySem.W.keepIn K (.ref f9) = true)
    (a10 : PySem.W.nsIn K mainGlobals "_law_levels_refused" = some (some (.ref f10)))
    (l10 : K.lookup f10 = some ⟨oc10, od10, .func (PySem.W.fnOf "_law_levels_refused" "_law_levels_refused" (defArgs s__law_levels_refused) (defBody s__law_levels_refused) (defScope s__law_levels_refused) .none kV10 dc10 pm10 an10 cd10 ct10), sl10⟩)
    (cq__law_levels_refused : cd10 = .ref 372)
    (c10 : PySem.W.codeIn K cd10 "_law_levels_refused" = true)
    (k10 : PySem.W.keepIn K (.ref f10) = true)
    (a11 : PySem.W.nsIn K mainGlobals "_law_joined" = some (some (.ref f11)))
    (l11 : K.lookup f11 = some ⟨oc11, od11, .func (PySem.W.fnOf "_law_joined" "_law_joined" (defArgs s__law_joined) (defBody s__law_joined) (defScope s__law_joined) .none kV11 dc11 pm11 an11 cd11 ct11), sl11⟩)
    (c11 : PySem.W.codeIn K cd11 "_law_joined" = true)
    (k11 : PySem.W.keepIn K (.ref f11) = true)
    (a12 : PySem.W.nsIn K mainGlobals "law" = some (some (.ref f12)))
    (l12 : K.lookup f12 = some ⟨oc12, od12, .func (PySem.W.fnOf "law" "law" (defArgs s_law) (defBody s_law) (defScope s_law) .none kV12 dc12 pm12 an12 cd12 ct12), sl12⟩)
    (cq_law : cd12 = .ref 384)
    (c12 : PySem.W.codeIn K cd12 "law" = true)
    (k12 : PySem.W.keepIn K (.ref f12) = true)
    (a13 : PySem.W.findIn K (.ref c_Grove) "__init__" = some (some (.ref f13)))
    (i13 : PySem.W.isFn K (.ref f13) = true)
    (l13 : K.lookup f13 = some ⟨oc13, od13, .func (PySem.W.fnOf "__init__" "Grove.__init__" (defArgs s_Grove_init) (defBody s_Grove_init) (defScope s_Grove_init) .none kV13 dc13 pm13 an13 cd13 ct13), sl13⟩)
    (c13 : PySem.W.codeIn K cd13 "Grove.__init__" = true)
    (k13 : PySem.W.keepIn K (.ref f13) = true)
    (a14 : PySem.W.findIn K (.ref c_Grove) "kept" = some (some (.ref f14)))
    (i14 : PySem.W.isFn K (.ref f14) = true)
    (l14 : K.lookup f14 = some ⟨oc14, od14, .func (PySem.W.fnOf "kept" "Grove.kept" (defArgs s_Grove_kept) (defBody s_Grove_kept) (defScope s_Grove_kept) .none kV14 dc14 pm14 an14 cd14 ct14), sl14⟩)
    (c14 : PySem.W.codeIn K cd14 "Grove.kept" = true)
    (k14 : PySem.W.keepIn K (.ref f14) = true)
    (a15 : PySem.W.findIn K (.ref c_Grove) "linked" = some (some (.ref f15)))
    (i15 : PySem.W.isFn K (.ref f15) = true)
    (l15 : K.lookup f15 = some ⟨oc15, od15, .func (PySem.W.fnOf "linked" "Grove.linked" (defArgs s_Grove_linked) (defBody s_Grove_linked) (defScope s_Grove_linked) .none kV15 dc15 pm15 an15 cd15 ct15), sl15⟩)
    (c15 : PySem.W.codeIn K cd15 "Grove.linked" = true)
    (k15 : PySem.W.keepIn K (.ref f15) = true)
    (a16 : PySem.W.findIn K (.ref c_Grove) "check_square" = some (some (.ref f16)))
    (i16 : PySem.W.isFn K (.ref f16) = true)
    (l16 : K.lookup f16 = some ⟨oc16, od16, .func (PySem.W.fnOf "check_square" "Grove.check_square" (defArgs s_Grove_check_square) (defBody s_Grove_check_square) (defScope s_Grove_check_square) .none kV16 dc16 pm16 an16 cd16 ct16), sl16⟩)
    (c16 : PySem.W.codeIn K cd16 "Grove.check_square" = true)
    (k16 : PySem.W.keepIn K (.ref f16) = true)
    (a17 : PySem.W.findIn K (.ref c_Grove) "leaf" = some (some (.ref f17)))
    (i17 : PySem.W.isFn K (.ref f17) = true)
    (l17 : K.lookup f17 = some ⟨oc17, od17, .func (PySem.W.fnOf "leaf" "Grove.leaf" (defArgs s_Grove_leaf) (defBody s_Grove_leaf) (defScope s_Grove_leaf) .none kV17 dc17 pm17 an17 cd17 ct17), sl17⟩)
    (c17 : PySem.W.codeIn K cd17 "Grove.leaf" = true)
    (k17 : PySem.W.keepIn K (.ref f17) = true)
    (a18 : PySem.W.findIn K (.ref c_Grove) "joined" = some (some (.ref f18)))
    (i18 : PySem.W.isFn K (.ref f18) = true)
    (l18 : K.lookup f18 = some ⟨oc18, od18, .func (PySem.W.fnOf "joined" "Grove.joined" (defArgs s_Grove_joined) (defBody s_Grove_joined) (defScope s_Grove_joined) .none kV18 dc18 pm18 an18 cd18 ct18), sl18⟩)
    (c18 : PySem.W.codeIn K cd18 "Grove.joined" = true)
    (k18 : PySem.W.keepIn K (.ref f18) = true)
    (a19 : PySem.W.findIn K (.ref c_Grove) "solid" = some (some (.ref f19)))
    (i19 : PySem.W.isFn K (.ref f19) = true)
    (l19 : K.lookup f19 = some ⟨oc19, od19, .func (PySem.W.fnOf "solid" "Grove.solid" (defArgs s_Grove_solid) (defBody s_Grove_solid) (defScope s_Grove_solid) .none kV19 dc19 pm19 an19 cd19 ct19), sl19⟩)
    (c19 : PySem.W.codeIn K cd19 "Grove.solid" = true)
    (k19 : PySem.W.keepIn K (.ref f19) = true)
    (a20 : PySem.W.findIn K (.ref c_Grove) "level_of" = some (some (.ref f20)))
    (i20 : PySem.W.isFn K (.ref f20) = true)
    (l20 : K.lookup f20 = some ⟨oc20, od20, .func (PySem.W.fnOf "level_of" "Grove.level_of" (defArgs s_Grove_level_of) (defBody s_Grove_level_of) (defScope s_Grove_level_of) .none kV20 dc20 pm20 an20 cd20 ct20), sl20⟩)
    (c20 : PySem.W.codeIn K cd20 "Grove.level_of" = true)
    (k20 : PySem.W.keepIn K (.ref f20) = true)
    (a21 : PySem.W.findIn K (.ref c_Grove) "quarters" = some (some (.ref f21)))
    (i21 : PySem.W.isFn K (.ref f21) = true)
    (l21 : K.lookup f21 = some ⟨oc21, od21, .func (PySem.W.fnOf "quarters" "Grove.quarters" (defArgs s_Grove_quarters) (defBody s_Grove_quarters) (defScope s_Grove_quarters) .none kV21 dc21 pm21 an21 cd21 ct21), sl21⟩)
    (c21 : PySem.W.codeIn K cd21 "Grove.quarters" = true)
    (k21 : PySem.W.keepIn K (.ref f21) = true)
    (a22 : PySem.W.findIn K (.ref c_Grove) "state_of" = some (some (.ref f22)))
    (i22 : PySem.W.isFn K (.ref f22) = true)
    (l22 : K.lookup f22 = some ⟨oc22, od22, .func (PySem.W.fnOf "state_of" "Grove.state_of" (defArgs s_Grove_state_of) (defBody s_Grove_state_of) (defScope s_Grove_state_of) .none kV22 dc22 pm22 an22 cd22 ct22), sl22⟩)
    (c22 : PySem.W.codeIn K cd22 "Grove.state_of" = true)
    (k22 : PySem.W.keepIn K (.ref f22) = true)
    (a23 : PySem.W.findIn K (.ref c_Grove) "living" = some (some (.ref f23)))
    (i23 : PySem.W.isFn K (.ref f23) = true)
    (l23 : K.lookup f23 = some ⟨oc23, od23, .func (PySem.W.fnOf "living" "Grove.living" (defArgs s_Grove_living) (defBody s_Grove_living) (defScope s_Grove_living) .none kV23 dc23 pm23 an23 cd23 ct23), sl23⟩)
    (c23 : PySem.W.codeIn K cd23 "Grove.living" = true)
    (k23 : PySem.W.keepIn K (.ref f23) = true)
    (a24 : PySem.W.findIn K (.ref c_Grove) "counted" = some (some (.ref f24)))
    (i24 : PySem.W.isFn K (.ref f24) = true)
    (l24 : K.lookup f24 = some ⟨oc24, od24, .func (PySem.W.fnOf "counted" "Grove.counted" (defArgs s_Grove_counted) (defBody s_Grove_counted) (defScope s_Grove_counted) .none kV24 dc24 pm24 an24 cd24 ct24), sl24⟩)
    (c24 : PySem.W.codeIn K cd24 "Grove.counted" = true)
    (k24 : PySem.W.keepIn K (.ref f24) = true)
    (a25 : PySem.W.findIn K (.ref c_Grove) "span" = some (some (.ref f25)))
    (i25 : PySem.W.isFn K (.ref f25) = true)
    (l25 : K.lookup f25 = some ⟨oc25, od25, .func (PySem.W.fnOf "span" "Grove.span" (defArgs s_Grove_span) (defBody s_Grove_span) (defScope s_Grove_span) .none kV25 dc25 pm25 an25 cd25 ct25), sl25⟩)
    (c25 : PySem.W.codeIn K cd25 "Grove.span" = true)
    (k25 : PySem.W.keepIn K (.ref f25) = true)
    (a26 : PySem.W.findIn K (.ref c_Grove) "boxed" = some (some (.ref f26)))
    (i26 : PySem.W.isFn K (.ref f26) = true)
    (l26 : K.lookup f26 = some ⟨oc26, od26, .func (PySem.W.fnOf "boxed" "Grove.boxed" (defArgs s_Grove_boxed) (defBody s_Grove_boxed) (defScope s_Grove_boxed) .none kV26 dc26 pm26 an26 cd26 ct26), sl26⟩)
    (c26 : PySem.W.codeIn K cd26 "Grove.boxed" = true)
    (k26 : PySem.W.keepIn K (.ref f26) = true)
    (a27 : PySem.W.findIn K (.ref c_Grove) "measured" = some (some (.ref f27)))
    (i27 : PySem.W.isFn K (.ref f27) = true)
    (l27 : K.lookup f27 = some ⟨oc27, od27, .func (PySem.W.fnOf "measured" "Grove.measured" (defArgs s_Grove_measured) (defBody s_Grove_measured) (defScope s_Grove_measured) .none kV27 dc27 pm27 an27 cd27 ct27), sl27⟩)
    (c27 : PySem.W.codeIn K cd27 "Grove.measured" = true)
    (k27 : PySem.W.keepIn K (.ref f27) = true)
    (z_any : PySem.W.nsIn K mainGlobals "any" = some none)
    (z_bool : PySem.W.nsIn K mainGlobals "bool" = some none)
    (z_enumerate : PySem.W.nsIn K mainGlobals "enumerate" = some none)
    (z_int : PySem.W.nsIn K mainGlobals "int" = some none)
    (z_isinstance : PySem.W.nsIn K mainGlobals "isinstance" = some none)
    (z_len : PySem.W.nsIn K mainGlobals "len" = some none)
    (z_list : PySem.W.nsIn K mainGlobals "list" = some none)
    (z_max : PySem.W.nsIn K mainGlobals "max" = some none)
    (z_min : PySem.W.nsIn K mainGlobals "min" = some none)
    (z_range : PySem.W.nsIn K mainGlobals "range" = some none)
    (z_str : PySem.W.nsIn K mainGlobals "str" = some none)
    (z_sum : PySem.W.nsIn K mainGlobals "sum" = some none)
    (g_STATES : PySem.W.nsIn K mainGlobals "STATES" = some (some (.int 8 t_STATES)))
    (g_TOP_LEVEL : PySem.W.nsIn K mainGlobals "TOP_LEVEL" = some (some (.int 48 t_TOP_LEVEL)))
    (z_ValueError : PySem.W.nsIn K mainGlobals "ValueError" = some none)
    (nx_FieldError : PySem.W.nsIn K mainGlobals "FieldError" = some (some (.ref x_FieldError)))
    (nx_NoNumber : PySem.W.nsIn K mainGlobals "NoNumber" = some (some (.ref x_NoNumber)))
    (nx_NoRule : PySem.W.nsIn K mainGlobals "NoRule" = some (some (.ref x_NoRule)))
    (nx_Restless : PySem.W.nsIn K mainGlobals "Restless" = some (some (.ref x_Restless)))
    (nx_NoSquare : PySem.W.nsIn K mainGlobals "NoSquare" = some (some (.ref x_NoSquare)))
    (nx_NoLevel : PySem.W.nsIn K mainGlobals "NoLevel" = some (some (.ref x_NoLevel)))
    (nx_NoState : PySem.W.nsIn K mainGlobals "NoState" = some (some (.ref x_NoState)))
    (nx_NoBox : PySem.W.nsIn K mainGlobals "NoBox" = some (some (.ref x_NoBox)))
    (nx_TooFar : PySem.W.nsIn K mainGlobals "TooFar" = some (some (.ref x_TooFar)))
    (nx_TooMany : PySem.W.nsIn K mainGlobals "TooMany" = some (some (.ref x_TooMany)))
    (nx_NoSteps : PySem.W.nsIn K mainGlobals "NoSteps" = some (some (.ref x_NoSteps)))
    (nx_NoPattern : PySem.W.nsIn K mainGlobals "NoPattern" = some (some (.ref x_NoPattern)))
    (nx_NoName : PySem.W.nsIn K mainGlobals "NoName" = some (some (.ref x_NoName)))
    (nx_NoRow : PySem.W.nsIn K mainGlobals "NoRow" = some (some (.ref x_NoRow)))
    (ec_NoSquare : ExcC K x_NoSquare)
    (ec_NoLevel : ExcC K x_NoLevel)
    (ec_NoState : ExcC K x_NoState)
    (ec_FieldError : ExcC K x_FieldError)
    (xf_NoSquare_0 : PySem.W.hasDictIn K x_NoSquare = true)
    (xf_NoSquare_1 : PySem.W.findIn K (.ref x_NoSquare) "__getattribute__" = some (some (.builtin "BaseException.__getattribute__")))
    (xf_NoSquare_2 : PySem.W.findIn K (.ref x_NoSquare) "__getattr__" = some none)
    (xf_NoSquare_3 : PySem.W.findIn K (.ref x_NoSquare) "__class__" = some (some (.builtin "object.__class__")))
    (xf_4 : PySem.W.specialIn K (.builtin "object.__class__") "__get__" = some (some (.builtin "getset_descriptor.__get__")))
    (xf_5 : PySem.W.takesIn K (.builtin "object.__class__") = some true)
    (xf_NoSquare_6 : PySem.W.mroIn K x_NoSquare (.type "object") = some true)
    (xf_NoSquare_7 : PySem.W.mroIn K x_NoSquare (.type "BaseException") = some true)
    (mr_NoSquare : PySem.W.mroIn K x_NoSquare (.ref x_FieldError) = some true)
    (kv_NoSquare : PySem.W.kitOne K (.ref x_NoSquare) (.type "ValueError") = some true)
    (ki_NoSquare_NoNumber : PySem.W.kitOne K (.ref x_NoSquare) (.ref x_NoNumber) = some false)
    (ki_NoSquare_NoRule : PySem.W.kitOne K (.ref x_NoSquare) (.ref x_NoRule) = some false)
    (ki_NoSquare_Restless : PySem.W.kitOne K (.ref x_NoSquare) (.ref x_Restless) = some false)
    (ki_NoSquare_NoSquare : PySem.W.kitOne K (.ref x_NoSquare) (.ref x_NoSquare) = some true)
    (ki_NoSquare_NoLevel : PySem.W.kitOne K (.ref x_NoSquare) (.ref x_NoLevel) = some false)
    (ki_NoSquare_NoState : PySem.W.kitOne K (.ref x_NoSquare) (.ref x_NoState) = some false)
    (ki_NoSquare_NoBox : PySem.W.kitOne K (.ref x_NoSquare) (.ref x_NoBox) = some false)
    (ki_NoSquare_TooFar : PySem.W.kitOne K (.ref x_NoSquare) (.ref x_TooFar) = some false)
    (ki_NoSquare_TooMany : PySem.W.kitOne K (.ref x_NoSquare) (.ref x_TooMany) = some false)
    (ki_NoSquare_NoSteps : PySem.W.kitOne K (.ref x_NoSquare) (.ref x_NoSteps) = some false)
    (ki_NoSquare_NoPattern : PySem.W.kitOne K (.ref x_NoSquare) (.ref x_NoPattern) = some false)
    (ki_NoSquare_NoName : PySem.W.kitOne K (.ref x_NoSquare) (.ref x_NoName) = some false)
    (ki_NoSquare_NoRow : PySem.W.kitOne K (.ref x_NoSquare) (.ref x_NoRow) = some false)
    (xf_NoLevel_0 : PySem.W.hasDictIn K x_NoLevel = true)
    (xf_NoLevel_1 : PySem.W.findIn K (.ref x_NoLevel) "__getattribute__" = some (some (.builtin "BaseException.__getattribute__")))
    (xf_NoLevel_2 : PySem.W.findIn K (.ref x_NoLevel) "__getattr__" = some none)
    (xf_NoLevel_3 : PySem.W.findIn K (.ref x_NoLevel) "__class__" = some (some (.builtin "object.__class__")))
    (xf_NoLevel_6 : PySem.W.mroIn K x_NoLevel (.type "object") = some true)
    (xf_NoLevel_7 : PySem.W.mroIn K x_NoLevel (.type "BaseException") = some true)
    (mr_NoLevel : PySem.W.mroIn K x_NoLevel (.ref x_FieldError) = some true)
    (kv_NoLevel : PySem.W.kitOne K (.ref x_NoLevel) (.type "ValueError") = some true)
    (ki_NoLevel_NoNumber : PySem.W.kitOne K (.ref x_NoLevel) (.ref x_NoNumber) = some false)
    (ki_NoLevel_NoRule : PySem.W.kitOne K (.ref x_NoLevel) (.ref x_NoRule) = some false)
    (ki_NoLevel_Restless : PySem.W.kitOne K (.ref x_NoLevel) (.ref x_Restless) = some false)
    (ki_NoLevel_NoSquare : PySem.W.kitOne K (.ref x_NoLevel) (.ref x_NoSquare) = some false)
    (ki_NoLevel_NoLevel : PySem.W.kitOne K (.ref x_NoLevel) (.ref x_NoLevel) = some true)
    (ki_NoLevel_NoState : PySem.W.kitOne K (.ref x_NoLevel) (.ref x_NoState) = some false)
    (ki_NoLevel_NoBox : PySem.W.kitOne K (.ref x_NoLevel) (.ref x_NoBox) = some false)
    (ki_NoLevel_TooFar : PySem.W.kitOne K (.ref x_NoLevel) (.ref x_TooFar) = some false)
    (ki_NoLevel_TooMany : PySem.W.kitOne K (.ref x_NoLevel) (.ref x_TooMany) = some false)
    (ki_NoLevel_NoSteps : PySem.W.kitOne K (.ref x_NoLevel) (.ref x_NoSteps) = some false)
    (ki_NoLevel_NoPattern : PySem.W.kitOne K (.ref x_NoLevel) (.ref x_NoPattern) = some false)
    (ki_NoLevel_NoName : PySem.W.kitOne K (.ref x_NoLevel) (.ref x_NoName) = some false)
    (ki_NoLevel_NoRow : PySem.W.kitOne K (.ref x_NoLevel) (.ref x_NoRow) = some false)
    (xf_NoState_0 : PySem.W.hasDictIn K x_NoState = true)
    (xf_NoState_1 : PySem.W.findIn K (.ref x_NoState) "__getattribute__" = some (some (.builtin "BaseException.__getattribute__")))
    (xf_NoState_2 : PySem.W.findIn K (.ref x_NoState) "__getattr__" = some none)
    (xf_NoState_3 : PySem.W.findIn K (.ref x_NoState) "__class__" = some (some (.builtin "object.__class__")))
    (xf_NoState_6 : PySem.W.mroIn K x_NoState (.type "object") = some true)
    (xf_NoState_7 : PySem.W.mroIn K x_NoState (.type "BaseException") = some true)
    (mr_NoState : PySem.W.mroIn K x_NoState (.ref x_FieldError) = some true)
    (kv_NoState : PySem.W.kitOne K (.ref x_NoState) (.type "ValueError") = some true)
    (ki_NoState_NoNumber : PySem.W.kitOne K (.ref x_NoState) (.ref x_NoNumber) = some false)
    (ki_NoState_NoRule : PySem.W.kitOne K (.ref x_NoState) (.ref x_NoRule) = some false)
    (ki_NoState_Restless : PySem.W.kitOne K (.ref x_NoState) (.ref x_Restless) = some false)
    (ki_NoState_NoSquare : PySem.W.kitOne K (.ref x_NoState) (.ref x_NoSquare) = some false)
    (ki_NoState_NoLevel : PySem.W.kitOne K (.ref x_NoState) (.ref x_NoLevel) = some false)
    (ki_NoState_NoState : PySem.W.kitOne K (.ref x_NoState) (.ref x_NoState) = some true)
    (ki_NoState_NoBox : PySem.W.kitOne K (.ref x_NoState) (.ref x_NoBox) = some false)
    (ki_NoState_TooFar : PySem.W.kitOne K (.ref x_NoState) (.ref x_TooFar) = some false)
    (ki_NoState_TooMany : PySem.W.kitOne K (.ref x_NoState) (.ref x_TooMany) = some false)
    (ki_NoState_NoSteps : PySem.W.kitOne K (.ref x_NoState) (.ref x_NoSteps) = some false)
    (ki_NoState_NoPattern : PySem.W.kitOne K (.ref x_NoState) (.ref x_NoPattern) = some false)
    (ki_NoState_NoName : PySem.W.kitOne K (.ref x_NoState) (.ref x_NoName) = some false)
    (ki_NoState_NoRow : PySem.W.kitOne K (.ref x_NoState) (.ref x_NoRow) = some false)
    : ∃ fd : FuncData, (∀ (s : Shared) (v : Value), BindsTo s fd ⟨[v], []⟩ [("_law_script", v)]) ∧ ∀ base : Heap, K.In base → base.Ns mainGlobals mg → Blt mg base → (∀ q ∈ ([(365, 361), (372, 368), (384, 382)] : List (Addr × Addr)), PySem.W.CodeHd base q.1 q.2) → FnOk l.prog w K mg base CX0 9 fa fd ["_law_script"] (spLawT K 361 368 382) := by
  have e := hfa.symm.trans (PySem.W.mg_of X G a12)
  cases e
  have no : ∀ {x : Str}, PySem.W.nsIn K mainGlobals x = some none → mg x = none := fun z => PySem.W.mg_none_of X G z
  have T : Top K mg (⟨c_Grove, x_FieldError, x_NoNumber, x_NoRule, x_Restless, x_NoSquare, x_NoLevel, x_NoState, x_NoBox, x_TooFar, x_TooMany, x_NoSteps, x_NoPattern, x_NoName, x_NoRow⟩ : Ad) := ⟨no z_any, no z_bool, no z_enumerate, no z_int, no z_isinstance, no z_len, no z_list, no z_max, no z_min, no z_range, no z_str, no z_sum, ⟨t_STATES, PySem.W.mg_of X G g_STATES⟩, ⟨t_TOP_LEVEL, PySem.W.mg_of X G g_TOP_LEVEL⟩, PySem.W.mg_of X G n_c_Grove, ⟨pg_Grove, hd_Grove, po_Grove, sa_Grove⟩, na_Grove_levels, na_Grove_parts, na_Grove_numbers, na_Grove_bares, na_Grove_amounts, na_Grove_boxes, no z_ValueError, PySem.W.mg_of X G nx_FieldError, PySem.W.mg_of X G nx_NoNumber, PySem.W.mg_of X G nx_NoRule, PySem.W.mg_of X G nx_Restless, PySem.W.mg_of X G nx_NoSquare, PySem.W.mg_of X G nx_NoLevel, PySem.W.mg_of X G nx_NoState, PySem.W.mg_of X G nx_NoBox, PySem.W.mg_of X G nx_TooFar, PySem.W.mg_of X G nx_TooMany, PySem.W.mg_of X G nx_NoSteps, PySem.W.mg_of X G nx_NoPattern, PySem.W.mg_of X G nx_NoName, PySem.W.mg_of X G nx_NoRow, ec_NoSquare, ec_NoLevel, ec_NoState, ec_FieldError, ⟨xf_NoSquare_0, xf_NoSquare_1, xf_NoSquare_2, xf_NoSquare_3, xf_4, xf_5, xf_NoSquare_6, xf_NoSquare_7⟩, mr_NoSquare, kv_NoSquare, ki_NoSquare_NoNumber, ki_NoSquare_NoRule, ki_NoSquare_Restless, ki_NoSquare_NoSquare, ki_NoSquare_NoLevel, ki_NoSquare_NoState, ki_NoSquare_NoBox, ki_NoSquare_TooFar, ki_NoSquare_TooMany, ki_NoSquare_NoSteps, ki_NoSquare_NoPattern, ki_NoSquare_NoName, ki_NoSquare_NoRow, ⟨xf_NoLevel_0, xf_NoLevel_1, xf_NoLevel_2, xf_NoLevel_3, xf_4, xf_5, xf_NoLevel_6, xf_NoLevel_7⟩, mr_NoLevel, kv_NoLevel, ki_NoLevel_NoNumber, ki_NoLevel_NoRule, ki_NoLevel_Restless, ki_NoLevel_NoSquare, ki_NoLevel_NoLevel, ki_NoLevel_NoState, ki_NoLevel_NoBox, ki_NoLevel_TooFar, ki_NoLevel_TooMany, ki_NoLevel_NoSteps, ki_NoLevel_NoPattern, ki_NoLevel_NoName, ki_NoLevel_NoRow, ⟨xf_NoState_0, xf_NoState_1, xf_NoState_2, xf_NoState_3, xf_4, xf_5, xf_NoState_6, xf_NoState_7⟩, mr_NoState, kv_NoState, ki_NoState_NoNumber, ki_NoState_NoRule, ki_NoState_Restless, ki_NoState_NoSquare, ki_NoState_NoLevel, ki_NoState_NoState, ki_NoState_NoBox, ki_NoState_TooFar, ki_NoState_TooMany, ki_NoState_NoSteps, ki_NoState_NoPattern, ki_NoState_NoName, ki_NoState_NoRow⟩
  have F_is_whole := fun_mk (x := "is_whole") (qual := "is_whole") (st := s_is_whole) l0 c0 k0
  have b_is_whole := F_is_whole.binds (ps := p_is_whole) fun _ _ _ _ _ _ us hl => by obtain ⟨x0, rfl⟩ := ar1 us hl; exact rfl
  have m_is_whole := PySem.W.mg_of X G a0
  have F_is_state := fun_mk (x := "is_state") (qual := "is_state") (st := s_is_state) l1 c1 k1
  have b_is_state := F_is_state.binds (ps := p_is_state) fun _ _ _ _ _ _ us hl => by obtain ⟨x0, rfl⟩ := ar1 us hl; exact rfl
  have m_is_state := PySem.W.mg_of X G a1
  have F_shifted_box := fun_mk (x := "shifted_box") (qual := "shifted_box") (st := s_shifted_box) l2 c2 k2
  have b_shifted_box := F_shifted_box.binds (ps := p_shifted_box) fun _ _ _ _ _ _ us hl => by obtain ⟨x0, x1, x2, rfl⟩ := ar3 us hl; exact rfl
  have m_shifted_box := PySem.W.mg_of X G a2
  have F_least_box := fun_mk (x := "least_box") (qual := "least_box") (st := s_least_box) l3 c3 k3
  have b_least_box := F_least_box.binds (ps := p_least_box) fun _ _ _ _ _ _ us hl => by obtain ⟨x0, rfl⟩ := ar1 us hl; exact rfl
  have m_least_box := PySem.W.mg_of X G a3
  have F__law_at := fun_mk (x := "_law_at") (qual := "_law_at") (st := s__law_at) l4 c4 k4
  have b__law_at := F__law_at.binds (ps := p__law_at) fun _ _ _ _ _ _ us hl => by obtain ⟨x0, x1, rfl⟩ := ar2 us hl; exact rfl
  have m__law_at := PySem.W.mg_of X G a4
  have F__law_bad := fun_mk (x := "_law_bad") (qual := "_law_bad") (st := s__law_bad) l5 c5 k5
  have b__law_bad := F__law_bad.binds (ps := p__law_bad) fun _ _ _ _ _ _ us hl => by obtain ⟨x0, x1, rfl⟩ := ar2 us hl; exact rfl
  have m__law_bad := PySem.W.mg_of X G a5
  have F__law_others := fun_mk (x := "_law_others") (qual := "_law_others") (st := s__law_others) l6 c6 k6
  have b__law_others := F__law_others.binds (ps := p__law_others) fun _ _ _ _ _ _ us hl => by obtain ⟨x0, rfl⟩ := ar1 us hl; exact rfl
  have m__law_others := PySem.W.mg_of X G a6
  have F__law_refused := fun_mk (x := "_law_refused") (qual := "_law_refused") (st := s__law_refused) l7 c7 k7
  have b__law_refused := F__law_refused.binds (ps := p__law_refused) fun _ _ _ _ _ _ us hl => by obtain ⟨x0, x1, rfl⟩ := ar2 us hl; exact rfl
  have m__law_refused := PySem.W.mg_of X G a7
  have F__law_ask := fun_mk (x := "_law_ask") (qual := "_law_ask") (st := s__law_ask) l8 c8 k8
  have b__law_ask := F__law_ask.binds (ps := p__law_ask) fun _ _ _ _ _ _ us hl => by obtain ⟨x0, x1, x2, rfl⟩ := ar3 us hl; exact rfl
  have m__law_ask := PySem.W.mg_of X G a8
  have F__law_numbers_refused := fun_mk (x := "_law_numbers_refused") (qual := "_law_numbers_refused") (st := s__law_numbers_refused) l9 c9 k9
  have b__law_numbers_refused := F__law_numbers_refused.binds (ps := p__law_numbers_refused) fun _ _ _ _ _ _ us hl => by obtain ⟨x0, x1, x2, x3, rfl⟩ := ar4 us hl; exact rfl
  have m__law_numbers_refused := PySem.W.mg_of X G a9
  have F__law_levels_refused := fun_mk (x := "_law_levels_refused") (qual := "_law_levels_refused") (st := s__law_levels_refused) l10 c10 k10
  have b__law_levels_refused := F__law_levels_refused.binds (ps := p__law_levels_refused) fun _ _ _ _ _ _ us hl => by obtain ⟨x0, x1, x2, x3, x4, rfl⟩ := ar5 us hl; exact rfl
  have m__law_levels_refused := PySem.W.mg_of X G a10
  have F__law_joined := fun_mk (x := "_law_joined") (qual := "_law_joined") (st := s__law_joined) l11 c11 k11
  have b__law_joined := F__law_joined.binds (ps := p__law_joined) fun _ _ _ _ _ _ us hl => by obtain ⟨x0, x1, rfl⟩ := ar2 us hl; exact rfl
  have m__law_joined := PySem.W.mg_of X G a11
  have F_law := fun_mk (x := "law") (qual := "law") (st := s_law) l12 c12 k12
  have m_law := PySem.W.mg_of X G a12
  have F_Grove_init := fun_mk (x := "__init__") (qual := "Grove.__init__") (st := s_Grove_init) l13 c13 k13
  have b_Grove_init := F_Grove_init.binds (ps := p_Grove_init) fun _ _ _ _ _ _ us hl => by obtain ⟨x0, rfl⟩ := ar1 us hl; exact rfl
  have M_Grove : Mk K c_Grove f13 := ⟨mk_Grove, a13, i13, kc_Grove⟩
  have F_Grove_kept := fun_mk (x := "kept") (qual := "Grove.kept") (st := s_Grove_kept) l14 c14 k14
  have b_Grove_kept := F_Grove_kept.binds (ps := p_Grove_kept) fun _ _ _ _ _ _ us hl => by obtain ⟨x0, x1, x2, rfl⟩ := ar3 us hl; exact rfl
  have e_Grove_kept : Meth K c_Grove "kept" f14 := ⟨a14, i14, k14⟩
  have F_Grove_linked := fun_mk (x := "linked") (qual := "Grove.linked") (st := s_Grove_linked) l15 c15 k15
  have b_Grove_linked := F_Grove_linked.binds (ps := p_Grove_linked) fun _ _ _ _ _ _ us hl => by obtain ⟨x0, x1, rfl⟩ := ar2 us hl; exact rfl
  have e_Grove_linked : Meth K c_Grove "linked" f15 := ⟨a15, i15, k15⟩
  have F_Grove_check_square := fun_mk (x := "check_square") (qual := "Grove.check_square") (st := s_Grove_check_square) l16 c16 k16
  have b_Grove_check_square := F_Grove_check_square.binds (ps := p_Grove_check_square) fun _ _ _ _ _ _ us hl => by obtain ⟨x0, x1, rfl⟩ := ar2 us hl; exact rfl
  have e_Grove_check_square : Meth K c_Grove "check_square" f16 := ⟨a16, i16, k16⟩
  have F_Grove_leaf := fun_mk (x := "leaf") (qual := "Grove.leaf") (st := s_Grove_leaf) l17 c17 k17
  have b_Grove_leaf := F_Grove_leaf.binds (ps := p_Grove_leaf) fun _ _ _ _ _ _ us hl => by obtain ⟨x0, x1, rfl⟩ := ar2 us hl; exact rfl
  have e_Grove_leaf : Meth K c_Grove "leaf" f17 := ⟨a17, i17, k17⟩
  have F_Grove_joined := fun_mk (x := "joined") (qual := "Grove.joined") (st := s_Grove_joined) l18 c18 k18
  have b_Grove_joined := F_Grove_joined.binds (ps := p_Grove_joined) fun _ _ _ _ _ _ us hl => by obtain ⟨x0, x1, x2, x3, x4, rfl⟩ := ar5 us hl; exact rfl
  have e_Grove_joined : Meth K c_Grove "joined" f18 := ⟨a18, i18, k18⟩
  have F_Grove_solid := fun_mk (x := "solid") (qual := "Grove.solid") (st := s_Grove_solid) l19 c19 k19
  have b_Grove_solid := F_Grove_solid.binds (ps := p_Grove_solid) fun _ _ _ _ _ _ us hl => by obtain ⟨x0, x1, x2, rfl⟩ := ar3 us hl; exact rfl
  have e_Grove_solid : Meth K c_Grove "solid" f19 := ⟨a19, i19, k19⟩
  have F_Grove_level_of := fun_mk (x := "level_of") (qual := "Grove.level_of") (st := s_Grove_level_of) l20 c20 k20
  have b_Grove_level_of := F_Grove_level_of.binds (ps := p_Grove_level_of) fun _ _ _ _ _ _ us hl => by obtain ⟨x0, x1, rfl⟩ := ar2 us hl; exact rfl
  have e_Grove_level_of : Meth K c_Grove "level_of" f20 := ⟨a20, i20, k20⟩
  have F_Grove_quarters := fun_mk (x := "quarters") (qual := "Grove.quarters") (st := s_Grove_quarters) l21 c21 k21
  have b_Grove_quarters := F_Grove_quarters.binds (ps := p_Grove_quarters) fun _ _ _ _ _ _ us hl => by obtain ⟨x0, x1, rfl⟩ := ar2 us hl; exact rfl
  have e_Grove_quarters : Meth K c_Grove "quarters" f21 := ⟨a21, i21, k21⟩
  have F_Grove_state_of := fun_mk (x := "state_of") (qual := "Grove.state_of") (st := s_Grove_state_of) l22 c22 k22
  have b_Grove_state_of := F_Grove_state_of.binds (ps := p_Grove_state_of) fun _ _ _ _ _ _ us hl => by obtain ⟨x0, x1, rfl⟩ := ar2 us hl; exact rfl
  have e_Grove_state_of : Meth K c_Grove "state_of" f22 := ⟨a22, i22, k22⟩
  have F_Grove_living := fun_mk (x := "living") (qual := "Grove.living") (st := s_Grove_living) l23 c23 k23
  have b_Grove_living := F_Grove_living.binds (ps := p_Grove_living) fun _ _ _ _ _ _ us hl => by obtain ⟨x0, x1, rfl⟩ := ar2 us hl; exact rfl
  have e_Grove_living : Meth K c_Grove "living" f23 := ⟨a23, i23, k23⟩
  have F_Grove_counted := fun_mk (x := "counted") (qual := "Grove.counted") (st := s_Grove_counted) l24 c24 k24
  have b_Grove_counted := F_Grove_counted.binds (ps := p_Grove_counted) fun _ _ _ _ _ _ us hl => by obtain ⟨x0, x1, rfl⟩ := ar2 us hl; exact rfl
  have e_Grove_counted : Meth K c_Grove "counted" f24 := ⟨a24, i24, k24⟩
  have F_Grove_span := fun_mk (x := "span") (qual := "Grove.span") (st := s_Grove_span) l25 c25 k25
  have b_Grove_span := F_Grove_span.binds (ps := p_Grove_span) fun _ _ _ _ _ _ us hl => by obtain ⟨x0, x1, rfl⟩ := ar2 us hl; exact rfl
  have e_Grove_span : Meth K c_Grove "span" f25 := ⟨a25, i25, k25⟩
  have F_Grove_boxed := fun_mk (x := "boxed") (qual := "Grove.boxed") (st := s_Grove_boxed) l26 c26 k26
  have b_Grove_boxed := F_Grove_boxed.binds (ps := p_Grove_boxed) fun _ _ _ _ _ _ us hl => by obtain ⟨x0, x1, rfl⟩ := ar2 us hl; exact rfl
  have e_Grove_boxed : Meth K c_Grove "boxed" f26 := ⟨a26, i26, k26⟩
  have F_Grove_measured := fun_mk (x := "measured") (qual := "Grove.measured") (st := s_Grove_measured) l27 c27 k27
  have b_Grove_measured := F_Grove_measured.binds (ps := p_Grove_measured) fun _ _ _ _ _ _ us hl => by obtain ⟨x0, x1, rfl⟩ := ar2 us hl; exact rfl
  have e_Grove_measured : Meth K c_Grove "measured" f27 := ⟨a27, i27, k27⟩
  refine ⟨PySem.W.fnOf "law" "law" (defArgs s_law) (defBody s_law) (defScope s_law) .none kV12 dc12 pm12 an12 cd12 ct12, fun s v => .of_eq rfl, fun base _ _ hB hCs => ?_⟩
  have hC__law_numbers_refused : PySem.W.CodeHd base 365 361 := hCs _ (.head _)
  have hC__law_levels_refused : PySem.W.CodeHd base 372 368 := hCs _ (.tail _ (.head _))
  have hC_law : PySem.W.CodeHd base 384 382 := hCs _ (.tail _ (.tail _ (.head _)))
  have C_is_whole : Cal l.prog w K mg base CX0 1 "is_whole" p_is_whole spIW := ⟨_, _, ok_iw F_is_whole T, m_is_whole, F_is_whole.kp, b_is_whole⟩
  have C_is_state : Cal l.prog w K mg base CX0 2 "is_state" p_is_state spIS := ⟨_, _, ok_is F_is_state T C_is_whole, m_is_state, F_is_state.kp, b_is_state⟩
  have M_Grove_kept : CalM l.prog w K mg base CX0 1 c_Grove "kept" p_Grove_kept (spKept _) := ⟨⟨_, _, ok_kept F_Grove_kept T, e_Grove_kept, b_Grove_kept⟩, T.cl_Grove⟩
  have C_Grove : CalC l.prog w K mg base CX0 2 "Grove" c_Grove p_Grove_init (spGInit _) := ⟨_, _, ok_ginit F_Grove_init T M_Grove_kept, M_Grove, T.m_Grove, b_Grove_init⟩
  have M_Grove_linked : CalM l.prog w K mg base CX0 2 c_Grove "linked" p_Grove_linked (spLink _) := ⟨⟨_, _, ok_link F_Grove_linked T M_Grove_kept, e_Grove_linked, b_Grove_linked⟩, T.cl_Grove⟩
  have M_Grove_check_square : CalM l.prog w K mg base CX0 2 c_Grove "check_square" p_Grove_check_square (spChk _) := ⟨⟨_, _, ok_chk F_Grove_check_square T C_is_whole, e_Grove_check_square, b_Grove_check_square⟩, T.cl_Grove⟩
  have M_Grove_leaf : CalM l.prog w K mg base CX0 3 c_Grove "leaf" p_Grove_leaf (spLeaf _) := ⟨⟨_, _, ok_leaf F_Grove_leaf T C_is_state, e_Grove_leaf, b_Grove_leaf⟩, T.cl_Grove⟩
  have M_Grove_level_of : CalM l.prog w K mg base CX0 3 c_Grove "level_of" p_Grove_level_of (spLev _) := ⟨⟨_, _, ok_lev F_Grove_level_of T M_Grove_check_square, e_Grove_level_of, b_Grove_level_of⟩, T.cl_Grove⟩
  have M_Grove_quarters : CalM l.prog w K mg base CX0 4 c_Grove "quarters" p_Grove_quarters (spQua _) := ⟨⟨_, _, ok_qua F_Grove_quarters T M_Grove_level_of, e_Grove_quarters, b_Grove_quarters⟩, T.cl_Grove⟩
  have M_Grove_joined : CalM l.prog w K mg base CX0 4 c_Grove "joined" p_Grove_joined (spJoin _) := ⟨⟨_, _, ok_join F_Grove_joined T M_Grove_check_square M_Grove_linked, e_Grove_joined, b_Grove_joined⟩, T.cl_Grove⟩
  have M_Grove_solid : CalM l.prog w K mg base CX0 4 c_Grove "solid" p_Grove_solid (spSolid _) := ⟨⟨_, _, ok_solid F_Grove_solid T C_is_whole M_Grove_leaf M_Grove_linked, e_Grove_solid, b_Grove_solid⟩, T.cl_Grove⟩
  have C_is_whole : Cal l.prog w K mg base CX0 1 "is_whole" p_is_whole spIWo := ⟨_, _, ok_iwo F_is_whole T, m_is_whole, F_is_whole.kp, b_is_whole⟩
  have C_is_state : Cal l.prog w K mg base CX0 2 "is_state" p_is_state spISo := ⟨_, _, ok_iso F_is_state T C_is_whole, m_is_state, F_is_state.kp, b_is_state⟩
  have N_Grove_linked : CalM l.prog w K mg base CX0 2 c_Grove "linked" p_Grove_linked spNo := ⟨⟨_, _, ok_no, e_Grove_linked, b_Grove_linked⟩, T.cl_Grove⟩
  have N_Grove_counted : CalM l.prog w K mg base CX0 2 c_Grove "counted" p_Grove_counted spNo := ⟨⟨_, _, ok_no, e_Grove_counted, b_Grove_counted⟩, T.cl_Grove⟩
  have N_Grove_boxed : CalM l.prog w K mg base CX0 2 c_Grove "boxed" p_Grove_boxed spNo := ⟨⟨_, _, ok_no, e_Grove_boxed, b_Grove_boxed⟩, T.cl_Grove⟩
  have E_Grove_check_square : CalM l.prog w K mg base (CXE l.prog w) 2 c_Grove "check_square" p_Grove_check_square (spChX _) := ⟨⟨_, _, ok_chx F_Grove_check_square T C_is_whole, e_Grove_check_square, b_Grove_check_square⟩, T.cl_Grove⟩
  have E_Grove_level_of : CalM l.prog w K mg base (CXE l.prog w) 3 c_Grove "level_of" p_Grove_level_of (spLvX _) := ⟨⟨_, _, ok_lvx F_Grove_level_of T E_Grove_check_square, e_Grove_level_of, b_Grove_level_of⟩, T.cl_Grove⟩
  have E_Grove_quarters : CalM l.prog w K mg base (CXE l.prog w) 4 c_Grove "quarters" p_Grove_quarters (spQuX _) := ⟨⟨_, _, ok_qux F_Grove_quarters T E_Grove_level_of, e_Grove_quarters, b_Grove_quarters⟩, T.cl_Grove⟩
  have E_Grove_state_of : CalM l.prog w K mg base (CXE l.prog w) 4 c_Grove "state_of" p_Grove_state_of (spStX _) := ⟨⟨_, _, ok_stx F_Grove_state_of T E_Grove_level_of, e_Grove_state_of, b_Grove_state_of⟩, T.cl_Grove⟩
  have E_Grove_living : CalM l.prog w K mg base (CXE l.prog w) 3 c_Grove "living" p_Grove_living (spLiX _) := ⟨⟨_, _, ok_lix F_Grove_living T E_Grove_check_square N_Grove_counted, e_Grove_living, b_Grove_living⟩, T.cl_Grove⟩
  have E_Grove_span : CalM l.prog w K mg base (CXE l.prog w) 3 c_Grove "span" p_Grove_span (spLiX _) := ⟨⟨_, _, ok_spx F_Grove_span T E_Grove_check_square N_Grove_boxed, e_Grove_span, b_Grove_span⟩, T.cl_Grove⟩
  have E_Grove_leaf : CalM l.prog w K mg base (CXE l.prog w) 3 c_Grove "leaf" p_Grove_leaf (spLeX _) := ⟨⟨_, _, ok_lex F_Grove_leaf T C_is_state, e_Grove_leaf, b_Grove_leaf⟩, T.cl_Grove⟩
  have E_Grove_solid : CalM l.prog w K mg base (CXE l.prog w) 4 c_Grove "solid" p_Grove_solid (spSoX _) := ⟨⟨_, _, ok_sox F_Grove_solid T C_is_whole E_Grove_leaf N_Grove_linked, e_Grove_solid, b_Grove_solid⟩, T.cl_Grove⟩
  have E_Grove_joined : CalM l.prog w K mg base (CXE l.prog w) 4 c_Grove "joined" p_Grove_joined (spJoX _) := ⟨⟨_, _, ok_jox F_Grove_joined T E_Grove_check_square N_Grove_linked, e_Grove_joined, b_Grove_joined⟩, T.cl_Grove⟩
  have C__law_at : Cal l.prog w K mg base CX0 1 "_law_at" p__law_at (spAt K) := ⟨_, _, ok_at F__law_at T, m__law_at, F__law_at.kp, b__law_at⟩
  have C__law_bad : Cal l.prog w K mg base CX0 1 "_law_bad" p__law_bad spBad := ⟨_, _, ok_bad F__law_bad T, m__law_bad, F__law_bad.kp, b__law_bad⟩
  have H__law_others : CalH l.prog w K mg base 1 "_law_others" p__law_others (spOth K _) := ⟨_, _, ok_oth F__law_others T, m__law_others, F__law_others.kp, b__law_others⟩
  have R__law_refused : CalT l.prog w K mg base 7 "_law_refused" p__law_refused (spRef l.prog w K mg base _ 6) := ⟨_, _, ok_ref F__law_refused T (by decide) H__law_others, m__law_refused, F__law_refused.kp, b__law_refused⟩
  have C__law_ask : Cal l.prog w K mg base (CXE l.prog w) 5 "_law_ask" p__law_ask (spAsk K _) := ⟨_, _, ok_ask F__law_ask T E_Grove_level_of E_Grove_quarters E_Grove_state_of E_Grove_living E_Grove_span, m__law_ask, F__law_ask.kp, b__law_ask⟩
  have C__law_numbers_refused : Cal l.prog w K mg base CX0 8 "_law_numbers_refused" p__law_numbers_refused (spNr _ 361) := ⟨_, _, ok_nr F__law_numbers_refused T cq__law_numbers_refused hC__law_numbers_refused hB R__law_refused C__law_ask E_Grove_joined, m__law_numbers_refused, F__law_numbers_refused.kp, b__law_numbers_refused⟩
  have C__law_levels_refused : Cal l.prog w K mg base CX0 8 "_law_levels_refused" p__law_levels_refused (spLr _ 368) := ⟨_, _, ok_lr F__law_levels_refused T cq__law_levels_refused hC__law_levels_refused hB R__law_refused C__law_ask E_Grove_joined E_Grove_solid E_Grove_state_of M_Grove_leaf M_Grove_solid, m__law_levels_refused, F__law_levels_refused.kp, b__law_levels_refused⟩
  have C__law_joined : Cal l.prog w K mg base CX0 5 "_law_joined" p__law_joined (spLj _) := ⟨_, _, ok_lj F__law_joined T M_Grove_joined M_Grove_quarters, m__law_joined, F__law_joined.kp, b__law_joined⟩
  exact ok_law F_law T cq_law hC_law hB (by decide) (by decide) (by decide) C__law_at C_Grove M_Grove_leaf M_Grove_solid M_Grove_level_of R__law_refused E_Grove_leaf E_Grove_solid C__law_bad C__law_numbers_refused C__law_levels_refused C__law_joined
theorem walk {l : PySem.W.OpenLaw} {q : Program} {loose : List Str} {XP : (Str → Option Value) → Heap → Prop} {YP : World → Heap → Prop} {d : DefRec} {K : Params → PySem.W.Frag} (hn : l.most = some 63) (hdf : d.params.defaults = [])
    (hY : ∀ (w : World) (h : Heap), YP w h → (K w.params).In h) (hT : ∀ (w : World) (h : Heap), YP w h → PySem.W.TabsAt [(365, 361), (372, 368), (384, 382)] h) (hnt : ∀ w : World, PySem.W.noTabs (K w.params) = true)
    (F : ∀ (w : World) (mg : Str → Option Value) (fa : Addr) (h : Heap), (K w.params).In h → h.Ns mainGlobals mg → mg d.name = some (.ref fa) →
      ∃ fd : FuncData, (∀ (s : Shared) (u : Value), BindsTo s fd ⟨[u], []⟩ [("_law_script", u)]) ∧ ∀ base : Heap, (K w.params).In base → base.Ns mainGlobals mg → Blt mg base → (∀ q ∈ ([(365, 361), (372, 368), (384, 382)] : List (Addr × Addr)), PySem.W.CodeHd base q.1 q.2) → FnOk l.prog w (K w.params) mg base CX0 9 fa fd ["_law_script"] (spLawT (K w.params) 361 368 382)) :
    PySem.W.WalkO q loose XP YP l.row.toRowW d [] (fun f vs => PySem.call f vs) :=
  L2.walk_ofT (n := 63) (k := 9) (x := "_law_script") (tabs := [(365, 361), (372, 368), (384, 382)]) (CX := fun _ => CX0) (sp := fun w => spLawT (K w.params) 361 368 382) hn (by decide) hdf ⟨rfl, by decide, by decide⟩ hY hT hnt F (fun _ H a ns hl hO hS => ⟨a, ns, rfl, hS, hl, fun q => ⟨#[], hO.2 _ (.head _), trivial⟩, fun q => ⟨#[], hO.2 _ (.tail _ (.head _)), trivial⟩, fun q => ⟨#[], hO.2 _ (.tail _ (.tail _ (.head _))), trivial⟩, fun _ => rfl⟩) fun _ _ _ _ _ z => z
end J
theorem PySem.W.Fast.tw8343452013894826029 : True := True.intro
theorem PySem.W.Fast.tw12238020163038436114 : True := True.intro
theorem PySem.W.Fast.tw13040726432703313272 : True := True.intro
theorem PySem.W.Fast.tw8118837856100966294 : True := True.intro
theorem PySem.W.Fast.tw13838592067252178479 : True := True.intro
theorem PySem.W.Fast.tw16990305698518402967 : True := True.intro
theorem PySem.W.Fast.tw2323797865125395388 : True := True.intro
theorem PySem.W.Fast.tw2391592649063261280 : True := True.intro
theorem PySem.W.Fast.tw15118236548019814749 : True := True.intro
theorem PySem.W.Fast.tw4880470884857033643 : True := True.intro
theorem PySem.W.Fast.tw8710062067670862208 : True := True.intro
theorem PySem.W.Fast.tw9718824279778261011 : True := True.intro
theorem PySem.W.Fast.tw9146333855929283746 : True := True.intro
theorem PySem.W.Fast.tw8708368469207775288 : True := True.intro
theorem PySem.W.Fast.tw5776885149047680329 : True := True.intro
theorem PySem.W.Fast.tw14475606949228971368 : True := True.intro
theorem PySem.W.Fast.tw18129977688620610972 : True := True.intro
theorem PySem.W.Fast.tw6784889677471694956 : True := True.intro
theorem PySem.W.Fast.tw13442890237002423391 : True := True.intro
theorem PySem.W.Fast.tw5855835103977941996 : True := True.intro
theorem PySem.W.Fast.tw7097339623232320846 : True := True.intro
theorem PySem.W.Fast.tw11189885377752522286 : True := True.intro
theorem PySem.W.Fast.tw15855378323369915240 : True := True.intro
theorem PySem.W.Fast.tw16033159878496914662 : True := True.intro
theorem PySem.W.Fast.tw7535772516588583471 : True := True.intro
theorem PySem.W.Fast.tw3193747155825886337 : True := True.intro
theorem PySem.W.Fast.tw10230047419171321478 : True := True.intro
theorem PySem.W.Fast.tw10101582208541702202 : True := True.intro
theorem PySem.W.Fast.tw10062519531400046353 : True := True.intro
theorem PySem.W.Fast.tw7372042637692350534 : True := True.intro
theorem PySem.W.Fast.tw10523431792775187643 : True := True.intro
theorem PySem.W.Fast.tw892577864423688374 : True := True.intro
theorem PySem.W.Fast.tw13562462821949840467 : True := True.intro
theorem PySem.W.Fast.tw126010424277858840 : True := True.intro
theorem PySem.W.Fast.tw18438691651513446119 : True := True.intro
theorem PySem.W.Fast.tw7039066245064907078 : True := True.intro
theorem PySem.W.Fast.tw14993495871327637552 : True := True.intro
theorem PySem.W.Fast.tw14104341824601279656 : True := True.intro
theorem PySem.W.Fast.tw17882819202375039055 : True := True.intro
theorem PySem.W.Fast.tw11188563977930993316 : True := True.intro
theorem PySem.W.Fast.tw12905357704411633011 : True := True.intro
theorem PySem.W.Fast.tw8734680366145079586 : True := True.intro
theorem PySem.W.Fast.tw5450900427013921371 : True := True.intro
theorem PySem.W.Fast.tw14496957382456037398 : True := True.intro
theorem PySem.W.Fast.tw8913798825657864769 : True := True.intro
theorem PySem.W.Fast.tw15631358599108532017 : True := True.intro
theorem PySem.W.Fast.tw7924512285004349046 : True := True.intro
theorem PySem.W.Fast.tw17188024648324080887 : True := True.intro
theorem PySem.W.Fast.tw12371801872624720818 : True := True.intro
theorem PySem.W.Fast.tw1381454460638977001 : True := True.intro
theorem PySem.W.Fast.tw1978820235594951370 : True := True.intro
theorem PySem.W.Fast.tw4539133776134587209 : True := True.intro
theorem PySem.W.Fast.tw11460885338650891131 : True := True.intro
theorem PySem.W.Fast.tw6617659336260910907 : True := True.intro
theorem PySem.W.Fast.tw2144580443150791196 : True := True.intro
theorem PySem.W.Fast.tw7509582428588308690 : True := True.intro
theorem PySem.W.Fast.tw15165459306919059039 : True := True.intro
theorem PySem.W.Fast.tw1221932886622873330 : True := True.intro
theorem PySem.W.Fast.tw7161543770508798629 : True := True.intro
theorem PySem.W.Fast.tw10747836495838330112 : True := True.intro
theorem PySem.W.Fast.tw16639113368456820974 : True := True.intro
theorem PySem.W.Fast.tw12086391581681585885 : True := True.intro
theorem PySem.W.Fast.tw6767738713641604697 : True := True.intro
theorem PySem.W.Fast.tw15126027359192811680 : True := True.intro
theorem PySem.W.Fast.tw12550196103312584643 : True := True.intro
theorem PySem.W.Fast.tw938677179241902159 : True := True.intro
open PySem PySem.W PyProof.Rows
set_option maxRecDepth 100000 in
set_option maxHeartbeats 0 in
theorem PySem.Challenge.cw_jumpfield_k14_refused_squares_holds : PySem.Challenge.rw_jumpfield_k14_refused_squares.Holds := by
  w_on; o_law; k_head; (case hw => w_witness2)
  k_fill
  refine J.walk (l := PySem.Challenge.rw_jumpfield_k14_refused_squares) rfl rfl (fun w h Y => PySem.W.km_in_of Y) (fun w h Y => ?jTab) (fun w => ?jNo) ?F
  case jTab => exact List.forall_mem_cons.mpr ⟨⟨PySem.W.codeHd_of_K (c := 365) (P := 361) (PySem.W.km_in_of Y) (by kernel_rfl), PySem.W.km_tabs_of Y 361 (by simp)⟩, List.forall_mem_cons.mpr ⟨⟨PySem.W.codeHd_of_K (c := 372) (P := 368) (PySem.W.km_in_of Y) (by kernel_rfl), PySem.W.km_tabs_of Y 368 (by simp)⟩, List.forall_mem_cons.mpr ⟨⟨PySem.W.codeHd_of_K (c := 384) (P := 382) (PySem.W.km_in_of Y) (by kernel_rfl), PySem.W.km_tabs_of Y 382 (by simp)⟩, fun _ h => nomatch h⟩⟩⟩
  case jNo => kernel_rfl
  case F =>
    intro w mg fa h KX G hmg
    refine' J.fin KX G hmg ?n_c_Grove ?pg_Grove ?hd_Grove ?po_Grove ?sa_Grove ?mk_Grove ?kc_Grove ?na_Grove_levels ?na_Grove_parts ?na_Grove_numbers ?na_Grove_bares ?na_Grove_amounts ?na_Grove_boxes ?a0 ?l0 ?c0 ?k0 ?a1 ?l1 ?c1 ?k1 ?a2 ?l2 ?c2 ?k2 ?a3 ?l3 ?c3 ?k3 ?a4 ?l4 ?c4 ?k4 ?a5 ?l5 ?c5 ?k5 ?a6 ?l6 ?c6 ?k6 ?a7 ?l7 ?c7 ?k7 ?a8 ?l8 ?c8 ?k8 ?a9 ?l9 ?cq__law_numbers_refused ?c9 ?k9 ?a10 ?l10 ?cq__law_levels_refused ?c10 ?k10 ?a11 ?l11 ?c11 ?k11 ?a12 ?l12 ?cq_law ?c12 ?k12 ?a13 ?i13 ?l13 ?c13 ?k13 ?a14 ?i14 ?l14 ?c14 ?k14 ?a15 ?i15 ?l15 ?c15 ?k15 ?a16 ?i16 ?l16 ?c16 ?k16 ?a17 ?i17 ?l17 ?c17 ?k17 ?a18 ?i18 ?l18 ?c18 ?k18 ?a19 ?i19 ?l19 ?c19 ?k19 ?a20 ?i20 ?l20 ?c20 ?k20 ?a21 ?i21 ?l21 ?c21 ?k21 ?a22 ?i22 ?l22 ?c22 ?k22 ?a23 ?i23 ?l23 ?c23 ?k23 ?a24 ?i24 ?l24 ?c24 ?k24 ?a25 ?i25 ?l25 ?c25 ?k25 ?a26 ?i26 ?l26 ?c26 ?k26 ?a27 ?i27 ?l27 ?c27 ?k27 ?z_any ?z_bool ?z_enumerate ?z_int ?z_isinstance ?z_len ?z_list ?z_max ?z_min ?z_range ?z_str ?z_sum ?g_STATES ?g_TOP_LEVEL ?z_ValueError ?nx_FieldError ?nx_NoNumber ?nx_NoRule ?nx_Restless ?nx_NoSquare ?nx_NoLevel ?nx_NoState ?nx_NoBox ?nx_TooFar ?nx_TooMany ?nx_NoSteps ?nx_NoPattern ?nx_NoName ?nx_NoRow ?ec_NoSquare ?ec_NoLevel ?ec_NoState ?ec_FieldError ?xf_NoSquare_0 ?xf_NoSquare_1 ?xf_NoSquare_2 ?xf_NoSquare_3 ?xf_4 ?xf_5 ?xf_NoSquare_6 ?xf_NoSquare_7 ?mr_NoSquare ?kv_NoSquare ?ki_NoSquare_NoNumber ?ki_NoSquare_NoRule ?ki_NoSquare_Restless ?ki_NoSquare_NoSquare ?ki_NoSquare_NoLevel ?ki_NoSquare_NoState ?ki_NoSquare_NoBox ?ki_NoSquare_TooFar ?ki_NoSquare_TooMany ?ki_NoSquare_NoSteps ?ki_NoSquare_NoPattern ?ki_NoSquare_NoName ?ki_NoSquare_NoRow ?xf_NoLevel_0 ?xf_NoLevel_1 ?xf_NoLevel_2 ?xf_NoLevel_3 ?xf_NoLevel_6 ?xf_NoLevel_7 ?mr_NoLevel ?kv_NoLevel ?ki_NoLevel_NoNumber ?ki_NoLevel_NoRule ?ki_NoLevel_Restless ?ki_NoLevel_NoSquare ?ki_NoLevel_NoLevel ?ki_NoLevel_NoState ?ki_NoLevel_NoBox ?ki_NoLevel_TooFar ?ki_NoLevel_TooMany ?ki_NoLevel_NoSteps ?ki_NoLevel_NoPattern ?ki_NoLevel_NoName ?ki_NoLevel_NoRow ?xf_NoState_0 ?xf_NoState_1 ?xf_NoState_2 ?xf_NoState_3 ?xf_NoState_6 ?xf_NoState_7 ?mr_NoState ?kv_NoState ?ki_NoState_NoNumber ?ki_NoState_NoRule ?ki_NoState_Restless ?ki_NoState_NoSquare ?ki_NoState_NoLevel ?ki_NoState_NoState ?ki_NoState_NoBox ?ki_NoState_TooFar ?ki_NoState_TooMany ?ki_NoState_NoSteps ?ki_NoState_NoPattern ?ki_NoState_NoName ?ki_NoState_NoRow
    (case n_c_Grove => k_is)
    (case pg_Grove => k_is)
    (case hd_Grove => k_is)
    (case po_Grove => k_is)
    (case sa_Grove => k_is)
    (case mk_Grove => k_is)
    (case kc_Grove => k_is)
    (case na_Grove_levels => k_is)
    (case na_Grove_parts => k_is)
    (case na_Grove_numbers => k_is)
    (case na_Grove_bares => k_is)
    (case na_Grove_amounts => k_is)
    (case na_Grove_boxes => k_is)
    (case a0 => k_is)
    (case l0 => k_is)
    (case c0 => k_is)
    (case k0 => k_is)
    (case a1 => k_is)
    (case l1 => k_is)
    (case c1 => k_is)
    (case k1 => k_is)
    (case a2 => k_is)
    (case l2 => k_is)
    (case c2 => k_is)
    (case k2 => k_is)
    (case a3 => k_is)
    (case l3 => k_is)
    (case c3 => k_is)
    (case k3 => k_is)
    (case a4 => k_is)
    (case l4 => k_is)
    (case c4 => k_is)
    (case k4 => k_is)
    (case a5 => k_is)
    (case l5 => k_is)
    (case c5 => k_is)
    (case k5 => k_is)
    (case a6 => k_is)
    (case l6 => k_is)
    (case c6 => k_is)
    (case k6 => k_is)
    (case a7 => k_is)
    (case l7 => k_is)
    (case c7 => k_is)
    (case k7 => k_is)
    (case a8 => k_is)
    (case l8 => k_is)
    (case c8 => k_is)
    (case k8 => k_is)
    (case a9 => k_is)
    (case l9 => k_is)
    (case cq__law_numbers_refused => exact rfl)
    (case c9 => k_is)
    (case k9 => k_is)
    (case a10 => k_is)
    (case l10 => k_is)
    (case cq__law_levels_refused => exact rfl)
    (case c10 => k_is)
    (case k10 => k_is)
    (case a11 => k_is)
    (case l11 => k_is)
    (case c11 => k_is)
    (case k11 => k_is)
    (case a12 => k_is)
    (case l12 => k_is)
    (case cq_law => exact rfl)
    (case c12 => k_is)
    (case k12 => k_is)
    (case a13 => k_is)
    (case i13 => k_is)
    (case l13 => k_is)
    (case c13 => k_is)
    (case k13 => k_is)
    (case a14 => k_is)
    (case i14 => k_is)
    (case l14 => k_is)
    (case c14 => k_is)
    (case k14 => k_is)
    (case a15 => k_is)
    (case i15 => k_is)
    (case l15 => k_is)
    (case c15 => k_is)
    (case k15 => k_is)
    (case a16 => k_is)
    (case i16 => k_is)
    (case l16 => k_is)
    (case c16 => k_is)
    (case k16 => k_is)
    (case a17 => k_is)
    (case i17 => k_is)
    (case l17 => k_is)
    (case c17 => k_is)
    (case k17 => k_is)
    (case a18 => k_is)
    (case i18 => k_is)
    (case l18 => k_is)
    (case c18 => k_is)
    (case k18 => k_is)
    (case a19 => k_is)
    (case i19 => k_is)
    (case l19 => k_is)
    (case c19 => k_is)
    (case k19 => k_is)
    (case a20 => k_is)
    (case i20 => k_is)
    (case l20 => k_is)
    (case c20 => k_is)
    (case k20 => k_is)
    (case a21 => k_is)
    (case i21 => k_is)
    (case l21 => k_is)
    (case c21 => k_is)
    (case k21 => k_is)
    (case a22 => k_is)
    (case i22 => k_is)
    (case l22 => k_is)
    (case c22 => k_is)
    (case k22 => k_is)
    (case a23 => k_is)
    (case i23 => k_is)
    (case l23 => k_is)
    (case c23 => k_is)
    (case k23 => k_is)
    (case a24 => k_is)
    (case i24 => k_is)
    (case l24 => k_is)
    (case c24 => k_is)
    (case k24 => k_is)
    (case a25 => k_is)
    (case i25 => k_is)
    (case l25 => k_is)
    (case c25 => k_is)
    (case k25 => k_is)
    (case a26 => k_is)
    (case i26 => k_is)
    (case l26 => k_is)
    (case c26 => k_is)
    (case k26 => k_is)
    (case a27 => k_is)
    (case i27 => k_is)
    (case l27 => k_is)
    (case c27 => k_is)
    (case k27 => k_is)
    (case z_any => k_is)
    (case z_bool => k_is)
    (case z_enumerate => k_is)
    (case z_int => k_is)
    (case z_isinstance => k_is)
    (case z_len => k_is)
    (case z_list => k_is)
    (case z_max => k_is)
    (case z_min => k_is)
    (case z_range => k_is)
    (case z_str => k_is)
    (case z_sum => k_is)
    (case g_STATES => k_is)
    (case g_TOP_LEVEL => k_is)
    (case z_ValueError => k_is)
    (case nx_FieldError => k_is)
    (case nx_NoNumber => k_is)
    (case nx_NoRule => k_is)
    (case nx_Restless => k_is)
    (case nx_NoSquare => k_is)
    (case nx_NoLevel => k_is)
    (case nx_NoState => k_is)
    (case nx_NoBox => k_is)
    (case nx_TooFar => k_is)
    (case nx_TooMany => k_is)
    (case nx_NoSteps => k_is)
    (case nx_NoPattern => k_is)
    (case nx_NoName => k_is)
    (case nx_NoRow => k_is)
    (case ec_NoSquare => (show PySem.W.excIn _ _ _ _ = true; k_exc))
    (case ec_NoLevel => (show PySem.W.excIn _ _ _ _ = true; k_exc))
    (case ec_NoState => (show PySem.W.excIn _ _ _ _ = true; k_exc))
    (case ec_FieldError => (show PySem.W.excIn _ _ _ _ = true; k_exc))
    (case xf_NoSquare_0 => k_is)
    (case xf_NoSquare_1 => k_is)
    (case xf_NoSquare_2 => k_is)
    (case xf_NoSquare_3 => k_is)
    (case xf_4 => k_is)
    (case xf_5 => k_is)
    (case xf_NoSquare_6 => k_is)
    (case xf_NoSquare_7 => k_is)
    (case mr_NoSquare => k_is)
    (case kv_NoSquare => kit_is)
    (case ki_NoSquare_NoNumber => kit_is)
    (case ki_NoSquare_NoRule => kit_is)
    (case ki_NoSquare_Restless => kit_is)
    (case ki_NoSquare_NoSquare => kit_is)
    (case ki_NoSquare_NoLevel => kit_is)
    (case ki_NoSquare_NoState => kit_is)
    (case ki_NoSquare_NoBox => kit_is)
    (case ki_NoSquare_TooFar => kit_is)
    (case ki_NoSquare_TooMany => kit_is)
    (case ki_NoSquare_NoSteps => kit_is)
    (case ki_NoSquare_NoPattern => kit_is)
    (case ki_NoSquare_NoName => kit_is)
    (case ki_NoSquare_NoRow => kit_is)
    (case xf_NoLevel_0 => k_is)
    (case xf_NoLevel_1 => k_is)
    (case xf_NoLevel_2 => k_is)
    (case xf_NoLevel_3 => k_is)
    (case xf_NoLevel_6 => k_is)
    (case xf_NoLevel_7 => k_is)
    (case mr_NoLevel => k_is)
    (case kv_NoLevel => kit_is)
    (case ki_NoLevel_NoNumber => kit_is)
    (case ki_NoLevel_NoRule => kit_is)
    (case ki_NoLevel_Restless => kit_is)
    (case ki_NoLevel_NoSquare => kit_is)
    (case ki_NoLevel_NoLevel => kit_is)
    (case ki_NoLevel_NoState => kit_is)
    (case ki_NoLevel_NoBox => kit_is)
    (case ki_NoLevel_TooFar => kit_is)
    (case ki_NoLevel_TooMany => kit_is)
    (case ki_NoLevel_NoSteps => kit_is)
    (case ki_NoLevel_NoPattern => kit_is)
    (case ki_NoLevel_NoName => kit_is)
    (case ki_NoLevel_NoRow => kit_is)
    (case xf_NoState_0 => k_is)
    (case xf_NoState_1 => k_is)
    (case xf_NoState_2 => k_is)
    (case xf_NoState_3 => k_is)
    (case xf_NoState_6 => k_is)
    (case xf_NoState_7 => k_is)
    (case mr_NoState => k_is)
    (case kv_NoState => kit_is)
    (case ki_NoState_NoNumber => kit_is)
    (case ki_NoState_NoRule => kit_is)
    (case ki_NoState_Restless => kit_is)
    (case ki_NoState_NoSquare => kit_is)
    (case ki_NoState_NoLevel => kit_is)
    (case ki_NoState_NoState => kit_is)
    (case ki_NoState_NoBox => kit_is)
    (case ki_NoState_TooFar => kit_is)
    (case ki_NoState_TooMany => kit_is)
    (case ki_NoState_NoSteps => kit_is)
    (case ki_NoState_NoPattern => kit_is)
    (case ki_NoState_NoName => kit_is)
    (case ki_NoState_NoRow => kit_is)

set_option maxHeartbeats 200000
