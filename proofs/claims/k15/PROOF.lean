import PyProof.Rows.All
import Wide.All
import OpenK.AllK
import Wide.FinOn
import Lean
import PyProof.EqAt
import PyProof.EqKinds
import PyProof.TupleCall
import PyProof.Rows.CatFin
import PyProof.StrLawsIn
import KE.IntTextLaws
import KE.IntTextText
import PyProof.SumAny
import PyProof.SeqI3
import PyProof.WalkInts
import PyProof.NeKinds
import KE.KDictLaws
import PyProof.DictIter
import PyProof.DictWalks
import PyProof.Rows.DictUnroll
import KE.KDictList
import PySem.Challenge.RW_jumpfield_k15_whole_alike_parts_are_one
set_option Elab.async false
set_option linter.all false
set_option maxRecDepth 100000
/-! THE HAND LAYER, for ints, bools, texts, own classes, LISTS and tuples (index, slices, in, append, pop ..), calls, loops. Paste it whole ahead of your own text; what your proof does not reach may be deleted. -/
namespace L2
open PySem PySem.Spec PyProof.Rows

/-- a key: an int or a str -/
abbrev Key := Sum Int Str
def keyIs : Key → Value → Bool
  | .inl k, v => Value.isInt k v
  | .inr x, v => Value.isStrOf x v
def keyH (w : World) : Key → Int
  | .inl k => hashInt k
  | .inr x => hashStr w x
theorem keyIs_shape : ∀ {k : Key} {v : Value}, keyIs k v = true → (∃ i t, k = Sum.inl i ∧ v = Value.int i t) ∨ (∃ x t, k = Sum.inr x ∧ v = Value.str x t)
  | .inl i, v, h => by
    obtain ⟨t, e⟩ := Value.isInt_shape (k := i) (v := v) h
    exact .inl ⟨i, t, rfl, e⟩
  | .inr x, v, h => by
    obtain ⟨t, e⟩ := Value.isStrOf_shape (x := x) (v := v) h
    exact .inr ⟨x, t, rfl, e⟩
theorem keyIs_int (i : Int) (t : Tok) : keyIs (.inl i) (.int i t) = true := by simp [keyIs, Value.isInt]
theorem keyIs_str (x : Str) (t : Tok) : keyIs (.inr x) (.str x t) = true := by simp [keyIs, Value.isStrOf]
theorem key_ll (a b : Int) : decide ((Sum.inl a : Key) = Sum.inl b) = (a == b) := by
  by_cases e : a = b
  · subst e; simp
  · have h : ¬ (Sum.inl a : Key) = Sum.inl b := fun q => e (Sum.inl.inj q)
    rw [decide_eq_false h]
    exact (beq_eq_false_iff_ne.mpr e).symm
theorem key_rr (a b : Str) : decide ((Sum.inr a : Key) = Sum.inr b) = decide (a = b) := by
  by_cases e : a = b
  · subst e; simp
  · have h : ¬ (Sum.inr a : Key) = Sum.inr b := fun q => e (Sum.inr.inj q)
    rw [decide_eq_false h, decide_eq_false e]
theorem key_lr (a : Int) (b : Str) : decide ((Sum.inl a : Key) = Sum.inr b) = false := decide_eq_false (fun q => nomatch q)
theorem key_rl (a : Str) (b : Int) : decide ((Sum.inr a : Key) = Sum.inl b) = false := decide_eq_false (fun q => nomatch q)

def mixKind (prog : Program) (w : World) : PySem.KeyKind prog w Key where
  is := keyIs
  hash := keyH w
  inj := fun v a b ha hb => by
    rcases keyIs_shape ha with ⟨i, t, rfl, rfl⟩ | ⟨x, t, rfl, rfl⟩
    · rcases keyIs_shape hb with ⟨j, u, rfl, e⟩ | ⟨y, u, rfl, e⟩
      · injection e with e1 _; rw [e1]
      · exact nomatch e
    · rcases keyIs_shape hb with ⟨j, u, rfl, e⟩ | ⟨y, u, rfl, e⟩
      · exact nomatch e
      · injection e with e1 _; rw [e1]
  byValue := fun k v h => by
    rcases keyIs_shape h with ⟨i, t, rfl, rfl⟩ | ⟨x, t, rfl, rfl⟩ <;> rfl
  pyHash := fun hv h => by
    rcases keyIs_shape hv with ⟨i, t, rfl, rfl⟩ | ⟨x, t, rfl, rfl⟩
    · exact wpAny_pyHash_int h
    · exact wpAny_pyHash_str h
  eqBool := fun hu hv h => by
    rcases keyIs_shape hu with ⟨i, t, rfl, rfl⟩ | ⟨x, t, rfl, rfl⟩
    · rcases keyIs_shape hv with ⟨j, u, rfl, rfl⟩ | ⟨y, u, rfl, rfl⟩
      · rw [key_ll] at h; exact wpAny_eqBool_int h
      · rw [key_lr] at h; exact SeqAt.EqAt.int_str i t y u _ _ _ _ h
    · rcases keyIs_shape hv with ⟨j, u, rfl, rfl⟩ | ⟨y, u, rfl, rfl⟩
      · rw [key_rl] at h; exact SeqAt.EqAt.str_int x t j u _ _ _ _ h
      · rw [key_rr] at h; exact wpAny_eqBool_str h
  «strs» := fun k x t v h => by
    rcases keyIs_shape h with ⟨i, u, rfl, e⟩ | ⟨y, u, rfl, e⟩
    · exact nomatch e
    · injection e with e1 _
      subst e1
      cases v <;> rfl

theorem mixKind_int (prog : Program) (w : World) (i : Int) (t : Tok) : (mixKind prog w).is (.inl i) (.int i t) = true := keyIs_int i t
theorem mixKind_str (prog : Program) (w : World) (x : Str) (t : Tok) : (mixKind prog w).is (.inr x) (.str x t) = true := keyIs_str x t
end L2

namespace L2
open PySem PySem.Spec PyProof.Rows

/-- a value, without the heap -/
inductive V where
  | non | bl (b : Bool) | int (i : Int) | str (x : Str) | byt (b : Array UInt8) | flt (b : UInt64) | ref (a : Addr) | ty (n : String)
  deriving DecidableEq

def RelV : V → Value → Prop
  | .non, u => u = Value.none
  | .bl b, u => u = Value.bool b
  | .int i, u => ∃ t, u = Value.int i t
  | .str x, u => ∃ t, u = Value.str x t
  | .byt b, u => ∃ t, u = Value.bytes b t
  | .flt b, u => ∃ t, u = Value.float b t
  | .ref a, u => u = Value.ref a
  | .ty n, u => u = Value.type n

abbrev Vals : List V → List Value → Prop := Paired RelV
theorem Vals.length {xs : List V} {us : List Value} (r : Vals xs us) : xs.length = us.length := Paired.length r
theorem Vals.get : ∀ {xs : List V} {us : List Value} {i : Nat} {x : V}, Vals xs us → xs[i]? = some x → ∃ u, us[i]? = some u ∧ RelV x u
  | _, _, _, _, .nil, e => by simp at e
  | _, _, 0, _, .cons r _, e => by simp at e; subst e; exact ⟨_, rfl, r⟩
  | _, _, i + 1, x, .cons _ t, e => by
    obtain ⟨u, h1, h2⟩ := Vals.get (i := i) (x := x) t (by simpa using e)
    exact ⟨u, by simpa using h1, h2⟩
theorem Vals.append : ∀ {xs ys : List V} {us ws : List Value}, Vals xs us → Vals ys ws → Vals (xs ++ ys) (us ++ ws)
  | _, _, _, _, .nil, s => s
  | _, _, _, _, .cons r t, s => .cons r (Vals.append t s)
theorem Vals.take : ∀ {xs : List V} {us : List Value} (n : Nat), Vals xs us → Vals (xs.take n) (us.take n)
  | _, _, 0, _ => .nil
  | _, _, _ + 1, .nil => .nil
  | _, _, n + 1, .cons r t => .cons r (Vals.take n t)
theorem Vals.drop : ∀ {xs : List V} {us : List Value} (n : Nat), Vals xs us → Vals (xs.drop n) (us.drop n)
  | _, _, 0, r => r
  | _, _, _ + 1, .nil => .nil
  | _, _, n + 1, .cons _ t => Vals.drop n t
theorem Vals.none_of : ∀ {xs : List V} {us : List Value} {i : Nat}, Vals xs us → xs[i]? = none → us[i]? = none := fun {xs us i} r e => by
  have h1 := r.length
  have h2 : xs.length ≤ i := List.getElem?_eq_none_iff.mp e
  exact List.getElem?_eq_none_iff.mpr (by lia)

def RelO : Option V → Option Value → Prop
  | some v, some u => RelV v u
  | none, none => True
  | _, _ => False
def KV {κ : Type} : List (κ × V) → List (κ × Value) → Prop := Paired fun (p : κ × V) (q : κ × Value) => p.1 = q.1 ∧ RelV p.2 q.2

/-- a key of a dict (00_mix): an int or a text -/
def kV : Key → V
  | .inl i => .int i
  | .inr x => .str x

/-- what stands at a tracked address -/
inductive HO where
  /-- a list -/
  | lst (xs : List V)
  /-- a tuple (never changes) -/
  | tup (xs : List V)
  /-- a dict whose keys are ints and texts; one whose keys are tuples of ints and texts (the empty one is both) -/
  | dK (kvs : List (Key × V)) | dT (kvs : List (List Key × V))
  /-- a set of ints: its members, its size -/
  | set (S : Int → Bool) (n : Nat)
  /-- an instance of the class at C, its dict at dx, its attributes -/
  | ins (C dx : Addr) (fs : List (Str × V))
  /-- the dict of the instance at x -/
  | own (x : Addr)
  /-- the dict of an exception -/
  | xd (fs : List (Str × V))
  /-- a bound method, f of x -/
  | met (f x : Addr)
  /-- a range object lo, lo + 1, .. below hi -/
  | rng (lo hi : Int)
  /-- a thing that is known to the object (the script; a dict while a loop walks it): read, never written while it is so -/
  | frz (o : Obj) (u : HO)
  /-- a code object's table -/
  | tbl (ps : Array Value)
  /-- any other thing, by what is true of its one object (a def of one's own: SetO a S n := HO.ext fun h => ..) -/
  | ext (φ : Heap → Prop)

abbrev Hp := Addr → Option HO
def upd (H : Hp) (a : Addr) (o : HO) : Hp := fun b => if b = a then some o else H b
theorem upd_same {H : Hp} {a : Addr} {o : HO} : upd H a o a = some o := by unfold upd; rw [if_pos rfl]
theorem upd_ne {H : Hp} {a b : Addr} {o : HO} (h : b ≠ a) : upd H a o b = H b := by unfold upd; rw [if_neg h]
/-- two objects of different content stand apart -/
theorem ne_of {H : Hp} {a b : Addr} {o u : HO} (h : H a = some o) (h' : H b = some u) (d : o ≠ u) : a ≠ b := by
  intro e; subst e; rw [h] at h'; exact d (Option.some.inj h')
theorem ne_of_none {H : Hp} {a b : Addr} {o : HO} (h : H a = some o) (h' : H b = none) : a ≠ b := by
  intro e; subst e; rw [h] at h'; cases h'

section
variable (P : Program) (w : World)
def ObjOk (H : Hp) (h : Heap) (a : Addr) : HO → Prop
  | .lst xs => xs.length ≤ sizeLine ∧ ∃ (its : List Value) (n : Nat), Vals xs its ∧ h.get? a = some { cls := .type "list", data := .seq its.toArray n }
  | .tup xs => xs.length ≤ sizeLine ∧ ∃ its : List Value, Vals xs its ∧ IsTup h a its.toArray
  | .dK kvs => kvs.length ≤ sizeLine ∧ (a == sysModules) = false ∧ ∃ vs, KV kvs vs ∧ h.DictOf (mixKind P w) a vs
  | .dT kvs => kvs.length ≤ sizeLine ∧ (a == sysModules) = false ∧ ∃ xs : List (List Key × Addr × Value),
      Paired (fun (p : List Key × V) (q : List Key × Addr × Value) => p.1 = q.1 ∧ H q.2.1 = some (.tup (p.1.map kV)) ∧ RelV p.2 q.2.2) kvs xs ∧
      ∃ o es ep, h.get? a = some o ∧ o.ExactDict ∧ o.data = .dict es ep ∧ es.toList = xs.map (entryOfKey (tupleKind (mixKind P w))) ∧ (xs.map (·.1)).Nodup
  | .set S n => h.SetOf (intKind P w) a S n
  | .ins C dx fs => H dx = some (.own a) ∧ fs.length ≤ 1000 ∧ dx ≠ a ∧ h.get? a = some (PySem.W.instObj C dx) ∧
      ∃ mA, h.Ns1 dx mA ∧ (∀ f, RelO (fs.lookup f) (mA f)) ∧ PySem.Within mA (fs.map (·.1))
  | .own _ => ∃ o, h.get? a = some o
  | .xd fs => ∃ mA, h.Ns1 a mA ∧ ∀ f, RelO (fs.lookup f) (mA f)
  | .rng lo hi => ∃ t u v, h.get? a = some { cls := .type "range", data := .fields #[.int lo t, .int hi u, .int 1 v] }
  | .frz o u => h.get? a = some o ∧ ObjOk H h a u
  | .tbl ps => h.get? a = some { cls := .none, data := .fields ps }
  | .met f x => h.get? a = some (PySem.W.methodObj (.ref f) (.ref x))
  | .ext φ => φ h ∧ (∃ o, h.get? a = some o) ∧ ∀ h1 h2 : Heap, φ h1 → (∀ o, h1.get? a = some o → h2.get? a = some o) → φ h2
/-- the abstract heap is held -/
def HOk (H : Hp) (h : Heap) : Prop := ∀ a o, H a = some o → ObjOk P w H h a o
end

section
variable {P : Program} {w : World} {H H' : Hp} {h h' : Heap} {a : Addr} {o : HO}
theorem ObjOk.lt (x : ObjOk P w H h a o) : a < h.objs.size := by
  cases o with
  | lst xs => obtain ⟨_, _, _, _, e⟩ := x; exact Heap.lt_size e
  | tup xs => obtain ⟨_, _, _, p⟩ := x; exact p.lt
  | dK kvs => obtain ⟨_, _, _, _, o, _, _, e, _⟩ := x; exact Heap.lt_size e
  | dT kvs => obtain ⟨_, _, _, _, o, _, _, e, _⟩ := x; exact Heap.lt_size e
  | set S n => obtain ⟨o, _, _, _, e, _⟩ := x; exact Heap.lt_size e
  | ins C dx fs => obtain ⟨_, _, _, e, _⟩ := x; exact Heap.lt_size e
  | own y => obtain ⟨_, e⟩ := x; exact Heap.lt_size e
  | xd fs => obtain ⟨_, ⟨_, _, _, e, _⟩, _⟩ := x; exact Heap.lt_size e
  | rng lo hi => obtain ⟨_, _, _, e⟩ := x; exact Heap.lt_size e
  | frz ob u => obtain ⟨e, _⟩ := x; exact Heap.lt_size e
  | tbl ps => exact Heap.lt_size (show h.get? a = some _ from x)
  | met f y => exact Heap.lt_size (show h.get? a = some _ from x)
  | ext φ => obtain ⟨_, ⟨_, e⟩, _⟩ := x; exact Heap.lt_size e
theorem Paired.mapP {α β : Type} {F G : α → β → Prop} : ∀ {l₁ : List α} {l₂ : List β}, Paired F l₁ l₂ → (∀ a b, F a b → G a b) → Paired G l₁ l₂
  | _, _, .nil, _ => .nil
  | _, _, .cons r t, f => .cons (f _ _ r) (Paired.mapP t f)
/-- what an object's description leans on: its own object, its own dict, the tuples -/
theorem ObjOk.stay (x : ObjOk P w H h a o) (k : ∀ b u, (b = a ∨ H b = some (.own a)) → h.get? b = some u → h'.get? b = some u)
    (ho : ∀ b, H b = some (.own a) → H' b = some (.own a)) (ht : ∀ b xs, H b = some (.tup xs) → H' b = some (.tup xs)) : ObjOk P w H' h' a o := by
  induction o with
  | lst xs => obtain ⟨z, its, n, r, e⟩ := x; exact ⟨z, its, n, r, k _ _ (.inl rfl) e⟩
  | tup xs => obtain ⟨z, its, r, ob, e, c⟩ := x; exact ⟨z, its, r, ob, k _ _ (.inl rfl) e, c⟩
  | dK kvs => obtain ⟨z, y, vs, r, ob, es, ep, e, c⟩ := x; exact ⟨z, y, vs, r, ob, es, ep, k _ _ (.inl rfl) e, c⟩
  | dT kvs =>
    obtain ⟨z, y, xs, r, ob, es, ep, e, c⟩ := x
    exact ⟨z, y, xs, Paired.mapP r fun p q z => ⟨z.1, ht _ _ z.2.1, z.2.2⟩, ob, es, ep, k _ _ (.inl rfl) e, c⟩
  | set S n => obtain ⟨ob, es, ep, t, e, c⟩ := x; exact ⟨ob, es, ep, t, k _ _ (.inl rfl) e, c⟩
  | ins C dx fs =>
    obtain ⟨d, z, ne, e, mA, ⟨od, es, ep, e2, c⟩, r⟩ := x
    exact ⟨ho _ d, z, ne, k _ _ (.inl rfl) e, mA, ⟨od, es, ep, k _ _ (.inr d) e2, c⟩, r⟩
  | own y => obtain ⟨ob, e⟩ := x; exact ⟨ob, k _ _ (.inl rfl) e⟩
  | xd fs => obtain ⟨mA, ⟨od, es, ep, e, c⟩, r⟩ := x; exact ⟨mA, ⟨od, es, ep, k _ _ (.inl rfl) e, c⟩, r⟩
  | rng lo hi => obtain ⟨t, u, v, e⟩ := x; exact ⟨t, u, v, k _ _ (.inl rfl) e⟩
  | frz ob u ih => obtain ⟨e, q⟩ := x; exact ⟨k _ _ (.inl rfl) e, ih q⟩
  | tbl ps =>
    have e : h.get? a = some { cls := .none, data := .fields ps } := x
    show h'.get? a = some { cls := .none, data := .fields ps }
    exact k a _ (.inl rfl) e
  | met f y =>
    have e : h.get? a = some (PySem.W.methodObj (.ref f) (.ref y)) := x
    show h'.get? a = some (PySem.W.methodObj (.ref f) (.ref y))
    exact k a _ (.inl rfl) e
  | ext φ => obtain ⟨p, ⟨o, e⟩, st⟩ := x; exact ⟨st _ _ p fun o q => k _ _ (.inl rfl) q, ⟨o, k _ _ (.inl rfl) e⟩, st⟩
theorem HOk.lt (x : HOk P w H h) (e : H a = some o) : a < h.objs.size := (x a o e).lt
theorem HOk.fresh (x : HOk P w H h) (e : h.objs.size ≤ a) : H a = none := by
  cases q : H a with
  | none => rfl
  | some u => exact absurd (Nat.lt_of_lt_of_le (x.lt q) e) (Nat.lt_irrefl _)
/-- every object of the heap is kept -/
theorem HOk.kept (x : HOk P w H h) (k : ∀ b u, h.get? b = some u → h'.get? b = some u) : HOk P w H h' := fun a o e =>
  (x a o e).stay (fun b u _ q => k b u q) (fun _ q => q) fun _ _ q => q
/-- a new object is laid and tracked -/
theorem HOk.laid (x : HOk P w H h) (k : ∀ b u, h.get? b = some u → h'.get? b = some u) (hp : h.objs.size ≤ a) (new : ObjOk P w (upd H a o) h' a o) : HOk P w (upd H a o) h' := fun b u e => by
  have hn := x.fresh hp
  by_cases hb : b = a
  · subst hb; rw [upd_same] at e; cases e; exact new
  · rw [upd_ne hb] at e
    exact (x b u e).stay (fun c v _ q => k c v q) (fun c q => by rw [upd_ne (ne_of_none q hn)]; exact q) fun c xs q => by rw [upd_ne (ne_of_none q hn)]; exact q
end

/-- what may be read as u: it is u, or a known u -/
def Rd (H : Hp) (a : Addr) (u : HO) : Prop := H a = some u ∨ ∃ o, H a = some (.frz o u)
theorem Rd.ok {P : Program} {w : World} {H : Hp} {h : Heap} {a : Addr} {u : HO} (r : Rd H a u) (x : HOk P w H h) : ObjOk P w H h a u := by
  rcases r with r | ⟨o, r⟩
  · exact x a u r
  · obtain ⟨_, q⟩ := x a _ r
    exact q
/-- what may be written -/
def Mut : Option HO → Prop
  | some (.lst _) => True
  | some (.dK _) => True
  | some (.dT _) => True
  | some (.set _ _) => True
  | some (.ins _ _ _) => True
  | some (.ext _) => True
  | _ => False
section
variable {P : Program} {w : World} {H : Hp} {h h' : Heap} {x e : Addr} {o' : HO}
/-- the object at e is changed: x itself, or the dict of the instance x -/
theorem HOk.write (ok : HOk P w H h) (mu : Mut (H x)) (he : e = x ∨ H e = some (.own x)) (k : ∀ b u, b ≠ e → h.get? b = some u → h'.get? b = some u) (heo : ∃ u, h'.get? e = some u)
    (new : ObjOk P w (upd H x o') h' x o') : HOk P w (upd H x o') h' := fun b u q => by
  have nown : ∀ c y, H c = some (.own y) → c ≠ x := fun c y r z => by subst z; rw [r] at mu; exact mu
  have ntup : ∀ c xs, H c = some (.tup xs) → c ≠ x := fun c xs r z => by subst z; rw [r] at mu; exact mu
  by_cases hb : b = x
  · subst hb; rw [upd_same] at q; cases q; exact new
  · rw [upd_ne hb] at q
    by_cases hbe : b = e
    · have q' : H b = some (.own x) := by
        rcases he with z | z
        · exact absurd (hbe.trans z) hb
        · rw [hbe]; exact z
      rw [q] at q'; cases q'
      obtain ⟨v, hv⟩ := heo
      exact ⟨v, by rw [hbe]; exact hv⟩
    · refine (ok b u q).stay (fun c v hc r => k c v ?_ r) (fun c r => by rw [upd_ne (nown c b r)]; exact r) fun c xs r => by rw [upd_ne (ntup c xs r)]; exact r
      rcases hc with rfl | hc
      · exact hbe
      · rintro rfl
        rcases he with z | z
        · exact nown c b hc z
        · rw [hc] at z; cases z; exact hb rfl
end

/-! ### kept unless tracked; of the frames at fs (the callers') the slots may change (an exception that passes writes there); of the records at ex (iterators) nothing is said -/
structure Un (fs ex : List Addr) (H H' : Hp) (h h' : Heap) : Prop where
  keep : ∀ b o, h.get? b = some o → H b = none → b ∉ fs → b ∉ ex → h'.get? b = some o
  slot : ∀ b o, h.get? b = some o → H b = none → b ∈ fs → b ∉ ex → ∃ sl, h'.get? b = some { o with slots := sl }
  free : ∀ b o, h.get? b = some o → H b = none → b ∉ ex → H' b = none
  there : ∀ b o, h.get? b = some o → b ∉ ex → ∃ o', h'.get? b = some o'
  tups : ∀ b xs, H b = some (.tup xs) → H' b = some (.tup xs)
  frzs : ∀ b o u, H b = some (.frz o u) → H' b = some (.frz o u)
  tbls : ∀ b ps, H b = some (.tbl ps) → ∃ more, H' b = some (.tbl (ps ++ more))
section
variable {fs fs' ex ex' : List Addr} {H H1 H2 : Hp} {h h1 h2 h' : Heap} {a x e : Addr} {o : HO}
theorem Un.any (u : Un fs ex H H1 h h1) {b : Addr} {ob : Obj} (q : h.get? b = some ob) (n : H b = none) (hx : b ∉ ex) : ∃ sl, h1.get? b = some { ob with slots := sl } := by
  by_cases hb : b ∈ fs
  · exact u.slot b ob q n hb hx
  · exact ⟨ob.slots, u.keep b ob q n hb hx⟩
theorem Un.kept (k : ∀ b u, h.get? b = some u → h'.get? b = some u) : Un fs ex H H h h' :=
  ⟨fun b ob q _ _ _ => k b ob q, fun b ob q _ _ _ => ⟨ob.slots, k b ob q⟩, fun _ _ _ n _ => n, fun b ob q _ => ⟨ob, k b ob q⟩, fun _ _ q => q, fun _ _ _ q => q, fun _ ps q => ⟨#[], by rw [q]; simp⟩⟩
theorem Un.refl : Un fs ex H H h h := Un.kept fun _ _ q => q
theorem Un.laid (k : ∀ b u, h.get? b = some u → h'.get? b = some u) (hp : h.objs.size ≤ a) (hn : H a = none) : Un fs ex H (upd H a o) h h' where
  keep := fun b u q _ _ _ => k b u q
  slot := fun b u q _ _ _ => ⟨u.slots, k b u q⟩
  free := fun b u q n _ => by rw [upd_ne (Nat.ne_of_lt (Nat.lt_of_lt_of_le (Heap.lt_size q) hp))]; exact n
  there := fun b u q _ => ⟨u, k b u q⟩
  tups := fun b xs q => by rw [upd_ne (ne_of_none q hn)]; exact q
  frzs := fun b u xs q => by rw [upd_ne (ne_of_none q hn)]; exact q
  tbls := fun b ps q => ⟨#[], by rw [upd_ne (ne_of_none q hn), q]; simp⟩
theorem Un.write (mu : Mut (H x)) (he : e = x ∨ H e = some (.own x)) (k : ∀ b u, b ≠ e → h.get? b = some u → h'.get? b = some u) (heo : ∃ u, h'.get? e = some u) : Un fs ex H (upd H x o) h h' := by
  have hx : ∀ b, H b = none → b ≠ x := fun b n z => by subst z; rw [n] at mu; exact mu
  have hb : ∀ b, H b = none → b ≠ e := fun b n z => by
    subst z
    rcases he with r | r
    · exact hx b n r
    · rw [n] at r; cases r
  have hm : ∀ b u, H b = some u → ¬ Mut (some u) → b ≠ x := fun b u q nm z => by subst z; rw [q] at mu; exact nm mu
  refine ⟨fun b u q n _ _ => k b u (hb b n) q, fun b u q n _ _ => ⟨u.slots, k b u (hb b n) q⟩, fun b u q n _ => by rw [upd_ne (hx b n)]; exact n, fun b u q _ => ?_,
    fun b xs q => by rw [upd_ne (hm b _ q fun z => z)]; exact q, fun b u xs q => by rw [upd_ne (hm b _ q fun z => z)]; exact q, fun b ps q => ⟨#[], by rw [upd_ne (hm b _ q fun z => z), q]; simp⟩⟩
  by_cases hbe : b = e
  · subst hbe; exact heo
  · exact ⟨u, k b u hbe q⟩
end

/-! ### the heap without what is tracked -/
def trk (h : Heap) (H : Hp) : List Addr := (List.range h.objs.size).filter fun a => (H a).isSome
def hidT (h : Heap) (H : Hp) : Heap := PySem.W.hideAll h (trk h H)
theorem hidT_size (h : Heap) (H : Hp) : (hidT h H).objs.size = h.objs.size := PySem.W.hideAll_size _ _
theorem hidT_get {h : Heap} {H : Hp} {b : Addr} {o : Obj} (e : h.get? b = some o) (n : H b = none) : (hidT h H).get? b = some o :=
  PySem.W.hideAll_get _ e fun hm => by
    have q : (H b).isSome = true := (List.mem_filter.mp hm).2
    rw [n] at q; simp at q
theorem of_hidT {h : Heap} {H : Hp} {b : Addr} {o : Obj} (e : (hidT h H).get? b = some o) : h.get? b = some o ∧ H b = none := by
  have e' : h.get? b = some o := PySem.W.of_hideAll (trk h H) e
  refine ⟨e', ?_⟩
  cases q : H b with
  | none => rfl
  | some x =>
    have hm : b ∈ trk h H := List.mem_filter.mpr ⟨List.mem_range.mpr (Heap.lt_size e'), by simp [q]⟩
    have z : (hidT h H).get? b = none := PySem.W.hideAll_none (trk h H) hm
    rw [z] at e; cases e

/-! ### OpenK's ledger, filled with every new object but one -/
end L2

namespace L2
open PySem PySem.Spec PyProof.Rows

/-- the module's facts, over the base: the heap at the law's entry without what is tracked there -/
structure Mod (K : PySem.W.Frag) (mg : Str → Option Value) (base : Heap) : Prop where
  kin : K.In base
  glob : base.Ns mainGlobals mg
  blt : ∃ mb, base.Ns builtinsNs mb ∧ ∀ x : Str, x ≠ "__name__" → mb x = bootBuiltins x
  nolimit : base.NoLimit

/-- the context: a def's body (or a comprehension's block) running. base: fixed through the whole law; s₀, H₀: the entry; outer: the frames whose slots others may change (a def's callers); stack: all frames that run;
   ex: iterators that were made ahead of the entry and are walked here (a comprehension's); fn: the names whose cells were made at the entry (a def: all; a comprehension's block: its own); calm: not within an except suite; pn: pins that every state bears; xe: what is wanted of an exception that leaves the code -/
structure Cx where
  prog : Program
  w : World
  K : PySem.W.Frag
  mg : Str → Option Value
  base : Heap
  A : Around
  N : List Str
  s₀ : Shared
  H₀ : Hp
  env : Env
  outer : List Env
  stack : List Env
  ex : List Addr
  fn : Str → Bool
  calm : Bool
  pn : List (Addr × Obj)
  xe : Value → Shared → Prop
/-- the callers' frames -/
def frs (l : List Env) : List Addr := l.filterMap (·.frame)
abbrev Cx.fs (X : Cx) : List Addr := frs X.outer

def Vis (sc : Scope) (x : Str) : Prop := sc.names.lookup x = some .local ∨ sc.names.lookup x = some .cell ∨ sc.names.lookup x = some .free
def Loc (sc : Scope) (x : Str) : Prop := sc.names.lookup x = some .local ∨ sc.names.lookup x = some .cell
def Look (env : Env) (h : Heap) (m : Str → Option Value) (x : Str) (u : Value) : Prop :=
  (env.kindOf x = some .local ∧ m x = some u) ∨ ((env.kindOf x = some .cell ∨ env.kindOf x = some .free) ∧ ∃ c, env.cells.lookup x = some c ∧ h.IsCell c (some u))

structure Cx.Ok (X : Cx) : Prop where
  mod : Mod X.K X.mg X.base
  kind : X.env.scope.kind = .function
  glob : X.env.globals = mainGlobals
  blt : X.env.builtins = builtinsNs
  above : X.s₀.heap.objs.size ≤ X.env.locals
  inj : ∀ x y c, X.env.cells.lookup x = some c → X.env.cells.lookup y = some c → x = y
  has : ∀ x, (X.env.kindOf x = some .cell ∨ X.env.kindOf x = some .free) → ∃ c, X.env.cells.lookup x = some c
  cab : ∀ x c, X.fn x = true → X.env.cells.lookup x = some c → X.s₀.heap.objs.size ≤ c
  hd : X.calm = true → X.A.handled = none
  frames : X.A.frames = some X.stack
  stk : X.stack = X.outer ∨ (X.stack = X.env :: X.outer ∧ X.env.frame = some X.env.locals)
  exf : ∀ b ∈ X.ex, b ≠ X.env.locals ∧ ∀ x c, X.env.cells.lookup x = some c → c ≠ b
  bs : ∀ b o, X.base.get? b = some o → X.s₀.heap.get? b = some o ∧ X.H₀ b = none
  bsz : X.base.objs.size ≤ X.s₀.heap.objs.size
  noex : ∀ b o, X.base.get? b = some o → b ∉ X.ex
  exfs : ∀ b ∈ X.ex, b ∉ X.fs
  funs : X.s₀.heap.FunFrames X.base X.outer
  frf : ∀ b ∈ X.fs, X.H₀ b = none

structure Inv (X : Cx) (pins : List (Addr × Obj)) (σ : List (Option V)) (H : Hp) (s : Shared) : Prop where
  ok : X.Ok
  os : s.os = X.s₀.os
  bare : AllBare s.gens
  base : Un X.fs X.ex X.H₀ H X.s₀.heap s.heap
  loc : ∃ m, s.heap.Ns X.env.locals m ∧ ∀ (i : Nat) (x : Str) (v : V), X.N[i]? = some x → σ[i]? = some (some v) → Vis X.env.scope x → ∃ u, RelV v u ∧ Look X.env s.heap m x u
  cell : ∀ x c, X.env.cells.lookup x = some c → ∃ v, s.heap.IsCell c v
  free : H X.env.locals = none
  freeC : ∀ x c, X.env.cells.lookup x = some c → H c = none
  pin : ∀ p ∈ X.pn ++ pins, s.heap.get? p.1 = some p.2 ∧ H p.1 = none ∧ p.1 ≠ X.env.locals ∧ p.1 ∉ X.fs ∧ ∀ v, p.2.data ≠ .cell v
  hok : HOk X.prog X.w H s.heap
  len : σ.length = X.N.length

section
variable {X : Cx} {pins : List (Addr × Obj)} {σ : List (Option V)} {H H' : Hp} {s : Shared} {h' : Heap}

theorem Cx.Ok.nofr (ok : X.Ok) {b : Addr} {o : Obj} (e : X.base.get? b = some o) : b ∉ X.fs := fun hb => by
  have := (ok.funs.mem hb).1
  rw [e] at this; cases this
theorem Inv.bs (I : Inv X pins σ H s) : ∀ b o, X.base.get? b = some o → s.heap.get? b = some o ∧ H b = none := fun b o e =>
  ⟨I.base.keep b o (I.ok.bs b o e).1 (I.ok.bs b o e).2 (I.ok.nofr e) (I.ok.noex b o e), I.base.free b o (I.ok.bs b o e).1 (I.ok.bs b o e).2 (I.ok.noex b o e)⟩
theorem Inv.bk (I : Inv X pins σ H s) : ∀ b o, X.base.get? b = some o → s.heap.get? b = some o := fun b o e => (I.bs b o e).1
theorem Inv.mod (I : Inv X pins σ H s) : Mod X.K X.mg X.base := I.ok.mod
theorem Inv.kIn (I : Inv X pins σ H s) : X.K.In s.heap := I.ok.mod.kin.keeps I.bk
theorem Inv.lt (I : Inv X pins σ H s) : X.env.locals < s.heap.objs.size := let ⟨_, hn, _⟩ := I.loc; hn.lt
theorem Inv.sz (I : Inv X pins σ H s) : X.s₀.heap.objs.size ≤ s.heap.objs.size := Nat.le_trans I.ok.above (Nat.le_of_lt I.lt)
theorem Inv.nofs (I : Inv X pins σ H s) {a : Addr} (h : s.heap.objs.size ≤ a) : a ∉ X.fs := fun hb => by
  obtain ⟨_, o, ho, _⟩ := I.ok.funs.mem hb
  exact absurd (Nat.lt_of_lt_of_le (Heap.lt_size ho) (Nat.le_trans I.sz h)) (Nat.lt_irrefl _)
theorem Inv.cne (I : Inv X pins σ H s) : ∀ x c, X.env.cells.lookup x = some c → c ≠ X.env.locals := fun x c e z => by
  obtain ⟨v, o, ho, hd⟩ := I.cell x c e
  obtain ⟨m, ⟨o', es, ep, ho', hd', _⟩, _⟩ := I.loc
  rw [z, ho'] at ho; cases ho; rw [hd'] at hd; cases hd
theorem Inv.funs (I : Inv X pins σ H s) : s.heap.FunFrames X.base X.outer := by
  have all : ∀ (l : List Env), (∀ b ∈ frs l, b ∈ X.fs) → X.s₀.heap.FunFrames X.base l → s.heap.FunFrames X.base l := by
    intro l
    induction l with
    | nil => intro _ _; trivial
    | cons env r ih =>
      intro hs hl
      obtain ⟨hk, ⟨L, o, hf, hn, ho, hd⟩, hr⟩ := hl
      have hL : L ∈ X.fs := hs L (by unfold frs; rw [List.filterMap_cons, hf]; exact List.mem_cons_self)
      obtain ⟨sl, e⟩ := I.base.slot L o ho (I.ok.frf L hL) hL fun z => I.ok.exfs L z hL
      exact ⟨hk, ⟨L, _, hf, hn, e, hd⟩, ih (fun b hb => hs b (by unfold frs; rw [List.filterMap_cons, hf]; exact List.mem_cons_of_mem _ hb)) hr⟩
  exact all X.outer (fun _ hb => hb) I.ok.funs

/-- the frames that run, for a call -/
theorem Inv.stack (I : Inv X pins σ H s) : s.heap.FunFrames X.base X.stack := by
  rcases I.ok.stk with e | ⟨e, hf⟩
  · rw [e]; exact I.funs
  · rw [e]
    obtain ⟨m, hn, _⟩ := I.loc
    refine .cons (by rw [I.ok.kind]; decide) hf hn ?_ I.funs
    exact Heap.get?_none_of_le (Nat.le_trans I.ok.bsz I.ok.above)
theorem Inv.stkSub (I : Inv X pins σ H s) : ∀ b ∈ frs X.stack, b ∈ X.env.locals :: X.fs := fun b hb => by
  rcases I.ok.stk with e | ⟨e, hf⟩
  · rw [e] at hb; exact List.mem_cons_of_mem _ hb
  · rw [e] at hb
    unfold frs at hb
    rw [List.filterMap_cons, hf] at hb
    exact hb
theorem Inv.stkFree (I : Inv X pins σ H s) : ∀ b ∈ frs X.stack, H b = none := fun b hb => by
  rcases List.mem_cons.mp (I.stkSub b hb) with e | hb
  · rw [e]; exact I.free
  · obtain ⟨_, o, ho, _⟩ := I.ok.funs.mem hb
    exact I.base.free b o ho (I.ok.frf b hb) fun z => I.ok.exfs b z hb

/-- THE STEP: the untracked objects but the frame and the records at ch are kept (the callers' frames up to slots), the frame's map is kept, the new abstract heap is held -/
theorem Inv.step {g' : Array GenState} {t' : Nat} {d' : Drawn} {ch : List Addr} (I : Inv X pins σ H s)
    (hch : ∀ b ∈ ch, (b ∈ X.ex ∨ X.s₀.heap.objs.size ≤ b) ∧ b ≠ X.env.locals ∧ (∀ x c, X.env.cells.lookup x = some c → c ≠ b) ∧ ∀ p ∈ X.pn ++ pins, p.1 ≠ b)
    (keep : ∀ b o, b ≠ X.env.locals → b ∉ X.fs → b ∉ ch → s.heap.get? b = some o → H b = none → h'.get? b = some o)
    (slot : ∀ b o, b ≠ X.env.locals → b ∈ X.fs → b ∉ ch → s.heap.get? b = some o → H b = none → ∃ sl, h'.get? b = some { o with slots := sl }) (free : ∀ b o, b ∉ ch → s.heap.get? b = some o → H b = none → H' b = none)
    (there : ∀ b o, b ∉ ch → s.heap.get? b = some o → ∃ o', h'.get? b = some o')
    (tups : ∀ b xs, H b = some (.tup xs) → H' b = some (.tup xs)) (frzs : ∀ b o u, H b = some (.frz o u) → H' b = some (.frz o u)) (tbls : ∀ b ps, H b = some (.tbl ps) → ∃ more, H' b = some (.tbl (ps ++ more)))
    (ns : ∀ m, s.heap.Ns X.env.locals m → h'.Ns X.env.locals m) (hok : HOk X.prog X.w H' h') (hg : AllBare g') :
    Inv X pins σ H' { s with heap := h', gens := g', drawn := d', toks := t' } := by
  have neL : ∀ b o, X.s₀.heap.get? b = some o → b ≠ X.env.locals := fun b o e => Nat.ne_of_lt (Nat.lt_of_lt_of_le (Heap.lt_size e) I.ok.above)
  have neC : ∀ b o, X.s₀.heap.get? b = some o → b ∉ X.ex → b ∉ ch := fun b o e hx hb => by
    rcases (hch b hb).1 with z | z
    · exact hx z
    · exact absurd (Nat.lt_of_lt_of_le (Heap.lt_size e) z) (Nat.lt_irrefl _)
  have cellK : ∀ x c, X.env.cells.lookup x = some c → ∀ v, s.heap.IsCell c v → h'.IsCell c v := fun x c e v ⟨o, ho, hd⟩ => by
    have nch : c ∉ ch := fun z => (hch c z).2.2.1 x c e rfl
    by_cases hc : c ∈ X.fs
    · obtain ⟨sl, q⟩ := slot c o (I.cne x c e) hc nch ho (I.freeC x c e)
      exact ⟨_, q, hd⟩
    · exact ⟨o, keep c o (I.cne x c e) hc nch ho (I.freeC x c e), hd⟩
  refine ⟨I.ok, I.os, hg, ⟨fun b o e n hb hx => ?_, fun b o e n hb hx => ?_, fun b o e n hx => ?_, fun b o e hx => ?_, fun b xs e => tups b xs (I.base.tups b xs e), fun b o xs e => frzs b o xs (I.base.frzs b o xs e), fun b ps e => ?_⟩, ?_, fun x c e => ?_, ?_, fun x c e => ?_, fun p hp => ?_, hok, I.len⟩
  · exact keep b o (neL b o e) hb (neC b o e hx) (I.base.keep b o e n hb hx) (I.base.free b o e n hx)
  · obtain ⟨sl, e1⟩ := I.base.slot b o e n hb hx
    obtain ⟨sl', e2⟩ := slot b _ (neL b o e) hb (neC b o e hx) e1 (I.base.free b o e n hx)
    exact ⟨sl', e2⟩
  · obtain ⟨o', e1⟩ := I.base.there b o e hx
    exact free b o' (neC b o e hx) e1 (I.base.free b o e n hx)
  · obtain ⟨o', e1⟩ := I.base.there b o e hx
    exact there b o' (neC b o e hx) e1
  · obtain ⟨m1, e1⟩ := I.base.tbls b ps e
    obtain ⟨m2, e2⟩ := tbls b _ e1
    exact ⟨m1 ++ m2, by rw [e2, Array.append_assoc]⟩
  · obtain ⟨m, hn, hl⟩ := I.loc
    refine ⟨m, ns m hn, fun i x v e1 e2 e3 => ?_⟩
    obtain ⟨u, r, l⟩ := hl i x v e1 e2 e3
    refine ⟨u, r, ?_⟩
    rcases l with l | ⟨k, c, e, z⟩
    · exact .inl l
    · exact .inr ⟨k, c, e, cellK x c e _ z⟩
  · obtain ⟨v, z⟩ := I.cell x c e
    exact ⟨v, cellK x c e v z⟩
  · obtain ⟨m, ⟨o, _, _, ho, _⟩, _⟩ := I.loc
    exact free _ o (fun z => (hch _ z).2.1 rfl) ho I.free
  · obtain ⟨v, o, ho, hd⟩ := I.cell x c e
    exact free c o (fun z => (hch c z).2.2.1 x c e rfl) ho (I.freeC x c e)
  · obtain ⟨e, n, ne, nf, d⟩ := I.pin p hp
    have nch : p.1 ∉ ch := fun z => (hch p.1 z).2.2.2 p hp rfl
    exact ⟨keep p.1 p.2 ne nf nch e n, free p.1 p.2 nch e n, ne, nf, d⟩
/-- .. where the frame's own object is kept too -/
theorem Inv.un {t' : Nat} (I : Inv X pins σ H s) (u : Un X.fs [] H H' s.heap h') (hok : HOk X.prog X.w H' h') : Inv X pins σ H' { s with heap := h', toks := t' } := by
  obtain ⟨m, ⟨o, es, ep, ho, r⟩, _⟩ := id I.loc
  obtain ⟨sl, hL⟩ := u.any ho I.free (by simp)
  exact I.step (g' := s.gens) (d' := s.drawn) (ch := []) (fun _ z => nomatch z) (fun b o _ hb _ e n => u.keep b o e n hb (by simp)) (fun b o _ hb _ e n => u.slot b o e n hb (by simp)) (fun b o _ e n => u.free b o e n (by simp)) (fun b o _ e => u.there b o e (by simp)) u.tups u.frzs u.tbls (fun m' hm => by
    obtain ⟨o', es', ep', ho', r'⟩ := hm
    rw [ho] at ho'; cases ho'
    exact ⟨_, es', ep', hL, r'⟩) hok I.bare
/-- behind a call (or a comprehension's block): the slots of this frame may have changed too, the records at ch may have turned -/
theorem Inv.call {g' : Array GenState} {t' : Nat} {d' : Drawn} {ch : List Addr} (I : Inv X pins σ H s) (u : Un (frs X.stack) ch H H' s.heap h') (hok : HOk X.prog X.w H' h') (hg : AllBare g')
    (hch : ∀ b ∈ ch, (b ∈ X.ex ∨ X.s₀.heap.objs.size ≤ b) ∧ b ≠ X.env.locals ∧ (∀ x c, X.env.cells.lookup x = some c → c ≠ b) ∧ ∀ p ∈ X.pn ++ pins, p.1 ≠ b) :
    Inv X pins σ H' { s with heap := h', gens := g', drawn := d', toks := t' } := by
  obtain ⟨m, ⟨o, es, ep, ho, r⟩, _⟩ := id I.loc
  obtain ⟨sl, hL⟩ := u.any ho I.free fun z => (hch _ z).2.1 rfl
  exact I.step (ch := ch) hch (fun b o hL hb hc e n => u.keep b o e n (fun z => (List.mem_cons.mp (I.stkSub b z)).elim hL hb) hc) (fun b o _ _ hc e n => u.any e n hc) (fun b o hc e n => u.free b o e n hc) (fun b o hc e => u.there b o e hc) u.tups u.frzs u.tbls (fun m' hm => by
    obtain ⟨o', es', ep', ho', r'⟩ := hm
    rw [ho] at ho'; cases ho'
    exact ⟨_, es', ep', hL, r'⟩) hok hg
/-- an untracked record of ours (an iterator) has turned -/
theorem Inv.turned {t' : Nat} {it : Addr} (I : Inv X pins σ H s) (k : ∀ b o, b ≠ it → s.heap.get? b = some o → h'.get? b = some o) (hn : H it = none) (hL : it ≠ X.env.locals)
    (h1 : it ∈ X.ex ∨ X.s₀.heap.objs.size ≤ it) (h2 : ∀ x c, X.env.cells.lookup x = some c → c ≠ it) (h3 : ∀ p ∈ X.pn ++ pins, p.1 ≠ it) : Inv X pins σ H { s with heap := h', toks := t' } := by
  have nit : ∀ b u, H b = some u → b ≠ it := fun b u e z => by rw [z, hn] at e; cases e
  refine I.step (g' := s.gens) (d' := s.drawn) (ch := [it]) (fun b hb => ?_) (fun b o _ _ hc e _ => k b o (fun z => hc (by simp [z])) e) (fun b o _ _ hc e _ => ⟨o.slots, k b o (fun z => hc (by simp [z])) e⟩) (fun _ _ _ _ n => n)
    (fun b o hc e => ⟨o, k b o (fun z => hc (by simp [z])) e⟩) (fun _ _ e => e) (fun _ _ _ e => e) (fun b ps e => ⟨#[], by rw [e]; simp⟩) (fun m hm => ?_) (fun b u e => ?_) I.bare
  · have e : b = it := by simpa using hb
    subst e
    exact ⟨h1, hL, h2, h3⟩
  · obtain ⟨o, es, ep, ho, r⟩ := hm
    exact ⟨o, es, ep, k _ o (Ne.symm hL) ho, r⟩
  · refine (I.hok b u e).stay (fun c v hc q => k c v ?_ q) (fun _ q => q) fun _ _ q => q
    rcases hc with z | z
    · rw [z]; exact nit b u e
    · exact nit c _ z
theorem Inv.tok (I : Inv X pins σ H s) (t : Nat) : Inv X pins σ H { s with toks := t } := I.un (h' := s.heap) (t' := t) Un.refl I.hok
/-- all objects kept -/
theorem Inv.kept {t' : Nat} (I : Inv X pins σ H s) (k : ∀ b u, s.heap.get? b = some u → h'.get? b = some u) : Inv X pins σ H { s with heap := h', toks := t' } := I.un (Un.kept k) (I.hok.kept k)
/-- a new object laid and tracked -/
theorem Inv.laid {a : Addr} {o : HO} {t' : Nat} (I : Inv X pins σ H s) (k : ∀ b u, s.heap.get? b = some u → h'.get? b = some u) (hp : s.heap.objs.size ≤ a) (new : ObjOk X.prog X.w (upd H a o) h' a o) :
    Inv X pins σ (upd H a o) { s with heap := h', toks := t' } := I.un (Un.laid k hp (I.hok.fresh hp)) (I.hok.laid k hp new)
/-- an object written -/
theorem Inv.write {x e : Addr} {o : HO} {t' : Nat} (I : Inv X pins σ H s) (mu : Mut (H x)) (he : e = x ∨ H e = some (.own x)) (k : ∀ b u, b ≠ e → s.heap.get? b = some u → h'.get? b = some u) (heo : ∃ u, h'.get? e = some u)
    (new : ObjOk X.prog X.w (upd H x o) h' x o) : Inv X pins σ (upd H x o) { s with heap := h', toks := t' } := I.un (Un.write mu he k heo) (I.hok.write mu he k heo new)
/-- forgetting slots, pins -/
theorem Inv.weak {σ' : List (Option V)} (I : Inv X pins σ H s) (hl : σ'.length = σ.length) (w : ∀ (i : Nat) v, σ'[i]? = some (some v) → σ[i]? = some (some v)) : Inv X pins σ' H s :=
  ⟨I.ok, I.os, I.bare, I.base, let ⟨m, hn, hl'⟩ := I.loc; ⟨m, hn, fun i x v e1 e2 e3 => hl' i x v e1 (w i v e2) e3⟩, I.cell, I.free, I.freeC, I.pin, I.hok, hl.trans I.len⟩
theorem Inv.pins_of {pins' : List (Addr × Obj)} (I : Inv X pins σ H s) (h : ∀ p ∈ pins', s.heap.get? p.1 = some p.2 ∧ H p.1 = none ∧ p.1 ≠ X.env.locals ∧ p.1 ∉ X.fs ∧ ∀ v, p.2.data ≠ .cell v) : Inv X pins' σ H s :=
  ⟨I.ok, I.os, I.bare, I.base, I.loc, I.cell, I.free, I.freeC, fun p hp => (List.mem_append.mp hp).elim (fun z => I.pin p (List.mem_append_left _ z)) (h p), I.hok, I.len⟩

theorem nodup_ix {N : List Str} (hN : N.Nodup) {i j : Nat} {x : Str} (a : N[i]? = some x) (b : N[j]? = some x) : i = j := by
  obtain ⟨h1, e1⟩ := List.getElem?_eq_some_iff.mp a
  obtain ⟨h2, e2⟩ := List.getElem?_eq_some_iff.mp b
  exact (List.getElem_inj hN).mp (e1.trans e2.symm)

/-- a name is stored; what changed -/
theorem store_ok2 {M : Model} {A : Around} {E : Value → Shared → Prop} {i : Nat} {x : Str} {v : V} {u : Value} {Q : Unit → Shared → Prop} (I : Inv X pins σ H s) (hN : X.N.Nodup) (hi : X.N[i]? = some x) (hx : Loc X.env.scope x) (r : RelV v u)
    (h : ∀ s', Inv X pins (σ.set i (some v)) H s' → (∃ a, Heap.SameBut a s.heap s'.heap ∧ (a = X.env.locals ∨ X.env.cells.lookup x = some a)) → Q () s') (hf : X.fn x = true ∨ X.env.scope.names.lookup x = some .local := by first | exact .inl rfl | exact .inr rfl | assumption) : wpAny M A (storeName X.env x u) Q E s := by
  obtain ⟨m, hn, hl⟩ := id I.loc
  have hcls : (X.env.scope.kind == .class || (X.env.scope.kind == .module && X.env.locals != X.env.globals)) = false := by rw [I.ok.kind]; rfl
  have hiσ : i < σ.length := by rw [I.len]; exact (List.getElem?_eq_some_iff.mp hi).1
  have cne := I.cne
  have tracked : ∀ {a : Addr} {h' : Heap}, (∃ o, s.heap.get? a = some o ∧ H a = none) → Heap.SameBut a s.heap h' → HOk X.prog X.w H h' := fun {a h'} ha hs b ob e => by
    obtain ⟨_, _, hfree⟩ := ha
    refine (I.hok b ob e).stay (fun c w' hc q => (hs.2 c ?_).trans q) (fun _ q => q) fun _ _ q => q
    rintro rfl
    rcases hc with rfl | hc
    · rw [hfree] at e; cases e
    · rw [hfree] at hc; cases hc
  rcases hx with hk | hk
  · refine wpAny_storeName_local hk hn (fun h' hn' hs => ?_) hcls
    obtain ⟨oL, _, _, hoL, _⟩ := id hn
    refine h _ ⟨I.ok, I.os, I.bare, ⟨fun b o e n hb hx => ?_, fun b o e n hb hx => ?_, I.base.free, fun b o e hx => ?_, I.base.tups, I.base.frzs, I.base.tbls⟩, ⟨_, hn', fun j y v' e1 e2 e3 => ?_⟩, fun y c e => ?_, I.free, I.freeC, fun p hp => ?_, tracked ⟨oL, hoL, I.free⟩ hs, by simpa using I.len⟩ ⟨_, hs, .inl rfl⟩
    · exact (hs.2 b (Nat.ne_of_lt (Nat.lt_of_lt_of_le (Heap.lt_size e) I.ok.above))).trans (I.base.keep b o e n hb hx)
    · obtain ⟨sl, e1⟩ := I.base.slot b o e n hb hx
      exact ⟨sl, (hs.2 b (Nat.ne_of_lt (Nat.lt_of_lt_of_le (Heap.lt_size e) I.ok.above))).trans e1⟩
    · obtain ⟨o', e1⟩ := I.base.there b o e hx
      exact ⟨o', (hs.2 b (Nat.ne_of_lt (Nat.lt_of_lt_of_le (Heap.lt_size e) I.ok.above))).trans e1⟩
    · by_cases hj : j = i
      · subst hj
        rw [hi] at e1; cases e1
        rw [List.getElem?_set_self hiσ] at e2
        cases e2
        exact ⟨u, r, .inl ⟨hk, by simp⟩⟩
      · rw [List.getElem?_set_ne (Ne.symm hj)] at e2
        obtain ⟨u', r', q⟩ := hl j y v' e1 e2 e3
        refine ⟨u', r', ?_⟩
        rcases q with ⟨k, e⟩ | ⟨k, c, e, z⟩
        · refine .inl ⟨k, ?_⟩
          have : y ≠ x := fun e => hj (nodup_ix hN e1 (e ▸ hi))
          simp [this, e]
        · exact .inr ⟨k, c, e, z.sameBut hs (cne y c e)⟩
    · obtain ⟨w', z⟩ := I.cell y c e
      exact ⟨w', z.sameBut hs (cne y c e)⟩
    · obtain ⟨e, n, ne, nf, d⟩ := I.pin p hp
      exact ⟨(hs.2 p.1 ne).trans e, n, ne, nf, d⟩
  · have hfn : X.fn x = true := by
      rcases hf with z | z
      · exact z
      · rw [z] at hk; cases hk
    obtain ⟨c, hc⟩ := I.ok.has x (.inl hk)
    obtain ⟨w', z⟩ := I.cell x c hc
    refine wpAny_storeName_cell I.ok.kind hk hc z (fun h' hc' hs => ?_)
    obtain ⟨oc, hoc, hocd⟩ := id z
    refine h { s with heap := h' } ⟨I.ok, I.os, I.bare, ⟨fun b o e n hb hx => ?_, fun b o e n hb hx => ?_, I.base.free, fun b o e hx => ?_, I.base.tups, I.base.frzs, I.base.tbls⟩, ⟨m, hn.sameBut hs (Ne.symm (cne x c hc)), fun j y v' e1 e2 e3 => ?_⟩, fun y c' e => ?_, I.free, I.freeC, fun p hp => ?_, tracked ⟨oc, hoc, I.freeC x c hc⟩ hs, by simpa using I.len⟩ ⟨c, hs, .inr hc⟩
    · exact (hs.2 b (Nat.ne_of_lt (Nat.lt_of_lt_of_le (Heap.lt_size e) (I.ok.cab x c hfn hc)))).trans (I.base.keep b o e n hb hx)
    · obtain ⟨sl, e1⟩ := I.base.slot b o e n hb hx
      exact ⟨sl, (hs.2 b (Nat.ne_of_lt (Nat.lt_of_lt_of_le (Heap.lt_size e) (I.ok.cab x c hfn hc)))).trans e1⟩
    · obtain ⟨o', e1⟩ := I.base.there b o e hx
      exact ⟨o', (hs.2 b (Nat.ne_of_lt (Nat.lt_of_lt_of_le (Heap.lt_size e) (I.ok.cab x c hfn hc)))).trans e1⟩
    · by_cases hj : j = i
      · subst hj
        rw [hi] at e1; cases e1
        rw [List.getElem?_set_self hiσ] at e2
        cases e2
        exact ⟨u, r, .inr ⟨.inl hk, c, hc, hc'⟩⟩
      · rw [List.getElem?_set_ne (Ne.symm hj)] at e2
        obtain ⟨u', r', q⟩ := hl j y v' e1 e2 e3
        refine ⟨u', r', ?_⟩
        rcases q with q | ⟨k, c', e, z'⟩
        · exact .inl q
        · refine .inr ⟨k, c', e, z'.sameBut hs ?_⟩
          rintro rfl
          exact hj (nodup_ix hN e1 (I.ok.inj _ _ _ e hc ▸ hi))
    · by_cases hcc : c' = c
      · subst hcc; exact ⟨_, hc'⟩
      · obtain ⟨w2, z2⟩ := I.cell y c' e
        exact ⟨w2, z2.sameBut hs hcc⟩
    · obtain ⟨e, n, ne, nf, d⟩ := I.pin p hp
      refine ⟨(hs.2 p.1 ?_).trans e, n, ne, nf, d⟩
      intro q
      rw [q, hoc] at e
      have q' : oc = p.2 := Option.some.inj e
      exact d w' (by rw [← q']; exact hocd)
theorem store_ok {M : Model} {A : Around} {E : Value → Shared → Prop} {i : Nat} {x : Str} {v : V} {u : Value} {Q : Unit → Shared → Prop} (I : Inv X pins σ H s) (hN : X.N.Nodup) (hi : X.N[i]? = some x) (hx : Loc X.env.scope x) (r : RelV v u)
    (h : ∀ s', Inv X pins (σ.set i (some v)) H s' → Q () s') (hf : X.fn x = true ∨ X.env.scope.names.lookup x = some .local := by first | exact .inl rfl | exact .inr rfl | assumption) : wpAny M A (storeName X.env x u) Q E s :=
  store_ok2 I hN hi hx r (fun s' I' _ => h s' I') hf
/-- behind a call or a block, the state as it is -/
theorem Inv.call' {s' : Shared} {ch : List Addr} (I : Inv X pins σ H s) (ho : s'.os = s.os) (u : Un (frs X.stack) ch H H' s.heap s'.heap) (hok : HOk X.prog X.w H' s'.heap) (hg : AllBare s'.gens)
    (hch : ∀ b ∈ ch, (b ∈ X.ex ∨ X.s₀.heap.objs.size ≤ b) ∧ b ≠ X.env.locals ∧ (∀ x c, X.env.cells.lookup x = some c → c ≠ b) ∧ ∀ p ∈ X.pn ++ pins, p.1 ≠ b) : Inv X pins σ H' s' := by
  obtain ⟨h', g', d', t', o'⟩ := s'
  have e : o' = s.os := ho
  subst e
  exact I.call (g' := g') (t' := t') (d' := d') u hok hg hch
end

/-! ### the judgements -/
/-- an exception: its class, its own dict's address (where it has one), the abstract heap behind it -/
abbrev XK := Value → Option Addr → Hp → Prop
abbrev St := List (Option V)
abbrev VK := V → Hp → Prop
/-- an expression's reading; a test's; an argument list's -/
abbrev TE := St → Hp → VK → Prop
abbrev TT := St → Hp → (Bool → Hp → Prop) → Prop
abbrev TA := St → Hp → (List V → Hp → Prop) → Prop
/-- what is wanted behind a statement -/
structure Ends where
  nx : St → Hp → Prop
  rt : VK
  bk : St → Hp → Prop := fun _ _ => False
  ct : St → Hp → Prop := fun _ _ => False
abbrev TS := Ends → St → Hp → Prop

def EP (X : Cx) (pins : List (Addr × Obj)) (σ : St) (Q : VK) (u : Value) (s' : Shared) : Prop := ∃ v H', Inv X pins σ H' s' ∧ RelV v u ∧ Q v H'
def TP (X : Cx) (pins : List (Addr × Obj)) (σ : St) (Q : Bool → Hp → Prop) (b : Bool) (s' : Shared) : Prop := ∃ H', Inv X pins σ H' s' ∧ Q b H'
def AP (X : Cx) (pins : List (Addr × Obj)) (σ : St) (Q : List V → Hp → Prop) (us : List Value) (s' : Shared) : Prop := ∃ vs H', Inv X pins σ H' s' ∧ Vals vs us ∧ Q vs H'
def SP (X : Cx) (pins : List (Addr × Obj)) (D : Ends) (f : Flow) (s' : Shared) : Prop :=
  match f with
  | .next => ∃ σ' H', Inv X pins σ' H' s' ∧ D.nx σ' H'
  | .brk => ∃ σ' H', Inv X pins σ' H' s' ∧ D.bk σ' H'
  | .cont => ∃ σ' H', Inv X pins σ' H' s' ∧ D.ct σ' H'
  | .ret u => ∃ v σ' H', Inv X pins σ' H' s' ∧ RelV v u ∧ D.rt v H'

def PE (X : Cx) (e : Expr) (t : TE) : Prop :=
  ∀ (pins : List (Addr × Obj)) (s : Shared) (σ : St) (H : Hp) (Q : VK), Inv X pins σ H s → t σ H Q → wpAny (model X.prog X.w) X.A (eval e X.env) (EP X pins σ Q) X.xe s
def PT (X : Cx) (e : Expr) (t : TT) : Prop :=
  ∀ (pins : List (Addr × Obj)) (s : Shared) (σ : St) (H : Hp) (Q : Bool → Hp → Prop), Inv X pins σ H s → t σ H Q → wpAny (model X.prog X.w) X.A (isTrue e X.env (eval e X.env)) (TP X pins σ Q) X.xe s
/-- a test whatever its 'whole' is (and, or) -/
def PW (X : Cx) (e : Expr) (t : TT) : Prop :=
  ∀ (whole : Sem Value) (pins : List (Addr × Obj)) (s : Shared) (σ : St) (H : Hp) (Q : Bool → Hp → Prop), Inv X pins σ H s → t σ H Q → wpAny (model X.prog X.w) X.A (isTrue e X.env whole) (TP X pins σ Q) X.xe s
theorem PW.pt {X : Cx} {e : Expr} {t : TT} (h : PW X e t) : PT X e t := h _
/-- an argument list (no star), from the left -/
def PA (X : Cx) (es : List Expr) (t : TA) : Prop :=
  ∀ (pos : Pos) (pins : List (Addr × Obj)) (s : Shared) (σ : St) (H : Hp) (Q : List V → Hp → Prop), Inv X pins σ H s → t σ H Q → wpAny (model X.prog X.w) X.A (spliced (backTo pos (starEach es X.env))) (AP X pins σ Q) X.xe s
def PS (X : Cx) (st : Stmt) (t : TS) : Prop :=
  ∀ (pins : List (Addr × Obj)) (s : Shared) (σ : St) (H : Hp) (D : Ends), Inv X pins σ H s → t D σ H → wpAny (model X.prog X.w) X.A (exec st X.env) (SP X pins D) X.xe s
def PSs (X : Cx) (st : List Stmt) (t : TS) : Prop :=
  ∀ (pins : List (Addr × Obj)) (s : Shared) (σ : St) (H : Hp) (D : Ends), Inv X pins σ H s → t D σ H → wpAny (model X.prog X.w) X.A (execs st X.env) (SP X pins D) X.xe s
/-- weaken the end -/
theorem thn {α : Type} {t : Sem α} {Q Q' : α → Shared → Prop} {M : Model} {A : Around} {E : Value → Shared → Prop} {s : Shared} (h : wpAny M A t Q E s) (hQ : ∀ a s, Q a s → Q' a s) : wpAny M A t Q' E s := wpAny_mono h hQ fun _ _ x => x
end L2

namespace L2
open PySem PySem.Spec PyProof.Rows
section
variable {X : Cx}

/-! ### names and constants -/
def tVar (i : Nat) : TE := fun σ H Q => ∃ v, σ[i]? = some (some v) ∧ Q v H
def tC (v : V) : TE := fun _ H Q => Q v H
theorem pe_var {i : Nat} {x : Str} {pos : Pos} (hN : X.N[i]? = some x) (hv : Vis X.env.scope x) (hd : (x == ("__debug__" : Str)) = false := by decide) (hcd : (x == ("__classdict__" : Str)) = false := by decide) : PE X (.Name x pos) (tVar i) := by
  intro pins s σ H Q I h
  obtain ⟨v, e, h⟩ := h
  obtain ⟨m, hn, hl⟩ := I.loc
  obtain ⟨u, r, l⟩ := hl i x v hN e hv
  have fin : EP X pins σ Q u s := ⟨v, H, I, r, h⟩
  rcases l with ⟨hk, hm⟩ | ⟨hk, c, hc, hcell⟩
  · exact wpAny_Name (wpAny_loadName_local I.ok.kind hk hn hm fin) hd
  · rcases hk with hk | hk
    · exact wpAny_Name (wpAny_loadName_cell I.ok.kind hk hc hcell fin) hd
    · exact wpAny_Name (wpAny_loadName_free I.ok.kind hk hc hcell fin hcd) hd
theorem pe_int {i j pos} : PE X (.Constant (.int i) j pos) (tC (.int i)) := fun _ _ _ H _ I h => wpAny_Constant_int ⟨.int i, H, I.tok _, ⟨_, rfl⟩, h⟩
theorem pe_bl {b j pos} : PE X (.Constant (.bool b) j pos) (tC (.bl b)) := fun _ _ _ H _ I h => Constant_bool ⟨.bl b, H, I, rfl, h⟩
theorem pe_non {j pos} : PE X (.Constant .none j pos) (tC .non) := fun _ _ _ H _ I h => Constant_none ⟨.non, H, I, rfl, h⟩
theorem pe_str {x j pos} : PE X (.Constant (.str x) j pos) (tC (.str x)) := fun _ _ _ H _ I h => Calls.Constant_str ⟨.str x, H, I.tok _, ⟨_, rfl⟩, h⟩

/-- a global name of the def -/
def Gl (X : Cx) (x : Str) : Prop := X.env.kindOf x = some .globalImplicit
theorem ld_glob {E : Value → Shared → Prop} {pins : List (Addr × Obj)} {s : Shared} {σ : St} {H : Hp} {x : Str} {u : Value} {pos : Pos} {Q : Value → Shared → Prop} (I : Inv X pins σ H s) (hg : Gl X x) (hm : X.mg x = some u) (h : Q u s)
    (hd : (x == ("__debug__" : Str)) = false := by decide) : wpAny (model X.prog X.w) X.A (eval (.Name x pos) X.env) Q E s :=
  Calls.Name_function_global I.ok.kind hg (Calls.loadGlobal_global (by rw [I.ok.glob]; exact I.mod.glob.keeps I.bk) hm h) hd
theorem ld_blt {E : Value → Shared → Prop} {pins : List (Addr × Obj)} {s : Shared} {σ : St} {H : Hp} {x : Str} {u : Value} {pos : Pos} {Q : Value → Shared → Prop} (I : Inv X pins σ H s) (hg : Gl X x) (hm : X.mg x = none) (hv : bootBuiltins x = some u) (h : Q u s)
    (hn : x ≠ "__name__" := by decide) (hd : (x == ("__debug__" : Str)) = false := by decide) : wpAny (model X.prog X.w) X.A (eval (.Name x pos) X.env) Q E s := by
  obtain ⟨mb, h1, h2⟩ := I.mod.blt
  exact Calls.Name_function_global I.ok.kind hg (Calls.loadGlobal_builtin (by rw [I.ok.glob]; exact I.mod.glob.keeps I.bk) hm (by rw [I.ok.blt]; exact h1.keeps I.bk) ((h2 x hn).trans hv) h) hd
/-- a module's constant, a class, a function, as a value -/
theorem pe_glob {x : Str} {v : V} {u : Value} {pos : Pos} (hg : Gl X x) (hm : X.mg x = some u) (r : RelV v u) (hd : (x == ("__debug__" : Str)) = false := by decide) : PE X (.Name x pos) (tC v) :=
  fun _ _ _ H _ I h => ld_glob I hg hm ⟨v, H, I, r, h⟩ hd
theorem pe_bltn {x : Str} {v : V} {u : Value} {pos : Pos} (hg : Gl X x) (hm : X.mg x = none) (hv : bootBuiltins x = some u) (r : RelV v u) (hn : x ≠ "__name__" := by decide) (hd : (x == ("__debug__" : Str)) = false := by decide) : PE X (.Name x pos) (tC v) :=
  fun _ _ _ H _ I h => ld_blt I hg hm hv ⟨v, H, I, r, h⟩ hn hd

/-! ### arithmetic -/
variable {a b : Expr} {ta tb : TE} {pos : Pos}
/-! ### comparisons -/
def PC (X : Cx) (op : CmpOp) (a b : Expr) (t : TE) : Prop :=
  ∀ (pins : List (Addr × Obj)) (s : Shared) (σ : St) (H : Hp) (Q : VK), Inv X pins σ H s → t σ H Q →
    wpAny (model X.prog X.w) X.A (eval a X.env) (fun v s₁ => wpAny (model X.prog X.w) X.A (eval b X.env) (fun u s₂ => wpAny (model X.prog X.w) X.A (compareOp op v u) (EP X pins σ Q) X.xe s₂) X.xe s₁) X.xe s
/-- a comparison as a value, as a test -/
def tB (t : TE) : TT := fun σ H Q => t σ H fun x H1 => ∃ c, x = .bl c ∧ Q c H1
theorem pt_cmp {op : CmpOp} {t : TE} (h : PC X op a b t) (h1 : behindInMarks op b = false := by first | exact nobehind _ (by decide) (by decide) | rfl) : PT X (.Compare a [op] [b] pos) (tB t) := by
  intro pins s σ H Q I hw
  refine wpAny_isTrue_Compare1 (thn (h pins s σ H _ I hw) fun v s1 h1 => thn h1 fun u s2 h2 => thn h2 fun c s3 ⟨x, H1, I1, r1, q1⟩ => ?_) h1
  obtain ⟨d, rfl, q⟩ := q1
  cases r1
  exact wpAny_truthy_bool ⟨H1, I1, q⟩
/-- an expression whose value is a bool, as a test -/
theorem pt_val {e : Expr} {t : TE} (h : PE X e t) (he : ∀ whole, isTrue e X.env whole = (do let v ← whole; standAt e.pos; holding [v] (truthy v)) := by intro _; rfl) : PT X e (tB t) := by
  intro pins s σ H Q I hw
  refine isTrue_plain (thn (h pins s σ H _ I hw) fun v s1 ⟨x, H1, I1, r1, q1⟩ => ?_) (he _)
  obtain ⟨d, rfl, q⟩ := q1
  cases r1
  exact wpAny_truthy_bool ⟨H1, I1, q⟩

/-! ### and, or, not -/
variable {tA tB' : TT} {rest : List Expr}
def tAnd (t u : TT) : TT := fun σ H Q => t σ H fun c H1 => if c = true then u σ H1 Q else Q false H1
def tOr (t u : TT) : TT := fun σ H Q => t σ H fun c H1 => if c = true then Q true H1 else u σ H1 Q
def tNot (t : TT) : TT := fun σ H Q => t σ H fun c H1 => Q (!c) H1
theorem pw_and1 (ha : PT X a tA) : PW X (.BoolOp .And [a] pos) tA := by
  intro wh pins s σ H Q I h
  refine isTrue_and (thn (ha pins s σ H Q I h) fun c s1 e => ?_)
  cases c with
  | true => exact isTrue_and_nil e
  | false => exact e
theorem pw_or1 (ha : PT X a tA) : PW X (.BoolOp .Or [a] pos) tA := by
  intro wh pins s σ H Q I h
  refine isTrue_or (thn (ha pins s σ H Q I h) fun c s1 e => ?_)
  cases c with
  | false => exact isTrue_or_nil e
  | true => exact e
theorem pw_and (ha : PT X a tA) (hb : PW X (.BoolOp .And (b :: rest) pos) tB') : PW X (.BoolOp .And (a :: b :: rest) pos) (tAnd tA tB') := by
  intro wh pins s σ H Q I h
  refine isTrue_and (thn (ha pins s σ H _ I h) fun c s1 ⟨H1, I1, q1⟩ => ?_)
  cases c with
  | true => exact hb wh pins s1 σ H1 Q I1 q1
  | false => exact ⟨H1, I1, q1⟩
theorem pw_or (ha : PT X a tA) (hb : PW X (.BoolOp .Or (b :: rest) pos) tB') : PW X (.BoolOp .Or (a :: b :: rest) pos) (tOr tA tB') := by
  intro wh pins s σ H Q I h
  refine isTrue_or (thn (ha pins s σ H _ I h) fun c s1 ⟨H1, I1, q1⟩ => ?_)
  cases c with
  | true => exact ⟨H1, I1, q1⟩
  | false => exact hb wh pins s1 σ H1 Q I1 q1
theorem pt_not (ha : PT X a tA) : PT X (.UnaryOp .Not a pos) (tNot tA) := by
  intro pins s σ H Q I h
  exact isTrue_not (ha pins s σ H (fun c H1 => Q (!c) H1) I h)
/-- .. as values (bools) -/
def tAndV (ta tb : TE) : TE := fun σ H Q => ta σ H fun x H1 => ∃ c, x = .bl c ∧ if c = true then tb σ H1 Q else Q (.bl false) H1
def tNotV (ta : TE) : TE := fun σ H Q => ta σ H fun x H1 => ∃ c, x = .bl c ∧ Q (.bl (!c)) H1
theorem pe_one {op} {t : TE} (h : PE X a t) : PE X (.BoolOp op [a] pos) t := fun pins s σ H Q I hw => BoolOp_one (h pins s σ H Q I hw)
theorem pe_and (ha : PE X a ta) (hb : PE X (.BoolOp .And (b :: rest) pos) tb) : PE X (.BoolOp .And (a :: b :: rest) pos) (tAndV ta tb) := by
  intro pins s σ H Q I h
  refine BoolOp_and (thn (ha pins s σ H _ I h) fun v s1 ⟨x, H1, I1, r1, q1⟩ => ?_)
  obtain ⟨c, rfl, q1⟩ := q1
  cases r1
  refine wpAny_truthy_bool ?_
  cases c with
  | true => exact hb pins s1 σ H1 Q I1 q1
  | false => exact ⟨.bl false, H1, I1, rfl, q1⟩
theorem pe_not (ha : PE X a ta) : PE X (.UnaryOp .Not a pos) (tNotV ta) := by
  intro pins s σ H Q I h
  refine UnaryOp_ (thn (ha pins s σ H _ I h) fun v s1 ⟨x, H1, I1, r1, q1⟩ => ?_)
  obtain ⟨c, rfl, q1⟩ := q1
  cases r1
  exact not_of (wpAny_truthy_bool ⟨.bl (!c), H1, I1, rfl, q1⟩)
end
end L2

namespace L2
open PySem PySem.Spec PyProof.Rows

/-! ### a list, a tuple that is read: tracked, frozen, or an object of the module -/
def SqL (K : PySem.W.Frag) (H : Hp) (a : Addr) (xs : List V) : Prop :=
  Rd H a (.lst xs) ∨
    ∃ (o : Obj) (its : Array Value) (n : Nat), K.lookup a = some o ∧ o.cls = .type "list" ∧ o.dict = none ∧ o.data = .seq its n ∧ its.size ≤ sizeLine ∧ Vals xs its.toList
def SqT (K : PySem.W.Frag) (H : Hp) (a : Addr) (xs : List V) : Prop :=
  Rd H a (.tup xs) ∨
    ∃ (o : Obj) (its : Array Value) (n : Nat), K.lookup a = some o ∧ o.cls = .type "tuple" ∧ o.data = .seq its n ∧ its.size ≤ sizeLine ∧ Vals xs its.toList
def absV : Value → Option V
  | .none => some .non
  | .bool b => some (.bl b)
  | .int i _ => some (.int i)
  | .str x _ => some (.str x)
  | .bytes b _ => some (.byt b)
  | .float b _ => some (.flt b)
  | .ref a => some (.ref a)
  | .type n => some (.ty n)
  | _ => none
theorem RelV.abs {x : V} {u : Value} (r : RelV x u) : absV u = some x := by
  cases x with
  | non => cases r; rfl
  | bl _ => cases r; rfl
  | int _ => obtain ⟨t, rfl⟩ := r; rfl
  | str _ => obtain ⟨t, rfl⟩ := r; rfl
  | byt _ => obtain ⟨t, rfl⟩ := r; rfl
  | flt _ => obtain ⟨t, rfl⟩ := r; rfl
  | ref _ => cases r; rfl
  | ty _ => cases r; rfl
theorem RelV.inj {x y : V} {u : Value} (r : RelV x u) (q : RelV y u) : x = y := Option.some.inj (r.abs.symm.trans q.abs)
theorem Vals.inj : ∀ {xs ys : List V} {us : List Value}, Vals xs us → Vals ys us → xs = ys
  | _, _, _, .nil, .nil => rfl
  | _, _, _, .cons r t, .cons r' t' => by rw [r.inj r', Vals.inj t t']
section
variable {X : Cx} {pins : List (Addr × Obj)} {σ : St} {H : Hp} {s : Shared} {a : Addr} {xs ys : List V}
theorem SqL.of {K : PySem.W.Frag} (h : H a = some (.lst xs)) : SqL K H a xs := .inl (.inl h)
theorem SqT.of {K : PySem.W.Frag} (h : H a = some (.tup xs)) : SqT K H a xs := .inl (.inl h)
theorem Inv.list (I : Inv X pins σ H s) (h : SqL X.K H a xs) : ∃ its : List Value, Vals xs its ∧ PlainL s.heap a its.toArray ∧ xs.length ≤ sizeLine := by
  rcases h with h | ⟨o, its, n, hk, hc, hd, hs, hz, r⟩
  · obtain ⟨z, its, n, r, e⟩ := h.ok I.hok
    exact ⟨its, r, ⟨_, n, e, rfl, rfl, rfl⟩, z⟩
  · refine ⟨its.toList, r, ⟨o, n, I.kIn a o hk, hc, hd, by simpa using hs⟩, ?_⟩
    have e := r.length
    simp only [Array.length_toList] at e
    lia
theorem Inv.tuple (I : Inv X pins σ H s) (h : SqT X.K H a xs) : ∃ its : List Value, Vals xs its ∧ IsTup s.heap a its.toArray ∧ xs.length ≤ sizeLine := by
  rcases h with h | ⟨o, its, n, hk, hc, hs, hz, r⟩
  · obtain ⟨z, its, r, p⟩ := h.ok I.hok
    exact ⟨its, r, p, z⟩
  · refine ⟨its.toList, r, ⟨o, I.kIn a o hk, hc, n, by simpa using hs⟩, ?_⟩
    have e := r.length
    simp only [Array.length_toList] at e
    lia
theorem Inv.list_inj (I : Inv X pins σ H s) (h : SqL X.K H a xs) (h' : SqL X.K H a ys) : xs = ys := by
  obtain ⟨its, r, ⟨o, n, e, _, _, d⟩, _⟩ := I.list h
  obtain ⟨its', r', ⟨o', n', e', _, _, d'⟩, _⟩ := I.list h'
  rw [e] at e'; cases e'
  rw [d] at d'
  injection d' with d1 _
  have : its = its' := by simpa using congrArg Array.toList d1
  subst this
  exact r.inj r'
theorem Inv.tuple_inj (I : Inv X pins σ H s) (h : SqT X.K H a xs) (h' : SqT X.K H a ys) : xs = ys := by
  obtain ⟨its, r, ⟨o, e, _, n, d⟩, _⟩ := I.tuple h
  obtain ⟨its', r', ⟨o', e', _, n', d'⟩, _⟩ := I.tuple h'
  rw [e] at e'; cases e'
  rw [d] at d'
  injection d' with d1 _
  have : its = its' := by simpa using congrArg Array.toList d1
  subst this
  exact r.inj r'
end

/-! ### another wish about exceptions -/
abbrev Cx.wish (X : Cx) (E : Value → Shared → Prop) : Cx := { X with xe := E }
/-- no exception leaves -/
abbrev Cx.nox (X : Cx) : Cx := X.wish fun _ _ => False
theorem Cx.Ok.wish {X : Cx} (ok : X.Ok) (E : Value → Shared → Prop) : (X.wish E).Ok :=
  ⟨ok.mod, ok.kind, ok.glob, ok.blt, ok.above, ok.inj, ok.has, ok.cab, ok.hd, ok.frames, ok.stk, ok.exf, ok.bs, ok.bsz, ok.noex, ok.exfs, ok.funs, ok.frf⟩
theorem Cx.Ok.unwish {X : Cx} {E : Value → Shared → Prop} (ok : (X.wish E).Ok) : X.Ok :=
  ⟨ok.mod, ok.kind, ok.glob, ok.blt, ok.above, ok.inj, ok.has, ok.cab, ok.hd, ok.frames, ok.stk, ok.exf, ok.bs, ok.bsz, ok.noex, ok.exfs, ok.funs, ok.frf⟩
section
variable {X : Cx} {pins : List (Addr × Obj)} {σ : St} {H : Hp} {s : Shared} {E : Value → Shared → Prop}
theorem Inv.wish (I : Inv X pins σ H s) (E : Value → Shared → Prop) : Inv (X.wish E) pins σ H s := ⟨I.ok.wish E, I.os, I.bare, I.base, I.loc, I.cell, I.free, I.freeC, I.pin, I.hok, I.len⟩
theorem Inv.unwish (I : Inv (X.wish E) pins σ H s) : Inv X pins σ H s := ⟨I.ok.unwish, I.os, I.bare, I.base, I.loc, I.cell, I.free, I.freeC, I.pin, I.hok, I.len⟩
theorem SP.unwish {D : Ends} {f : Flow} {s' : Shared} (h : SP (X.wish E) pins D f s') : SP X pins D f s' := by
  cases f with
  | next => obtain ⟨σ', H', I, q⟩ := h; exact ⟨σ', H', I.unwish, q⟩
  | brk => obtain ⟨σ', H', I, q⟩ := h; exact ⟨σ', H', I.unwish, q⟩
  | cont => obtain ⟨σ', H', I, q⟩ := h; exact ⟨σ', H', I.unwish, q⟩
  | ret u => obtain ⟨v, σ', H', I, r, q⟩ := h; exact ⟨v, σ', H', I.unwish, r, q⟩
theorem PSs.nox {st : List Stmt} {t : TS} (h : PSs X.nox st t) : PSs X st t := fun pins s σ H D I hw =>
  wpAny_mono (h pins s σ H D (I.wish _) hw) (fun _ _ q => q.unwish) fun _ _ z => False.elim z
end

/-! ### blocks and small statements -/
section
variable {X : Cx} {st : Stmt} {rest : List Stmt} {t u : TS} {e : Expr} {te : TE} {pos : Pos}
def tNext : TS := fun D σ H => D.nx σ H
def tSeq (t u : TS) : TS := fun D σ H => t { D with nx := u D } σ H
theorem pss_nil : PSs X [] tNext := fun _ _ σ H _ I h => wpAny_execs_nil ⟨σ, H, I, h⟩
theorem pss_cons (h1 : PS X st t) (h2 : PSs X rest u) : PSs X (st :: rest) (tSeq t u) := by
  intro pins s σ H D I h
  refine wpAny_execs_cons (thn (h1 pins s σ H { D with nx := u D } I h) fun f s1 q => ?_)
  cases f with
  | next =>
    obtain ⟨σ', H', I', q⟩ := q
    exact h2 pins s1 σ' H' D I' q
  | ret v => exact q
  | brk => exact q
  | cont => exact q
theorem pss_one (h1 : PS X st t) : PSs X [st] t := by
  intro pins s σ H D I h
  refine wpAny_execs_cons (thn (h1 pins s σ H D I h) fun f s1 q => ?_)
  cases f with
  | next => exact wpAny_execs_nil q
  | ret v => exact q
  | brk => exact q
  | cont => exact q
/-- in a def's body nothing is shown -/
theorem Inv.quiet {pins : List (Addr × Obj)} {σ : St} {H : Hp} {s : Shared} (I : Inv X pins σ H s) : interactive X.env = false := by simp [interactive, I.ok.kind]
/-- an expression whose value is dropped -/
def tDrop (te : TE) : TS := fun D σ H => te σ H fun _ H1 => D.nx σ H1
theorem ps_expr (he : PE X e te) (hs : swapsWith e none pos.line X.env = pure false := by rfl) : PS X (.Expr e pos) (tDrop te) := by
  intro pins s σ H D I h
  exact wpAny_Expr_any (thn (he pins s σ H _ I h) fun v s1 ⟨x, H1, I1, r1, q1⟩ => ⟨σ, H1, I1, q1⟩) I.quiet hs
def tRet (te : TE) : TS := fun D σ H => te σ H D.rt
theorem ps_ret (he : PE X e te) : PS X (.Return (some e) pos) (tRet te) := by
  intro pins s σ H D I h
  exact wpAny_Return_some (thn (he pins s σ H _ I h) fun v s1 ⟨x, H1, I1, r1, q1⟩ => ⟨x, σ, H1, I1, r1, q1⟩)
def tIfS (c : TT) (t u : TS) : TS := fun D σ H => c σ H fun b H1 => if b = true then t D σ H1 else u D σ H1
theorem ps_if {c : Expr} {a b : List Stmt} {tc : TT} (hc : PT X c tc) (ha : PSs X a t) (hb : PSs X b u) : PS X (.If c a b pos) (tIfS tc t u) := by
  intro pins s σ H D I h
  refine wpAny_If (thn (hc pins s σ H _ I h) fun d s1 ⟨H1, I1, q1⟩ => ?_)
  cases d with
  | true => exact ha pins s1 σ H1 D I1 q1
  | false => exact hb pins s1 σ H1 D I1 q1
/-- code that the proof never comes to -/
def tNever : TS := fun _ _ _ => False
theorem ps_never : PS X st tNever := fun _ _ _ _ _ _ h => h.elim
end

/-! ### targets -/
abbrev TG := V → St → Hp → (St → Hp → Prop) → Prop
abbrev TGs := List V → St → Hp → (St → Hp → Prop) → Prop
def PG (X : Cx) (target : Expr) (t : TG) : Prop :=
  ∀ (pins : List (Addr × Obj)) (s : Shared) (σ : St) (H : Hp) (v : V) (u : Value) (Q : St → Hp → Prop), Inv X pins σ H s → RelV v u → t v σ H Q →
    wpAny (model X.prog X.w) X.A (assign target X.env u) (fun _ s' => ∃ σ' H', Inv X pins σ' H' s' ∧ Q σ' H') X.xe s
/-- several targets, one after another -/
def PGs (X : Cx) (ts : List Expr) (t : TGs) : Prop :=
  ∀ (pins : List (Addr × Obj)) (s : Shared) (σ : St) (H : Hp) (vs : List V) (us : List Value) (Q : St → Hp → Prop), Inv X pins σ H s → Vals vs us → t vs σ H Q →
    wpAny (model X.prog X.w) X.A (assignInOrder ((assignEach ts X.env).map (·.2)) us) (fun _ s' => ∃ σ' H', Inv X pins σ' H' s' ∧ Q σ' H') X.xe s
section
variable {X : Cx} {pos : Pos}
def gName (i : Nat) : TG := fun v σ H Q => Q (σ.set i (some v)) H
theorem pg_name {i : Nat} {x : Str} (hN : X.N.Nodup) (hi : X.N[i]? = some x) (hx : Loc X.env.scope x) (hf : X.fn x = true ∨ X.env.scope.names.lookup x = some .local := by first | exact .inl rfl | exact .inr rfl | assumption) : PG X (.Name x pos) (gName i) := by
  intro pins s σ H v u Q I r h
  exact wpAny_assign_Name (store_ok I hN hi hx r (fun s' I' => ⟨_, H, I', h⟩) hf)
def gNil : TGs := fun vs σ H Q => vs = [] ∧ Q σ H
def gCons (t : TG) (u : TGs) : TGs := fun vs σ H Q => ∃ v r, vs = v :: r ∧ t v σ H fun σ' H' => u r σ' H' Q
theorem pgs_nil : PGs X [] gNil := by
  intro pins s σ H vs us Q I r h
  obtain ⟨e, h⟩ := h
  subst e
  cases r
  exact assignInOrder_nil ⟨σ, H, I, h⟩
theorem pgs_cons {e : Expr} {es : List Expr} {t : TG} {u : TGs} (h1 : PG X e t) (h2 : PGs X es u)
    (hs : (assignEach (e :: es) X.env).map (·.2) = assign e X.env :: (assignEach es X.env).map (·.2) := by rfl) : PGs X (e :: es) (gCons t u) := by
  intro pins s σ H vs us Q I r h
  obtain ⟨v, vr, e1, h⟩ := h
  subst e1
  cases r with
  | cons r rr =>
    rw [hs]
    refine assignInOrder_cons (thn (h1 pins s σ H _ _ _ I r h) fun _ s1 ⟨σ1, H1, I1, q1⟩ => ?_)
    exact h2 pins s1 σ1 H1 _ _ Q I1 rr q1
/-- (a, b, ..) = a tuple of that length -/
def gTup (K : PySem.W.Frag) (n : Nat) (t : TGs) : TG := fun v σ H Q => ∃ a xs, v = .ref a ∧ SqT K H a xs ∧ xs.length = n ∧ t xs σ H Q
theorem pg_tup {es : List Expr} {k : Nat} {t : TGs} {n : Nat} (hc : X.calm = true) (h : PGs X es t)
    (hn : (assignEach es X.env).length = n := by rfl) (hst : (assignEach es X.env).findIdx? (·.1) = none := by rfl) : PG X (.Tuple es k pos) (gTup X.K n t) := by
  intro pins s σ H v u Q I r hw
  obtain ⟨a, xs, e1, hq, hl, hw⟩ := hw
  subst e1
  cases r
  obtain ⟨its, rv, ht, hz⟩ := I.tuple hq
  refine assign_Tuple_tuple (I.ok.hd hc) ht (by simp [hn, ← hl, rv.length]) hst fun h' hx => ?_
  have I1 : Inv X pins σ H { s with heap := h' } := I.kept (t' := s.toks) fun b o e => hx b o (Nat.ne_of_lt (Heap.lt_size e)) e
  exact h pins _ σ H xs _ Q I1 (by simpa using rv) hw
/-- target = value -/
def tAsg (te : TE) (g : TG) : TS := fun D σ H => te σ H fun x H1 => g x σ H1 D.nx
/-- name = value -/
theorem ps_set {i : Nat} {x : Str} {e : Expr} {te : TE} {pos' : Pos} (hN : X.N.Nodup) (hi : X.N[i]? = some x) (hx : Loc X.env.scope x) (he : PE X e te) (hs : swapsWith e (some (.Name x pos')) pos.line X.env = pure false := by rfl) (hf : X.fn x = true ∨ X.env.scope.names.lookup x = some .local := by first | exact .inl rfl | exact .inr rfl | assumption) :
    PS X (.Assign [.Name x pos'] e pos) (tAsg te (gName i)) := by
  intro pins s σ H D I h
  refine wpAny_Assign_Name (thn (he pins s σ H _ I h) fun v s1 ⟨y, H1, I1, r1, q1⟩ => ?_) hs
  exact store_ok I1 hN hi hx r1 (fun s2 I2 => ⟨_, H1, I2, q1⟩) hf
end

/-! ### while -/
section
variable {X : Cx} {pos : Pos}
end

/-! ### what a loop or a comprehension walks -/
/-- at turn i: it yields x (the heap may grow), or it stops -/
structure It where
  go : Nat → Hp → Prop
  yld : Nat → Hp → V → Hp → Prop
  stop : Nat → Hp → Prop
/-- the iterator's own objects may turn: they are not the frame's, not pinned, younger than the entry (or a comprehension's own) -/
def FpOk (X : Cx) (pins : List (Addr × Obj)) (H : Hp) (b : Addr) : Prop :=
  H b = none ∧ b ≠ X.env.locals ∧ b ∉ X.fs ∧ (b ∈ X.ex ∨ X.s₀.heap.objs.size ≤ b) ∧ (∀ x c, X.env.cells.lookup x = some c → c ≠ b) ∧ ∀ p ∈ X.pn ++ pins, p.1 ≠ b
theorem Inv.fpOk {X : Cx} {pins : List (Addr × Obj)} {σ : St} {H H' : Hp} {s : Shared} {b : Addr} (I : Inv X pins σ H s) (hb : s.heap.objs.size ≤ b) (hn : H' b = none) : FpOk X pins H' b := by
  refine ⟨hn, Nat.ne_of_gt (Nat.lt_of_lt_of_le I.lt hb), I.nofs hb, .inr (Nat.le_trans I.sz hb), fun x c e z => ?_, fun p hp z => ?_⟩
  · obtain ⟨v, q⟩ := I.cell x c e
    exact absurd (Nat.lt_of_lt_of_le q.lt (by rw [z]; exact hb)) (Nat.lt_irrefl _)
  · exact absurd (Nat.lt_of_lt_of_le (Heap.lt_size (I.pin p hp).1) (by rw [z]; exact hb)) (Nat.lt_irrefl _)
structure Turn (P : Program) (w : World) (K : PySem.W.Frag) (tg : Expr) (J : It) (fp : List Addr) (it : Addr) (tn : Nat → Heap → Prop) : Prop where
  mem : it ∈ fp
  obj : ∀ i h, tn i h → ∀ b ∈ fp, ∃ o, h.get? b = some o ∧ ∀ v, o.data ≠ .cell v
  keep : ∀ i h h', tn i h → (∀ b ∈ fp, ∀ o, h.get? b = some o → h'.get? b = some o) → tn i h'
  item : ∀ (X : Cx), X.prog = P → X.w = w → X.K = K → X.calm = true → ∀ (i : Nat) (pins : List (Addr × Obj)) (s : Shared) (σ : St) (H : Hp) (E : Value → Shared → Prop), Inv X pins σ H s → (∀ b ∈ fp, FpOk X pins H b) → tn i s.heap → J.go i H →
    wpAny (model P w) X.A (pyNext (.ref it)) (fun r s1 => ∃ u, r = some u ∧
      wpAny (model P w) X.A (letOwnedTupleGo tg (.ref it) u) (fun _ s2 => ∃ x H', Inv X pins σ H' s2 ∧ RelV x u ∧ J.yld i H x H' ∧ tn (i + 1) s2.heap ∧ ∀ b ∈ fp, H' b = none) E s1) E s
  done : ∀ (X : Cx), X.prog = P → X.w = w → X.K = K → X.calm = true → ∀ (i : Nat) (pins : List (Addr × Obj)) (s : Shared) (σ : St) (H : Hp) (E : Value → Shared → Prop), Inv X pins σ H s → (∀ b ∈ fp, FpOk X pins H b) → tn i s.heap → J.stop i H →
    wpAny (model P w) X.A (pyNext (.ref it)) (fun r s1 => r = none ∧ Inv X pins σ H s1) E s
  self : ∀ (A : Around) (i : Nat) (s : Shared) (Q : Value → Shared → Prop) (E : Value → Shared → Prop), tn i s.heap → Q (.ref it) s → wpAny (model P w) A (pyIter (.ref it)) Q E s
abbrev TI := St → Hp → (It → Hp → Prop) → Prop
/-- an iterator has come -/
def PIE (X : Cx) (pins : List (Addr × Obj)) (σ : St) (tg : Expr) (R : It → Hp → Prop) (itv : Value) (s2 : Shared) : Prop :=
  ∃ (it : Addr) (fp : List Addr) (tn : Nat → Heap → Prop) (J : It) (H' : Hp), itv = .ref it ∧ Inv X pins σ H' s2 ∧ Turn X.prog X.w X.K tg J fp it tn ∧ tn 0 s2.heap ∧ (∀ b ∈ fp, FpOk X pins H' b) ∧ R J H'
def PI (X : Cx) (tg iter : Expr) (wi : TI) : Prop :=
  ∀ (pins : List (Addr × Obj)) (s : Shared) (σ : St) (H : Hp) (R : It → Hp → Prop), Inv X pins σ H s → wi σ H R →
    wpAny (model X.prog X.w) X.A (eval iter X.env) (fun v s1 => wpAny (model X.prog X.w) X.A (pyIter v) (PIE X pins σ tg R) X.xe s1) X.xe s

/-- the step ahead of the store is nothing for an iterator that keeps no tuple -/
theorem go_of {M : Model} {A : Around} {E : Value → Shared → Prop} {s : Shared} {tg : Expr} {it : Addr} {u : Value} {o : Obj} {n : String} {vs : Array Value} {Q : Unit → Shared → Prop} (ho : s.heap.get? it = some o) (hc : o.cls = .type n) (hd : o.data = .fields vs)
    (hn : ["enumerate", "zip", "dict_itemiterator", "dict_reverseitemiterator", "odict_iterator", "itertools.zip_longest", "itertools.pairwise"].contains n = false) (hQ : Q () s) : wpAny M A (letOwnedTupleGo tg (.ref it) u) Q E s := by
  unfold letOwnedTupleGo
  cases tg <;> first
    | exact wpAny_pure hQ
    | (cases u <;> first
        | exact wpAny_pure hQ
        | (refine wpAny_bind (wpAny_load ho ?_)
           rw [hc, hd]
           show wpAny M A (if (["enumerate", "zip", "dict_itemiterator", "dict_reverseitemiterator", "odict_iterator", "itertools.zip_longest", "itertools.pairwise"].contains n && vs[0]? == some (rawInt _)) = true then _ else _) Q E s
           rw [if_neg (by intro h; rw [hn, Bool.false_and] at h; cases h)]
           exact wpAny_pure hQ))

/-- the list at a, as it stands at each turn (a loop may append to it) -/
def Itl (K : PySem.W.Frag) (a : Addr) : It :=
  ⟨fun i H => ∃ xs x, SqL K H a xs ∧ xs[i]? = some x, fun i H x H' => H' = H ∧ ∀ xs, SqL K H a xs → xs[i]? = some x, fun i H => ∃ xs, SqL K H a xs ∧ xs.length ≤ i⟩
def Itt (K : PySem.W.Frag) (a : Addr) : It :=
  ⟨fun i H => ∃ xs x, SqT K H a xs ∧ xs[i]? = some x, fun i H x H' => H' = H ∧ ∀ xs, SqT K H a xs → xs[i]? = some x, fun i H => ∃ xs, SqT K H a xs ∧ xs.length ≤ i⟩
/-- lo, lo + 1, .. (n of them) -/
def Itr (lo : Int) (n : Nat) : It := ⟨fun i _ => i < n, fun i H x H' => H' = H ∧ x = .int (lo + i), fun i _ => n ≤ i⟩
theorem turn_list {P : Program} {w : World} {K : PySem.W.Frag} {tg : Expr} (a it : Addr) : Turn P w K tg (Itl K a) [it] it (fun i h => h.IsListIter it a i) where
  mem := by simp
  obj := fun i h st b hb => by
    have e : b = it := by simpa using hb
    subst e
    obtain ⟨o, e, c, d⟩ := st
    exact ⟨o, e, fun v z => by rw [d] at z; cases z⟩
  keep := fun i h h' st k => st.at fun o e => k it (by simp) o e
  item := by
    intro X hP hw hK hc i pins s σ H E I hf st hg
    subst hP hw hK
    obtain ⟨xs, x, hq, hx⟩ := hg
    obtain ⟨its, rv, p, hz⟩ := I.list hq
    obtain ⟨u, hu, ru⟩ := rv.get hx
    obtain ⟨f0, f1, f2, f3, f4, f5⟩ := hf it (by simp)
    refine wpAny_pyNext_list_item st p.isList (x := u) (by simpa using hu) fun h' st' sb => ?_
    have I1 : Inv X pins σ H { s with heap := h' } := I.turned (t' := s.toks) (fun b o hb e => (sb.2 b hb).trans e) f0 f1 f3 f4 f5
    obtain ⟨o, e, c, d⟩ := id st'
    exact ⟨u, rfl, go_of (s := { s with heap := h' }) e c d (by decide) ⟨x, H, I1, ru, ⟨rfl, fun ys hy => by rw [I.list_inj hy hq]; exact hx⟩, st', fun b hb => (hf b hb).1⟩⟩
  done := by
    intro X hP hw hK hc i pins s σ H E I hf st hg
    subst hP hw hK
    obtain ⟨xs, hq, hx⟩ := hg
    obtain ⟨its, rv, p, hz⟩ := I.list hq
    obtain ⟨f0, f1, f2, f3, f4, f5⟩ := hf it (by simp)
    have hl := rv.length
    exact wpAny_pyNext_list_end (I.ok.hd hc) st p.isList (by simp; lia) fun h' eb => ⟨rfl, I.turned (t' := s.toks) (fun b o hb e => eb b o hb e) f0 f1 f3 f4 f5⟩
  self := fun _ _ _ _ _ st h => wpAny_pyIter_listiter st h
theorem turn_tuple {P : Program} {w : World} {K : PySem.W.Frag} {tg : Expr} (a it : Addr) : Turn P w K tg (Itt K a) [it] it (fun i h => h.IsTupleIter it a i) where
  mem := by simp
  obj := fun i h st b hb => by
    have e : b = it := by simpa using hb
    subst e
    obtain ⟨o, e, c, d⟩ := st
    exact ⟨o, e, fun v z => by rw [d] at z; cases z⟩
  keep := fun i h h' st k => st.at fun o e => k it (by simp) o e
  item := by
    intro X hP hw hK hc i pins s σ H E I hf st hg
    subst hP hw hK
    obtain ⟨xs, x, hq, hx⟩ := hg
    obtain ⟨its, rv, p, hz⟩ := I.tuple hq
    obtain ⟨u, hu, ru⟩ := rv.get hx
    obtain ⟨f0, f1, f2, f3, f4, f5⟩ := hf it (by simp)
    refine wpAny_pyNext_tuple_item st (show s.heap.IsTuple a its.toArray from p) (x := u) (by simpa using hu) fun h' st' sb => ?_
    have I1 : Inv X pins σ H { s with heap := h' } := I.turned (t' := s.toks) (fun b o hb e => (sb.2 b hb).trans e) f0 f1 f3 f4 f5
    obtain ⟨o, e, c, d⟩ := id st'
    exact ⟨u, rfl, go_of (s := { s with heap := h' }) e c d (by decide) ⟨x, H, I1, ru, ⟨rfl, fun ys hy => by rw [I.tuple_inj hy hq]; exact hx⟩, st', fun b hb => (hf b hb).1⟩⟩
  done := by
    intro X hP hw hK hc i pins s σ H E I hf st hg
    subst hP hw hK
    obtain ⟨xs, hq, hx⟩ := hg
    obtain ⟨its, rv, p, hz⟩ := I.tuple hq
    obtain ⟨f0, f1, f2, f3, f4, f5⟩ := hf it (by simp)
    have hl := rv.length
    exact wpAny_pyNext_tuple_end (I.ok.hd hc) st (show s.heap.IsTuple a its.toArray from p) (by simp; lia) fun h' eb => ⟨rfl, I.turned (t' := s.toks) (fun b o hb e => eb b o hb e) f0 f1 f3 f4 f5⟩
  self := fun _ _ _ _ _ st h => wpAny_pyIter_tupleiter st h
theorem turn_range {P : Program} {w : World} {K : PySem.W.Frag} {tg : Expr} (it : Addr) (lo : Int) (n : Nat) : Turn P w K tg (Itr lo n) [it] it (fun i h => IsRangeIter h it (lo + (i : Nat) * 1) ((n : Int) - (i : Nat)) 1) where
  mem := by simp
  obj := fun i h st b hb => by
    have e : b = it := by simpa using hb
    subst e
    exact ⟨_, st, fun v z => by
      have z' : Data.fields _ = Data.cell v := z
      cases z'⟩
  keep := fun i h h' st k => k it (by simp) _ st
  item := by
    intro X hP hw hK hc i pins s σ H E I hf st hg
    subst hP hw hK
    obtain ⟨f0, f1, f2, f3, f4, f5⟩ := hf it (by simp)
    have W := Walks.range (prog := X.prog) (w := X.w) (I.ok.hd hc) it lo 1 n
    refine W.item i s _ _ hg st fun v h' tk hv st' kk => ?_
    obtain ⟨t, rfl⟩ := hv
    have I1 : Inv X pins σ H { s with heap := h', toks := tk } := I.turned (fun b o hb e => kk b o (by simpa using hb) e) f0 f1 f3 f4 f5
    refine ⟨_, rfl, go_of (s := { s with heap := h', toks := tk }) (n := "range_iterator") st' rfl rfl (by decide) ⟨.int (lo + i), H, I1, ⟨t, ?_⟩, ⟨rfl, rfl⟩, st', fun b hb => (hf b hb).1⟩⟩
    rw [Int.mul_one]
  done := by
    intro X hP hw hK hc i pins s σ H E I hf st hg
    subst hP hw hK
    obtain ⟨f0, f1, f2, f3, f4, f5⟩ := hf it (by simp)
    exact wpAny_pyNext_range_end (I.ok.hd hc) st (by have : n ≤ i := hg; lia) fun h' eb => ⟨rfl, I.turned (t' := s.toks) (fun b o hb e => eb b o hb e) f0 f1 f3 f4 f5⟩
  self := fun _ _ _ _ _ st h => wpAny_pyIter_rangeiter st h
end L2

namespace L2
open PySem PySem.Spec PyProof.Rows
section
variable {X : Cx} {tg : Expr}
def iList (K : PySem.W.Frag) (tl : TE) : TI := fun σ H R => tl σ H fun x H1 => ∃ a, x = .ref a ∧ (∃ xs, SqL K H1 a xs) ∧ R (Itl K a) H1
def iTup (K : PySem.W.Frag) (tl : TE) : TI := fun σ H R => tl σ H fun x H1 => ∃ a, x = .ref a ∧ (∃ xs, SqT K H1 a xs) ∧ R (Itt K a) H1
theorem pi_list {l : Expr} {tl : TE} (hl : PE X l tl) : PI X tg l (iList X.K tl) := by
  intro pins s σ H R I h
  refine thn (hl pins s σ H _ I h) fun v s1 ⟨x, H1, I1, r1, q1⟩ => ?_
  obtain ⟨a, e, ⟨xs, hq⟩, q⟩ := q1
  subst e
  cases r1
  obtain ⟨its, rv, p, hz⟩ := I1.list hq
  refine wpAny_pyIter_list p.isList ?_
  refine ⟨s1.heap.objs.size, [s1.heap.objs.size], _, _, H1, rfl, I1.kept (t' := s1.toks) fun b o e => Heap.get?_push_of_some _ e, turn_list a _, ⟨_, Heap.get?_push_size _ rfl, rfl, rfl⟩, fun b hb => ?_, q⟩
  have e : b = s1.heap.objs.size := by simpa using hb
  subst e
  exact I1.fpOk (Nat.le_refl _) (I1.hok.fresh (Nat.le_refl _))
theorem pi_tup {l : Expr} {tl : TE} (hl : PE X l tl) : PI X tg l (iTup X.K tl) := by
  intro pins s σ H R I h
  refine thn (hl pins s σ H _ I h) fun v s1 ⟨x, H1, I1, r1, q1⟩ => ?_
  obtain ⟨a, e, ⟨xs, hq⟩, q⟩ := q1
  subst e
  cases r1
  obtain ⟨its, rv, p, hz⟩ := I1.tuple hq
  refine wpAny_pyIter_tuple (show s1.heap.IsTuple a its.toArray from p) ?_
  refine ⟨s1.heap.objs.size, [s1.heap.objs.size], _, _, H1, rfl, I1.kept (t' := s1.toks) fun b o e => Heap.get?_push_of_some _ e, turn_tuple a _, ⟨_, Heap.get?_push_size _ rfl, rfl, rfl⟩, fun b hb => ?_, q⟩
  have e : b = s1.heap.objs.size := by simpa using hb
  subst e
  exact I1.fpOk (Nat.le_refl _) (I1.hok.fresh (Nat.le_refl _))
/-- a range object just made, walked -/
theorem range_it {pins : List (Addr × Obj)} {σ : St} {H : Hp} {s : Shared} {R : It → Hp → Prop} {E : Value → Shared → Prop} {lo hi : Int} {t u v : Tok} {tk : Nat} (I : Inv X pins σ H s) (h1 : -(2 ^ 62) ≤ lo) (h2 : lo < 2 ^ 62) (h3 : -(2 ^ 62) ≤ hi) (h4 : hi < 2 ^ 62)
    (q : R (Itr lo (hi - lo).toNat) H) : wpAny (model X.prog X.w) X.A (pyIter (.ref s.heap.objs.size)) (PIE X pins σ tg R) E { s with heap := s.heap.push { cls := .type "range", data := .fields #[.int lo t, .int hi u, .int 1 v] }, toks := tk } := by
  refine wpAny_pyIter_range (IsRange.new ..) (small_one h1 h2 h3 h4) ?_
  have I1 : Inv X pins σ H { s with heap := s.heap.push { cls := .type "range", data := .fields #[.int lo t, .int hi u, .int 1 v] }, toks := tk } := I.kept fun b o e => Heap.get?_push_of_some _ e
  refine ⟨(s.heap.push { cls := .type "range", data := .fields #[.int lo t, .int hi u, .int 1 v] }).objs.size, [(s.heap.push { cls := .type "range", data := .fields #[.int lo t, .int hi u, .int 1 v] }).objs.size], _, _, H, rfl,
    I1.kept (t' := tk) fun b o e => Heap.get?_push_of_some _ e, turn_range _ lo (hi - lo).toNat, ?_, fun b hb => ?_, q⟩
  · have e1 : lo + ((0 : Nat) : Int) * 1 = lo := by simp
    have e2 : (((hi - lo).toNat : Nat) : Int) - ((0 : Nat) : Int) = Builtin.Range.rangeSize lo hi 1 := by rw [rangeSize_one]; split <;> lia
    show IsRangeIter _ _ (lo + ((0 : Nat) : Int) * 1) ((((hi - lo).toNat : Nat) : Int) - ((0 : Nat) : Int)) 1
    rw [e1, e2]
    exact Heap.get?_push_size _ rfl
  · have e : b = (s.heap.push { cls := .type "range", data := .fields #[.int lo t, .int hi u, .int 1 v] }).objs.size := by simpa using hb
    subst e
    exact I1.fpOk (Nat.le_refl _) (I1.hok.fresh (Nat.le_refl _))
def iRng1 (ta : TA) : TI := fun σ H R => ta σ H fun vs H1 => ∃ j : Int, vs = [.int j] ∧ -(2 ^ 62) ≤ j ∧ j < 2 ^ 62 ∧ R (Itr 0 j.toNat) H1
def iRng2 (ta : TA) : TI := fun σ H R => ta σ H fun vs H1 => ∃ i j : Int, vs = [.int i, .int j] ∧ (-(2 ^ 62) ≤ i ∧ i < 2 ^ 62 ∧ -(2 ^ 62) ≤ j ∧ j < 2 ^ 62) ∧ R (Itr i (j - i).toNat) H1
theorem pi_range1 {a : Expr} {ta : TA} {p pos : Pos} (hg : Gl X "range") (hm : X.mg "range" = none) (ha : PA X [a] ta) (hs : starEach [a] X.env = [(false, eval a X.env)] := by rfl) : PI X tg (.Call (.Name "range" p) [a] [] pos) (iRng1 ta) := by
  intro pins s σ H R I h
  refine Call_ (ld_blt I hg hm boot_range (PyProof.Rows.callWith_type1 (thn (ha pos pins s σ H _ I h) fun us s1 ⟨vs, H1, I1, r1, q1⟩ => ?_) hs rfl))
  obtain ⟨j, e, q1, q2, q⟩ := q1
  subst e
  cases r1 with
  | cons r rr =>
    cases rr
    obtain ⟨t, rfl⟩ := r
    exact call_range_1 (range_it I1 (by lia) (by lia) q1 q2 (by simpa using q))
theorem pi_range2 {a b : Expr} {ta : TA} {p pos : Pos} (hg : Gl X "range") (hm : X.mg "range" = none) (ha : PA X [a, b] ta) (hs : starEach [a, b] X.env = [(false, eval a X.env), (false, eval b X.env)] := by rfl) (hs2 : starEach [b] X.env = [(false, eval b X.env)] := by rfl) :
    PI X tg (.Call (.Name "range" p) [a, b] [] pos) (iRng2 ta) := by
  intro pins s σ H R I h
  refine Call_ (ld_blt I hg hm boot_range (PyProof.Rows.callWith_type1 (thn (ha pos pins s σ H _ I h) fun us s1 ⟨vs, H1, I1, r1, q1⟩ => ?_) (by rw [hs, hs2]) (by rw [hs2]; rfl)))
  obtain ⟨i, j, e, ⟨q1, q2, q3, q4⟩, q⟩ := q1
  subst e
  cases r1 with
  | cons r rr =>
    cases rr with
    | cons r' rr =>
      cases rr
      obtain ⟨t, rfl⟩ := r
      obtain ⟨t', rfl⟩ := r'
      exact call_range_2 (range_it I1 q1 q2 q3 q4 q)

/-! ### for -/
/-- W: the invariant by the turn and a measure; N: what the body is to reach -/
def tFor (wi : TI) (g : TG) (tb : TS) : TS := fun D σ H => wi σ H fun J H1 => ∃ W : Nat → Nat → St → Hp → Prop, (∃ m, W 0 m σ H1) ∧ ∀ i m σ H, W i m σ H →
  (J.stop i H ∧ D.nx σ H) ∨ (J.go i H ∧ ∃ N : St → Hp → Prop, (∀ σ' H', N σ' H' → ∃ m', m' < m ∧ W (i + 1) m' σ' H') ∧ ∀ x H', J.yld i H x H' → g x σ H' fun σ2 H2 => tb { D with nx := N, ct := N, bk := D.nx } σ2 H2)
/-- the records at fp as they stand -/
def pinsAt (fp : List Addr) (h : Heap) : List (Addr × Obj) := fp.filterMap fun b => (h.get? b).map fun o => (b, o)
theorem mem_pinsAt {fp : List Addr} {h : Heap} {b : Addr} {o : Obj} (hb : b ∈ fp) (e : h.get? b = some o) : (b, o) ∈ pinsAt fp h := List.mem_filterMap.mpr ⟨b, hb, by rw [e]; rfl⟩
theorem of_pinsAt {fp : List Addr} {h : Heap} {p : Addr × Obj} (hp : p ∈ pinsAt fp h) : p.1 ∈ fp ∧ h.get? p.1 = some p.2 := by
  obtain ⟨b, hb, e⟩ := List.mem_filterMap.mp hp
  cases q : h.get? b with
  | none => rw [q] at e; cases e
  | some o =>
    rw [q] at e
    have e' : (b, o) = p := Option.some.inj e
    subst e'
    exact ⟨hb, q⟩
theorem Inv.pinned {pins : List (Addr × Obj)} {σ : St} {H : Hp} {s : Shared} {fp : List Addr} (I : Inv X pins σ H s) (hf : ∀ b ∈ fp, FpOk X pins H b) (ho : ∀ b ∈ fp, ∃ o, s.heap.get? b = some o ∧ ∀ v, o.data ≠ .cell v) : Inv X (pins ++ pinsAt fp s.heap) σ H s :=
  I.pins_of fun p hp => (List.mem_append.mp hp).elim (fun z => I.pin p (List.mem_append_right _ z)) fun z => by
    obtain ⟨hb, e⟩ := of_pinsAt z
    obtain ⟨f0, f1, f2, _⟩ := hf p.1 hb
    obtain ⟨o, e', d⟩ := ho p.1 hb
    rw [e] at e'; cases e'
    exact ⟨e, f0, f1, f2, d⟩
theorem Inv.unpinned {pins pl : List (Addr × Obj)} {σ : St} {H : Hp} {s : Shared} (I : Inv X (pins ++ pl) σ H s) : Inv X pins σ H s := I.pins_of fun p hp => I.pin p (List.mem_append_right _ (List.mem_append_left _ hp))
theorem ps_for {iter : Expr} {body : List Stmt} {wi : TI} {g : TG} {tb : TS} {pos : Pos} (hp : PassesOwn (model X.prog X.w) X.A X.env X.xe) (hc : X.calm = true) (hi : PI X tg iter wi) (hg : PG X tg g) (hb : PSs X body tb)
    (hs : ∀ x, foldedSetIterable iter X.env x = pure x := by intro _; rfl) : PS X (.For tg iter body [] pos) (tFor wi g tb) := by
  intro pins s σ H D I h
  refine wpAny_For (thn (hi pins s σ H _ I h) fun v s1 h1 => thn h1 fun itv s2 h2 => ?_) hs
  obtain ⟨it, fp, tn, J, H2, e, I2, T, st2, f2, W, ⟨m0, w0⟩, turn⟩ := h2
  subst e
  -- what stays true of the iterator's objects through the loop
  have stat : ∀ {H' : Hp}, (∀ b ∈ fp, H' b = none) → ∀ b ∈ fp, FpOk X pins H' b := fun hn b hb => ⟨hn b hb, (f2 b hb).2⟩
  refine codeAny_forLoop_any (fun n s' => ∃ i σ' H', Inv X pins σ' H' s' ∧ tn i s'.heap ∧ (∀ b ∈ fp, H' b = none) ∧ W i n σ' H') ?_ m0 ⟨0, σ, H2, I2, st2, fun b hb => (f2 b hb).1, w0⟩
  rintro n s3 ⟨i, σ3, H3, I3, st3, fr3, w3⟩
  rcases turn i n σ3 H3 w3 with ⟨stop, qn⟩ | ⟨go, N, hN, step⟩
  · refine wpAny_passesOwn hp (thn (T.done X rfl rfl rfl hc i pins s3 σ3 H3 X.xe I3 (stat fr3) st3 stop) fun r s4 ⟨hr, I4⟩ => ?_)
    subst hr
    exact wpAny_execs_nil ⟨σ3, H3, I4, qn⟩
  · refine wpAny_passesOwn hp (thn (T.item X rfl rfl rfl hc i pins s3 σ3 H3 X.xe I3 (stat fr3) st3 go) fun r s4 ⟨u, hr, h4⟩ => ?_)
    subst hr
    refine wpAny_passesOwn hp (thn h4 fun _ s5 ⟨x, H5, I5, r5, y5, st5, fr5⟩ => ?_)
    have I5' := I5.pinned (stat fr5) (T.obj _ _ st5)
    refine wpAny_passesOwn hp (thn (hg _ s5 σ3 H5 x u _ I5' r5 (step x H5 y5)) fun _ s6 ⟨σ6, H6, I6, q6⟩ => ?_)
    refine wpAny_passesOwn hp (thn (hb _ s6 σ6 H6 _ I6 q6) fun f s7 q7 => ?_)
    have again : ∀ {σ7 : St} {H7 : Hp}, Inv X (pins ++ pinsAt fp s5.heap) σ7 H7 s7 → N σ7 H7 → ∃ m, m < n ∧ ∃ i σ' H', Inv X pins σ' H' s7 ∧ tn i s7.heap ∧ (∀ b ∈ fp, H' b = none) ∧ W i m σ' H' := fun {σ7 H7} I7 n7 => by
      obtain ⟨m', hm, w7⟩ := hN σ7 H7 n7
      refine ⟨m', hm, i + 1, σ7, H7, I7.unpinned, T.keep _ _ _ st5 fun b hb o e => (I7.pin (b, o) (List.mem_append_right _ (List.mem_append_right _ (mem_pinsAt hb e)))).1, fun b hb => ?_, w7⟩
      obtain ⟨o, e, d⟩ := T.obj _ _ st5 b hb
      exact (I7.pin (b, o) (List.mem_append_right _ (List.mem_append_right _ (mem_pinsAt hb e)))).2.1
    cases f with
    | next => obtain ⟨σ7, H7, I7, n7⟩ := q7; exact again I7 n7
    | cont => obtain ⟨σ7, H7, I7, n7⟩ := q7; exact again I7 n7
    | brk => obtain ⟨σ7, H7, I7, q7⟩ := q7; exact ⟨σ7, H7, I7.unpinned, q7⟩
    | ret v => obtain ⟨x7, σ7, H7, I7, r7, q7⟩ := q7; exact ⟨x7, σ7, H7, I7.unpinned, r7, q7⟩
end

/-! ### the forms one uses -/
/-- over a list that the body leaves as it is -/
theorem for_list {K : PySem.W.Frag} {a : Addr} {xs : List V} {g : TG} {tb : TS} {D : Ends} {σ : St} {H : Hp} (Pv : Nat → St → Hp → Prop) (h0 : Pv 0 σ H) (hl : ∀ i σ H, i ≤ xs.length → Pv i σ H → SqL K H a xs)
    (hs : ∀ i x σ H, xs[i]? = some x → Pv i σ H → g x σ H fun σ2 H2 => tb { D with nx := Pv (i + 1), ct := Pv (i + 1), bk := D.nx } σ2 H2) (hd : ∀ σ H, Pv xs.length σ H → D.nx σ H) :
    ∃ W : Nat → Nat → St → Hp → Prop, (∃ m, W 0 m σ H) ∧ ∀ i m σ H, W i m σ H →
      ((Itl K a).stop i H ∧ D.nx σ H) ∨ ((Itl K a).go i H ∧ ∃ N : St → Hp → Prop, (∀ σ' H', N σ' H' → ∃ m', m' < m ∧ W (i + 1) m' σ' H') ∧ ∀ x H', (Itl K a).yld i H x H' → g x σ H' fun σ2 H2 => tb { D with nx := N, ct := N, bk := D.nx } σ2 H2) := by
  refine ⟨fun i m σ H => m = xs.length - i ∧ i ≤ xs.length ∧ Pv i σ H, ⟨xs.length, by simp, Nat.zero_le _, h0⟩, ?_⟩
  rintro i m σ H ⟨rfl, hi, p⟩
  have q := hl i σ H hi p
  by_cases hlt : i < xs.length
  · refine .inr ⟨⟨xs, xs[i], q, by simp [hlt]⟩, Pv (i + 1), fun σ' H' p' => ⟨xs.length - (i + 1), by lia, rfl, hlt, p'⟩, fun x H' y => ?_⟩
    obtain ⟨e, y⟩ := y
    subst e
    exact hs i x σ _ (y xs q) p
  · have e : i = xs.length := by lia
    subst e
    exact .inl ⟨⟨xs, q, Nat.le_refl _⟩, hd σ H p⟩
theorem for_tup {K : PySem.W.Frag} {a : Addr} {xs : List V} {g : TG} {tb : TS} {D : Ends} {σ : St} {H : Hp} (Pv : Nat → St → Hp → Prop) (h0 : Pv 0 σ H) (hl : ∀ i σ H, i ≤ xs.length → Pv i σ H → SqT K H a xs)
    (hs : ∀ i x σ H, xs[i]? = some x → Pv i σ H → g x σ H fun σ2 H2 => tb { D with nx := Pv (i + 1), ct := Pv (i + 1), bk := D.nx } σ2 H2) (hd : ∀ σ H, Pv xs.length σ H → D.nx σ H) :
    ∃ W : Nat → Nat → St → Hp → Prop, (∃ m, W 0 m σ H) ∧ ∀ i m σ H, W i m σ H →
      ((Itt K a).stop i H ∧ D.nx σ H) ∨ ((Itt K a).go i H ∧ ∃ N : St → Hp → Prop, (∀ σ' H', N σ' H' → ∃ m', m' < m ∧ W (i + 1) m' σ' H') ∧ ∀ x H', (Itt K a).yld i H x H' → g x σ H' fun σ2 H2 => tb { D with nx := N, ct := N, bk := D.nx } σ2 H2) := by
  refine ⟨fun i m σ H => m = xs.length - i ∧ i ≤ xs.length ∧ Pv i σ H, ⟨xs.length, by simp, Nat.zero_le _, h0⟩, ?_⟩
  rintro i m σ H ⟨rfl, hi, p⟩
  have q := hl i σ H hi p
  by_cases hlt : i < xs.length
  · refine .inr ⟨⟨xs, xs[i], q, by simp [hlt]⟩, Pv (i + 1), fun σ' H' p' => ⟨xs.length - (i + 1), by lia, rfl, hlt, p'⟩, fun x H' y => ?_⟩
    obtain ⟨e, y⟩ := y
    subst e
    exact hs i x σ _ (y xs q) p
  · have e : i = xs.length := by lia
    subst e
    exact .inl ⟨⟨xs, q, Nat.le_refl _⟩, hd σ H p⟩
theorem for_range {lo : Int} {n : Nat} {g : TG} {tb : TS} {D : Ends} {σ : St} {H : Hp} (Pv : Nat → St → Hp → Prop) (h0 : Pv 0 σ H)
    (hs : ∀ i σ H, i < n → Pv i σ H → g (.int (lo + i)) σ H fun σ2 H2 => tb { D with nx := Pv (i + 1), ct := Pv (i + 1), bk := D.nx } σ2 H2) (hd : ∀ σ H, Pv n σ H → D.nx σ H) :
    ∃ W : Nat → Nat → St → Hp → Prop, (∃ m, W 0 m σ H) ∧ ∀ i m σ H, W i m σ H →
      ((Itr lo n).stop i H ∧ D.nx σ H) ∨ ((Itr lo n).go i H ∧ ∃ N : St → Hp → Prop, (∀ σ' H', N σ' H' → ∃ m', m' < m ∧ W (i + 1) m' σ' H') ∧ ∀ x H', (Itr lo n).yld i H x H' → g x σ H' fun σ2 H2 => tb { D with nx := N, ct := N, bk := D.nx } σ2 H2) := by
  refine ⟨fun i m σ H => m = n - i ∧ i ≤ n ∧ Pv i σ H, ⟨n, by simp, Nat.zero_le _, h0⟩, ?_⟩
  rintro i m σ H ⟨rfl, hi, p⟩
  by_cases hlt : i < n
  · refine .inr ⟨hlt, Pv (i + 1), fun σ' H' p' => ⟨n - (i + 1), by lia, rfl, hlt, p'⟩, fun x H' y => ?_⟩
    obtain ⟨e, y⟩ := y
    subst e y
    exact hs i σ _ hlt p
  · have e : i = n := by lia
    subst e
    exact .inl ⟨Nat.le_refl _, hd σ H p⟩
end L2

namespace L2
open PySem PySem.Spec PyProof.Rows

abbrev R2 := V → V → Hp → VK → Prop
/-- a two-place operation on values: f is binaryOp op, inplaceOp op or compareOp op -/
def OpR (X : Cx) (f : Value → Value → Sem Value) (r : R2) : Prop :=
  ∀ (pins : List (Addr × Obj)) (s : Shared) (σ : St) (H : Hp) (x y : V) (v u : Value) (Q : VK), Inv X pins σ H s → RelV x v → RelV y u → r x y H Q →
    wpAny (model X.prog X.w) X.A (f v u) (EP X pins σ Q) X.xe s
/-- a one-place operation -/
def UnR (X : Cx) (f : Value → Sem Value) (r : V → Hp → VK → Prop) : Prop :=
  ∀ (pins : List (Addr × Obj)) (s : Shared) (σ : St) (H : Hp) (x : V) (v : Value) (Q : VK), Inv X pins σ H s → RelV x v → r x H Q →
    wpAny (model X.prog X.w) X.A (f v) (EP X pins σ Q) X.xe s
/-- a call of a value that is known (a builtin, a type) with values -/
def CallR (X : Cx) (f : Value) (r : List V → Hp → VK → Prop) : Prop :=
  ∀ (pins : List (Addr × Obj)) (s : Shared) (σ : St) (H : Hp) (xs : List V) (us : List Value) (Q : VK), Inv X pins σ H s → Vals xs us → r xs H Q →
    wpAny (model X.prog X.w) X.A (call f us) (EP X pins σ Q) X.xe s
def tOp (r : R2) (ta tb : TE) : TE := fun σ H Q => ta σ H fun x H1 => tb σ H1 fun y H2 => r x y H2 Q
def tUn (r : V → Hp → VK → Prop) (ta : TE) : TE := fun σ H Q => ta σ H fun x H1 => r x H1 Q
/-- ints in, under C, and a value out -/
def rI (C : Int → Int → Prop) (g : Int → Int → V) : R2 := fun x y H Q => ∃ i j, x = .int i ∧ y = .int j ∧ C i j ∧ Q (g i j) H
def rI0 (g : Int → Int → V) : R2 := fun x y H Q => ∃ i j, x = .int i ∧ y = .int j ∧ Q (g i j) H
def rU (g : Int → V) : V → Hp → VK → Prop := fun x H Q => ∃ i, x = .int i ∧ Q (g i) H

section
variable {X : Cx} {a b c : Expr} {ta tb tc : TE} {pos : Pos}

theorem binT (ha : PE X a ta) (hb : PE X b tb) {pins : List (Addr × Obj)} {s : Shared} {σ : St} {H : Hp} {R : V → V → Hp → Prop} (I : Inv X pins σ H s)
    (h : ta σ H fun x H1 => tb σ H1 fun y H2 => R x y H2) {Q : Value → Shared → Prop} {f : Value → Value → Sem Value}
    (hf : ∀ v u s2 x y H2, Inv X pins σ H2 s2 → RelV x v → RelV y u → R x y H2 → wpAny (model X.prog X.w) X.A (f v u) Q X.xe s2) :
    wpAny (model X.prog X.w) X.A (eval a X.env) (fun v s₁ => wpAny (model X.prog X.w) X.A (eval b X.env) (fun u s₂ => wpAny (model X.prog X.w) X.A (f v u) Q X.xe s₂) X.xe s₁) X.xe s := by
  refine thn (ha pins s σ H _ I h) fun v s1 ⟨x, H1, I1, r1, q1⟩ => ?_
  refine thn (hb pins s1 σ H1 _ I1 q1) fun u s2 ⟨y, H2, I2, r2, q2⟩ => ?_
  exact hf v u s2 x y H2 I2 r1 r2 q2

theorem pe_op {op : Operator} {r : R2} (ho : OpR X (binaryOp op) r) (ha : PE X a ta) (hb : PE X b tb) : PE X (.BinOp a op b pos) (tOp r ta tb) := by
  intro pins s σ H Q I h
  exact wpAny_BinOp (binT ha hb I h fun v u s2 x y H2 I2 rx ry q => ho pins s2 σ H2 x y v u Q I2 rx ry q)
theorem pe_un {op : UnaryOp} {r : V → Hp → VK → Prop} (ho : UnR X (unaryOp op) r) (ha : PE X a ta) : PE X (.UnaryOp op a pos) (tUn r ta) := by
  intro pins s σ H Q I h
  exact UnaryOp_ (thn (ha pins s σ H _ I h) fun v s1 ⟨x, H1, I1, r1, q1⟩ => ho pins s1 σ H1 x v Q I1 r1 q1)
/-! ### ints -/
theorem opI {f : Value → Value → Sem Value} {C : Int → Int → Prop} {g : Int → Int → Int}
    (rule : ∀ (i j : Int) (t u : Tok) (s : Shared) (Q : Value → Shared → Prop) (E : Value → Shared → Prop), C i j → Q (.int (g i j) s.toks) { s with toks := s.toks + 1 } → wpAny (model X.prog X.w) X.A (f (.int i t) (.int j u)) Q E s) :
    OpR X f (rI C fun i j => .int (g i j)) := by
  intro pins s σ H x y v u Q I rx ry h
  obtain ⟨i, j, rfl, rfl, hc, q⟩ := h
  obtain ⟨t, rfl⟩ := rx
  obtain ⟨t', rfl⟩ := ry
  exact rule i j t t' s _ _ hc ⟨.int (g i j), H, I.tok _, ⟨_, rfl⟩, q⟩
theorem opI0 {f : Value → Value → Sem Value} {g : Int → Int → Int}
    (rule : ∀ (i j : Int) (t u : Tok) (s : Shared) (Q : Value → Shared → Prop) (E : Value → Shared → Prop), Q (.int (g i j) s.toks) { s with toks := s.toks + 1 } → wpAny (model X.prog X.w) X.A (f (.int i t) (.int j u)) Q E s) :
    OpR X f (rI0 fun i j => .int (g i j)) := by
  intro pins s σ H x y v u Q I rx ry h
  obtain ⟨i, j, rfl, rfl, q⟩ := h
  obtain ⟨t, rfl⟩ := rx
  obtain ⟨t', rfl⟩ := ry
  exact rule i j t t' s _ _ ⟨.int (g i j), H, I.tok _, ⟨_, rfl⟩, q⟩
theorem opB0 {f : Value → Value → Sem Value} {g : Int → Int → Bool}
    (rule : ∀ (i j : Int) (t u : Tok) (s : Shared) (Q : Value → Shared → Prop) (E : Value → Shared → Prop), Q (.bool (g i j)) s → wpAny (model X.prog X.w) X.A (f (.int i t) (.int j u)) Q E s) :
    OpR X f (rI0 fun i j => .bl (g i j)) := by
  intro pins s σ H x y v u Q I rx ry h
  obtain ⟨i, j, rfl, rfl, q⟩ := h
  obtain ⟨t, rfl⟩ := rx
  obtain ⟨t', rfl⟩ := ry
  exact rule i j t t' s _ _ ⟨.bl (g i j), H, I, rfl, q⟩

def CDiv (i j : Int) : Prop := 0 < j ∧ j < 1073741824
def CPow (i j : Int) : Prop := 0 ≤ j ∧ j ≤ 1000000 ∧ i.natAbs < 2 ^ 64
def CMul (i j : Int) : Prop := (-(2 ^ 64) < i ∧ i < 2 ^ 64) ∨ (-(2 ^ 64) < j ∧ j < 2 ^ 64)
theorem CMul.ok {i j : Int} (h : CMul i j) : IntMulOk i j := by
  rcases h with ⟨h1, h2⟩ | ⟨h1, h2⟩
  · exact .of_left (intBits_le_64 h1 h2)
  · exact .of_right (intBits_le_64 h1 h2)
theorem op_add : OpR X (binaryOp .Add) (rI0 fun i j => .int (i + j)) := opI0 fun _ _ _ _ _ _ _ q => add_int q
theorem op_mul : OpR X (binaryOp .Mult) (rI CMul fun i j => .int (i * j)) := opI fun _ _ _ _ _ _ _ hc q => mul_int q hc.ok
/-- // by a positive divisor -/
theorem op_fdiv : OpR X (binaryOp .FloorDiv) (rI CDiv fun i j => .int (i / j)) := opI fun i j _ _ _ _ _ hc q => by
  have h1 : (0 : Int) < j := hc.1
  have h2 : j < 1073741824 := hc.2
  exact floordiv_int (by lia) (by rw [Int.fdiv_eq_ediv_of_nonneg i (by lia)]; exact q) (.inl (PyProof.noPylong_small (by lia)))
/-- % by a positive divisor of any size -/
theorem op_mod : OpR X (binaryOp .Mod) (rI (fun _ j => 0 < j) fun i j => .int (i % j)) := opI fun i j _ _ _ _ _ hc q => by
  have h1 : (0 : Int) < j := hc
  exact mod_int' (by lia) (by rw [Int.fmod_eq_emod_of_nonneg i (by lia)]; exact q)
theorem op_pow : OpR X (binaryOp .Pow) (rI CPow fun i j => .int (i ^ j.toNat)) := opI fun _ _ _ _ _ _ _ hc q => pow_int_small hc.1 hc.2.1 hc.2.2 q
theorem unI {f : Value → Sem Value} {g : Int → Int}
    (rule : ∀ (i : Int) (t : Tok) (s : Shared) (Q : Value → Shared → Prop) (E : Value → Shared → Prop), Q (.int (g i) s.toks) { s with toks := s.toks + 1 } → wpAny (model X.prog X.w) X.A (f (.int i t)) Q E s) :
    UnR X f (rU fun i => .int (g i)) := by
  intro pins s σ H x v Q I rx h
  obtain ⟨i, rfl, q⟩ := h
  obtain ⟨t, rfl⟩ := rx
  exact rule i t s _ _ ⟨.int (g i), H, I.tok _, ⟨_, rfl⟩, q⟩
theorem un_neg : UnR X (unaryOp .USub) (rU fun i => .int (-i)) := unI fun _ _ _ _ _ q => neg_int q
/-! ### bools among ints: n += (a < b) -/
end

/-! ### comparisons -/
/-- the scalars that == tells apart as data does -/
def scal : V → V → Bool
  | .non, .non => true | .non, .int _ => true | .int _, .non => true | .non, .bl _ => true | .bl _, .non => true | .non, .str _ => true | .str _, .non => true
  | .int _, .int _ => true | .bl _, .bl _ => true | .str _, .str _ => true | .byt _, .byt _ => true
  | .int _, .str _ => true | .str _, .int _ => true | .bl _, .str _ => true | .str _, .bl _ => true
  | _, _ => false
def rEq : R2 := fun x y H Q => scal x y = true ∧ Q (.bl (decide (x = y))) H
def rNe : R2 := fun x y H Q => scal x y = true ∧ Q (.bl (!decide (x = y))) H

theorem dec_int {i j : Int} : decide (V.int i = V.int j) = (i == j) := by
  rw [Bool.eq_iff_iff]
  simp
theorem dec_bl {i j : Bool} : decide (V.bl i = V.bl j) = (i == j) := by
  rw [Bool.eq_iff_iff]
  simp
theorem dec_str {i j : Str} : decide (V.str i = V.str j) = (i == j) := by
  rw [Bool.eq_iff_iff]
  simp
theorem dec_byt {i j : Array UInt8} : decide (V.byt i = V.byt j) = (i.toList == j.toList) := by
  rw [Bool.eq_iff_iff]
  cases i
  cases j
  simp

section
variable {X : Cx} {a b c : Expr} {ta tb tc : TE} {pos : Pos}
theorem fin_bl {pins : List (Addr × Obj)} {σ : St} {H : Hp} {s : Shared} {Q : VK} {k k' : Bool} (I : Inv X pins σ H s) (q : Q (.bl k) H) (e : k = k') : EP X pins σ Q (.bool k') s := by
  subst e
  exact ⟨.bl k, H, I, rfl, q⟩
theorem op_eq : OpR X (compareOp .Eq) rEq := by
  intro pins s σ H x y v u Q I rx ry h
  obtain ⟨hs, q⟩ := h
  cases x with
  | non =>
    cases rx
    cases y with
    | non => cases ry; exact PySem.EqNone.eq_none_none (fin_bl I q (by simp))
    | bl j => cases ry; exact PySem.EqNone.eq_none_bool (fin_bl I q (by simp))
    | int j => obtain ⟨t', rfl⟩ := ry; exact PySem.EqNone.eq_none_int (fin_bl I q (by simp))
    | str j => obtain ⟨t', rfl⟩ := ry; exact PySem.EqNone.eq_none_str (fin_bl I q (by simp))
    | _ => exact absurd (show false = true from hs) Bool.false_ne_true
  | bl i =>
    cases rx
    cases y with
    | non => cases ry; exact PySem.EqNone.eq_bool_none (fin_bl I q (by simp))
    | bl j => cases ry; exact eq_bool (fin_bl I q dec_bl)
    | str j => obtain ⟨t', rfl⟩ := ry; exact PySem.EqMixed.eq_bool_str (fin_bl I q (by simp))
    | _ => exact absurd (show false = true from hs) Bool.false_ne_true
  | int i =>
    obtain ⟨t, rfl⟩ := rx
    cases y with
    | non => cases ry; exact PySem.EqNone.eq_int_none (fin_bl I q (by simp))
    | int j => obtain ⟨t', rfl⟩ := ry; exact eq_int (fin_bl I q dec_int)
    | str j => obtain ⟨t', rfl⟩ := ry; exact PySem.EqMixed.eq_int_str (fin_bl I q (by simp))
    | _ => exact absurd (show false = true from hs) Bool.false_ne_true
  | str i =>
    obtain ⟨t, rfl⟩ := rx
    cases y with
    | non => cases ry; exact PySem.EqNone.eq_str_none (fin_bl I q (by simp))
    | bl j => cases ry; exact PySem.EqMixed.eq_str_bool (fin_bl I q (by simp))
    | int j => obtain ⟨t', rfl⟩ := ry; exact PySem.EqMixed.eq_str_int (fin_bl I q (by simp))
    | str j => obtain ⟨t', rfl⟩ := ry; exact eq_str (fin_bl I q dec_str)
    | _ => exact absurd (show false = true from hs) Bool.false_ne_true
  | byt i =>
    obtain ⟨t, rfl⟩ := rx
    cases y with
    | byt j => obtain ⟨t', rfl⟩ := ry; exact PySem.W.eq_bytes (fin_bl I q dec_byt)
    | _ => exact absurd (show false = true from hs) Bool.false_ne_true
  | _ => cases y <;> exact absurd (show false = true from hs) Bool.false_ne_true
theorem op_ne : OpR X (compareOp .NotEq) rNe := by
  intro pins s σ H x y v u Q I rx ry h
  obtain ⟨hs, q⟩ := h
  cases x with
  | non =>
    cases rx
    cases y with
    | non => cases ry; exact PySem.EqNone.ne_none_none (fin_bl I q (by simp))
    | bl j => cases ry; exact PySem.EqNone.ne_none_bool (fin_bl I q (by simp))
    | int j => obtain ⟨t', rfl⟩ := ry; exact PySem.EqNone.ne_none_int (fin_bl I q (by simp))
    | str j => obtain ⟨t', rfl⟩ := ry; exact PySem.EqNone.ne_none_str (fin_bl I q (by simp))
    | _ => exact absurd (show false = true from hs) Bool.false_ne_true
  | bl i =>
    cases rx
    cases y with
    | non => cases ry; exact PySem.EqNone.ne_bool_none (fin_bl I q (by simp))
    | bl j => cases ry; exact ne_bool (fin_bl I q (congrArg not dec_bl))
    | str j => obtain ⟨t', rfl⟩ := ry; exact PySem.EqMixed.ne_bool_str (fin_bl I q (by simp))
    | _ => exact absurd (show false = true from hs) Bool.false_ne_true
  | int i =>
    obtain ⟨t, rfl⟩ := rx
    cases y with
    | non => cases ry; exact PySem.EqNone.ne_int_none (fin_bl I q (by simp))
    | int j => obtain ⟨t', rfl⟩ := ry; exact ne_int (fin_bl I q (congrArg not dec_int))
    | str j => obtain ⟨t', rfl⟩ := ry; exact PySem.EqMixed.ne_int_str (fin_bl I q (by simp))
    | _ => exact absurd (show false = true from hs) Bool.false_ne_true
  | str i =>
    obtain ⟨t, rfl⟩ := rx
    cases y with
    | non => cases ry; exact PySem.EqNone.ne_str_none (fin_bl I q (by simp))
    | bl j => cases ry; exact PySem.EqMixed.ne_str_bool (fin_bl I q (by simp))
    | int j => obtain ⟨t', rfl⟩ := ry; exact PySem.EqMixed.ne_str_int (fin_bl I q (by simp))
    | str j => obtain ⟨t', rfl⟩ := ry; exact ne_str (fin_bl I q (congrArg not dec_str))
    | _ => exact absurd (show false = true from hs) Bool.false_ne_true
  | byt i =>
    obtain ⟨t, rfl⟩ := rx
    cases y with
    | byt j => obtain ⟨t', rfl⟩ := ry; exact PySem.W.ne_bytes (fin_bl I q (congrArg not dec_byt))
    | _ => exact absurd (show false = true from hs) Bool.false_ne_true
  | _ => cases y <;> exact absurd (show false = true from hs) Bool.false_ne_true

theorem op_lt : OpR X (compareOp .Lt) (rI0 fun i j => .bl (decide (i < j))) := opB0 fun _ _ _ _ _ _ _ q => lt_int q
theorem op_le : OpR X (compareOp .LtE) (rI0 fun i j => .bl (decide (i ≤ j))) := opB0 fun _ _ _ _ _ _ _ q => le_int q
theorem op_gt : OpR X (compareOp .Gt) (rI0 fun i j => .bl (decide (j < i))) := opB0 fun _ _ _ _ _ _ _ q => gt_int q
/-- is None, is not None: the right side a value none -/
theorem op_isN : OpR X (compareOp .Is) (fun x y H Q => y = .non ∧ Q (.bl (decide (x = .non))) H) := by
  intro pins s σ H x y v u Q I rx ry h
  obtain ⟨rfl, q⟩ := h
  cases ry
  refine is_none_gen (fin_bl I q ?_)
  cases x <;> first
    | (cases rx; rfl)
    | (obtain ⟨t, rfl⟩ := rx; rfl)
theorem nomark (b : Expr) {op : CmpOp} (h : op ≠ .In := by decide) (h2 : op ≠ .NotIn := by decide) : behindInMarks op b = false := by
  have e1 : (op == CmpOp.In) = false := by cases op <;> first | rfl | exact absurd rfl h
  have e2 : (op == CmpOp.NotIn) = false := by cases op <;> first | rfl | exact absurd rfl h2
  cases b <;> simp [behindInMarks, e1, e2]
/-- a comparison as a value; hm: nomark b, or (for in, not in) by with_unfolding_all rfl -/
theorem pe_cmpR {op : CmpOp} {r : R2} (ho : OpR X (compareOp op) r) (ha : PE X a ta) (hb : PE X b tb) (hm : behindInMarks op b = false) : PE X (.Compare a [op] [b] pos) (tOp r ta tb) := by
  intro pins s σ H Q I h
  exact wpAny_Compare1 (binT ha hb I h fun v u s2 x y H2 I2 rx ry q => ho pins s2 σ H2 x y v u Q I2 rx ry q) hm
/-- a reading of a value as a test -/
def tTest (t : TE) : TT := fun σ H Q => t σ H fun x H' => ∃ k, x = .bl k ∧ Q k H'
theorem pt_cmpR {op : CmpOp} {r : R2} (ho : OpR X (compareOp op) r) (ha : PE X a ta) (hb : PE X b tb) (hm : behindInMarks op b = false) : PT X (.Compare a [op] [b] pos) (tTest (tOp r ta tb)) := by
  intro pins s σ H Q I h
  refine wpAny_isTrue_Compare1 (thn (ha pins s σ H _ I h) fun v s1 ⟨x, H1, I1, r1, q1⟩ => thn (hb pins s1 σ H1 _ I1 q1) fun u s2 ⟨y, H2, I2, r2, q2⟩ =>
    thn (ho pins s2 σ H2 x y v u _ I2 r1 r2 q2) fun c s3 ⟨z, H3, I3, r3, k, e, q3⟩ => ?_) hm
  subst e
  cases r3
  exact wpAny_truthy_bool ⟨H3, I3, q3⟩
/-- a op1 b op2 c -/
def tChain (r r' : R2) (ta tb tc : TE) : TE := fun σ H Q => ta σ H fun x H1 => tb σ H1 fun y H2 => r x y H2 fun z H3 => ∃ k, z = .bl k ∧
  (if k = true then tc σ H3 fun w' H4 => r' y w' H4 Q else Q (.bl false) H3)
theorem pe_chain {op op' : CmpOp} {r r' : R2} (ho : OpR X (compareOp op) r) (ho' : OpR X (compareOp op') r') (ha : PE X a ta) (hb : PE X b tb) (hc : PE X c tc)
    (hm : lastMarks [op, op'] [b, c] = false := by with_unfolding_all rfl) : PE X (.Compare a [op, op'] [b, c] pos) (tChain r r' ta tb tc) := by
  intro pins s σ H Q I h
  refine Compare_chain (thn (ha pins s σ H _ I h) fun v s1 ⟨x, H1, I1, r1, q1⟩ => chain_link (thn (hb pins s1 σ H1 _ I1 q1) fun u s2 ⟨y, H2, I2, r2, q2⟩ =>
    thn (ho pins s2 σ H2 x y v u _ I2 r1 r2 q2) fun d s3 ⟨z, H3, I3, r3, k, e, q3⟩ => ?_)) hm
  subst e
  cases r3
  refine wpAny_truthy_bool ?_
  cases k with
  | false => exact ite_ff ⟨.bl false, H3, I3, rfl, q3⟩
  | true => exact ite_tt (chain_last (thn (hc pins s3 σ H3 _ I3 q3) fun w' s4 ⟨z', H4, I4, r4, q4⟩ => ho' pins s4 σ H4 y z' u w' Q I4 r2 r4 q4))
theorem pt_chain {op op' : CmpOp} {r r' : R2} (ho : OpR X (compareOp op) r) (ho' : OpR X (compareOp op') r') (ha : PE X a ta) (hb : PE X b tb) (hc : PE X c tc)
    (hm : lastMarks [op, op'] [b, c] = false := by with_unfolding_all rfl) : PT X (.Compare a [op, op'] [b, c] pos) (tTest (tChain r r' ta tb tc)) := by
  intro pins s σ H Q I h
  refine isTrue_chain (thn (ha pins s σ H _ I h) fun v s1 ⟨x, H1, I1, r1, q1⟩ => test_link (thn (hb pins s1 σ H1 _ I1 q1) fun u s2 ⟨y, H2, I2, r2, q2⟩ =>
    thn (ho pins s2 σ H2 x y v u _ I2 r1 r2 q2) fun d s3 ⟨z, H3, I3, r3, k, e, q3⟩ => ?_)) hm
  subst e
  cases r3
  refine wpAny_truthy_bool ?_
  cases k with
  | false =>
    obtain ⟨k', e', q'⟩ := q3
    cases e'
    exact ite_ff ⟨H3, I3, q'⟩
  | true =>
    refine ite_tt (test_last (thn (hc pins s3 σ H3 _ I3 q3) fun w' s4 ⟨z', H4, I4, r4, q4⟩ => thn (ho' pins s4 σ H4 y z' u w' _ I4 r2 r4 q4) fun d' s5 ⟨z2, H5, I5, r5, k2, e2, q5⟩ => ?_))
    subst e2
    cases r5
    exact wpAny_truthy_bool ⟨H5, I5, q5⟩

/-! ### truth -/
theorem line63 : (sizeLine : Nat) < 2 ^ 63 := by rw [sizeLine_eq]; decide
/-! ### strs and bytes -/
/-! ### scalar builtins, by CallR -/
theorem vals1 {x : V} {us : List Value} (r : Vals [x] us) : ∃ u, us = [u] ∧ RelV x u := by
  cases r with
  | cons r1 r2 => cases r2; exact ⟨_, rfl, r1⟩
theorem vals2 {x y : V} {us : List Value} (r : Vals [x, y] us) : ∃ u w', us = [u, w'] ∧ RelV x u ∧ RelV y w' := by
  cases r with
  | cons r1 r2 =>
    cases r2 with
    | cons r3 r4 => cases r4; exact ⟨_, _, rfl, r1, r3⟩
theorem call_min2 (hc : X.calm = true) : CallR X (.builtin "min") (fun xs H Q => ∃ i j, xs = [.int i, .int j] ∧ Q (.int (if j < i then j else i)) H) := by
  intro pins s σ H xs us Q I r h
  obtain ⟨i, j, rfl, q⟩ := h
  obtain ⟨u, w', rfl, ⟨t, rfl⟩, ⟨t', rfl⟩⟩ := vals2 r
  refine min_two_ints (I.ok.hd hc) fun h' tk k => ⟨_, H, I.kept k, ?_, q⟩
  by_cases hj : j < i
  · rw [if_pos hj, if_pos hj]; exact ⟨_, rfl⟩
  · rw [if_neg hj, if_neg hj]; exact ⟨_, rfl⟩
end
end L2

namespace L2
open PySem PySem.Spec PyProof.Rows

/-! ### an instance, its attributes a map -/
structure ObjM (h : Heap) (x dx C : Addr) (mA : Str → Option Value) : Prop where
  obj : h.get? x = some (PySem.W.instObj C dx)
  ns : h.Ns1 dx mA
  ne : dx ≠ x

theorem lookIn_ns {h : Heap} {dx : Addr} {mA : Str → Option Value} (n : h.Ns1 dx mA) : ∃ od, h.get? dx = some od ∧ ∀ name, PySem.W.lookIn name od = some (mA name) := by
  obtain ⟨o, es, ep, ho, hd, hk, _, hm⟩ := n
  refine ⟨o, ho, fun name => ?_⟩
  have e := hm name
  unfold nsFind findBy at e
  rw [← Array.find?_toList] at e
  unfold PySem.W.lookIn
  rw [hd]
  dsimp only
  split
  · rename_i y q
    rw [q] at e
    exact congrArg some e
  · rename_i q
    rw [q] at e
    have a : es.toList.any (·.refKey) = false := by
      rw [List.any_eq_false]
      intro y hy
      obtain ⟨z, t, hkey⟩ := hk y (Array.mem_toList_iff.mp hy)
      simp [DictEntry.refKey, hkey]
    have a' : ¬ es.toList.any (·.refKey) = true := by rw [a]; exact Bool.false_ne_true
    rw [if_neg a']
    exact congrArg some e

theorem ObjM.look {h : Heap} {x dx C : Addr} {mA : Str → Option Value} (I : ObjM h x dx C mA) : ∃ od, PySem.W.InstAt h x (PySem.W.instObj C dx) C (some od) ∧ ∀ name, PySem.W.lookIn name od = some (mA name) :=
  let ⟨od, ho, hl⟩ := lookIn_ns I.ns
  ⟨od, ⟨I.obj, rfl, rfl, ho⟩, hl⟩

section
variable {prog : Program} {w : World} {A : Around} {E : Value → Shared → Prop} {s : Shared} {K : PySem.W.Frag} {x dx C f : Addr} {mA : Str → Option Value} {name : Str} {v : Value}

theorem get_map {expr : Bool} {Q : Value → Shared → Prop} (X : K.In s.heap) (I : ObjM s.heap x dx C mA) (hg : PySem.W.plainGet K C name = true) (hh : PySem.W.hasDictIn K C = true)
    (ha : PySem.W.findIn K (.ref C) name = some none) (hv : mA name = some v) (hv' : PySem.W.handedIn v = true) (h : Q v { s with toks := s.toks + 1 }) :
    wpAny (model prog w) A (getAttr (.ref x) name expr) Q E s := by
  obtain ⟨od, J, hl⟩ := I.look
  exact PySem.W.get_value X J (PySem.W.plainGet_of hg).1 (PySem.W.findObj_own hh ha rfl (by rw [hl, hv])) hv' h

theorem get_meth {pl : Sem Bool} {Q : Value × List Value → Shared → Prop} (X : K.In s.heap) (I : ObjM s.heap x dx C mA) (hg : PySem.W.plainGet K C name = true)
    (hf : PySem.W.findIn K (.ref C) name = some (some (.ref f))) (ht : PySem.W.isFn K (.ref f) = true) (hv : mA name = none) (h : Q (.ref f, [.ref x]) s) :
    wpAny (model prog w) A (getMethod (.ref x) name pl) Q E s := by
  obtain ⟨od, J, hl⟩ := I.look
  exact PySem.W.method_fn X J (PySem.W.plainGet_of hg).1 (PySem.W.plainGet_of hg).2 hf (beq_iff_eq.mp ht) (by show (PySem.W.lookIn name od).map (·.isSome) = some false; rw [hl, hv]; rfl) h

theorem set_map {ns : List Str} {Q : Unit → Shared → Prop} (X : K.In s.heap) (I : ObjM s.heap x dx C mA)
    (hs : PySem.W.findIn K (.ref C) "__setattr__" = some (some (.builtin "object.__setattr__"))) (hp : PySem.W.plainOver K C = true) (ht : PySem.W.takerIn K C name = some none) (hh : PySem.W.hasDictIn K C = true)
    (hw : PySem.Within mA ns) (hsz : ns.length ≤ sizeLine)
    (h : ∀ h', ObjM h' x dx C (fun y => if y = name then some v else mA y) → Heap.SameBut dx s.heap h' → Q () { s with heap := h', toks := s.toks + 2 }) :
    wpAny (model prog w) A (setAttr (.ref x) name v) Q E s := by
  obtain ⟨od, J, hl⟩ := I.look
  refine PySem.W.set_plain X J hs (PySem.W.osa_open (s := { s with toks := s.toks + 1 }) (r := none) X J hp ht fun b => ?_)
  obtain ⟨cd, hc, hd'⟩ := PySem.W.any_some hh
  have hx : s.heap.get? x = some ⟨.ref C, some dx, .plain, #[]⟩ := I.obj
  refine wpAny_bind (wpAny_pure (wpAny_bind (wpAny_bind (wpAny_loadPart hx (wpAny_bind (PySem.W.Looks.here (s := { s with toks := s.toks + 1 }) (PySem.W.looks_clsIn X hc) ?_))))))
  rw [hd']
  refine wpAny_pure (a := some dx) (wpAny_bind (wpAny_pure (wpAny_bind ?_)))
  refine wpAny_nsSet1 (s := { s with toks := s.toks + 1 }) I.ns fun h' hn2 hs2 => ?_
  obtain ⟨oD, esD, epD, hoD, hdD, hcD⟩ := hn2.count (PySem.Within.cons name v hw)
  refine wpAny_bind (wpAny_lookBehind hoD (by rw [hdD]; exact pastItsLine_dict (Nat.le_trans hcD (by rw [List.length_cons]; lia))) ?_)
  exact wpAny_pure (h _ ⟨(hs2.2 _ (Ne.symm I.ne)).trans I.obj, hn2, I.ne⟩ hs2)

/-- C(..): the dict at the heap's end, the instance behind it; then its __init__ -/
theorem make_map {R : Result → Shared → Prop} {vs : List Value} {kw : List (Str × Value)} (X : K.In s.heap) (hm : PySem.W.makesIn K C = true)
    (hi : PySem.W.findIn K (.ref C) "__init__" = some (some (.ref f))) (hf : PySem.W.typeIn K (.ref f) = some (.type "function"))
    (h : codeAny (model prog w) (A.under (.builtin "type.__call__" ⟨.ref C :: vs, kw⟩)) (.call (.ref f) ⟨.ref (s.heap.objs.size + 1) :: vs, kw⟩) (PySem.W.InitBack (s.heap.objs.size + 1) R)
      { s with heap := (s.heap.push PySem.W.emptyDict).push (PySem.W.instObj C s.heap.objs.size) }) :
    codeAny (model prog w) A (.call (.ref C) ⟨vs, kw⟩) R s := by
  obtain ⟨hh, g, d, t, os⟩ := s
  exact PySem.W.make_core (PySem.W.makes_of X hm) (PySem.W.looks_findIn X hi) (fun self => PySem.W.bind_fn X self hf) (.inl rfl) h
end

/-! ### the attributes as a list of pairs -/
def putF (f : Str) (v : V) : List (Str × V) → List (Str × V)
  | [] => [(f, v)]
  | (g, x) :: r => if g = f then (g, v) :: r else (g, x) :: putF f v r
theorem lookup_putF (f g : Str) (v : V) : ∀ fs : List (Str × V), (putF f v fs).lookup g = if g = f then some v else fs.lookup g
  | [] => by
    show List.lookup g [(f, v)] = _
    by_cases h : g = f
    · have hb : (g == f) = true := beq_iff_eq.mpr h
      simp only [List.lookup, hb, if_pos h]
    · have hb : (g == f) = false := beq_eq_false_iff_ne.mpr h
      simp only [List.lookup, hb, if_neg h]
  | (k, x) :: r => by
    have ih := lookup_putF f g v r
    rw [show putF f v ((k, x) :: r) = (if k = f then (k, v) :: r else (k, x) :: putF f v r) from rfl]
    by_cases hk : k = f
    · rw [if_pos hk]
      by_cases h : g = k
      · have hb : (g == k) = true := beq_iff_eq.mpr h
        simp only [List.lookup, hb, if_pos (h.trans hk)]
      · have hb : (g == k) = false := beq_eq_false_iff_ne.mpr h
        simp only [List.lookup, hb, if_neg (fun e : g = f => h (e.trans hk.symm))]
    · rw [if_neg hk]
      by_cases h : g = k
      · have hb : (g == k) = true := beq_iff_eq.mpr h
        simp only [List.lookup, hb, if_neg (fun e : g = f => hk (h.symm.trans e))]
      · have hb : (g == k) = false := beq_eq_false_iff_ne.mpr h
        simp only [List.lookup, hb]
        exact ih
theorem keys_putF (f : Str) (v : V) : ∀ fs : List (Str × V), f ∈ (putF f v fs).map (·.1) ∧ ∀ g, g ∈ fs.map (·.1) → g ∈ (putF f v fs).map (·.1)
  | [] => ⟨by simp [putF], fun g h => by simp at h⟩
  | (k, x) :: r => by
    obtain ⟨i1, i2⟩ := keys_putF f v r
    rw [show putF f v ((k, x) :: r) = (if k = f then (k, v) :: r else (k, x) :: putF f v r) from rfl]
    by_cases hk : k = f
    · rw [if_pos hk]
      subst hk
      exact ⟨by simp, fun g h => by simpa using h⟩
    · rw [if_neg hk]
      refine ⟨?_, fun g h => ?_⟩
      · rw [List.map_cons]
        exact List.mem_cons_of_mem _ i1
      · rw [List.map_cons] at h ⊢
        rcases List.mem_cons.mp h with e | e
        · exact List.mem_cons.mpr (.inl e)
        · exact List.mem_cons_of_mem _ (i2 g e)
theorem length_putF (f : Str) (v : V) : ∀ fs : List (Str × V), (putF f v fs).length ≤ fs.length + 1
  | [] => by simp [putF]
  | (k, x) :: r => by
    have ih := length_putF f v r
    rw [show putF f v ((k, x) :: r) = (if k = f then (k, v) :: r else (k, x) :: putF f v r) from rfl]
    by_cases hk : k = f
    · rw [if_pos hk, List.length_cons, List.length_cons]; lia
    · rw [if_neg hk, List.length_cons, List.length_cons]; lia

theorem RelO.some_of {v : V} {o : Option Value} (r : RelO (some v) o) : ∃ u, o = some u ∧ RelV v u := by
  cases o with
  | none => exact (show False from r).elim
  | some u => exact ⟨u, rfl, r⟩
theorem RelO.none_of {o : Option Value} (r : RelO none o) : o = none := by
  cases o with
  | none => rfl
  | some u => exact (show False from r).elim
theorem handed_of {v : V} {u : Value} (r : RelV v u) : PySem.W.handedIn u = true := by
  cases v with
  | non => cases (show u = Value.none from r); rfl
  | bl b => cases (show u = Value.bool b from r); rfl
  | int i => obtain ⟨t, e⟩ := (show ∃ t, u = Value.int i t from r); cases e; rfl
  | str x => obtain ⟨t, e⟩ := (show ∃ t, u = Value.str x t from r); cases e; rfl
  | byt b => obtain ⟨t, e⟩ := (show ∃ t, u = Value.bytes b t from r); cases e; rfl
  | flt b => obtain ⟨t, e⟩ := (show ∃ t, u = Value.float b t from r); cases e; rfl
  | ref a => cases (show u = Value.ref a from r); rfl
  | ty n => cases (show u = Value.type n from r); rfl

section
variable {P : Program} {w : World} {H H' : Hp} {h h' : Heap} {a C dx : Addr} {fs fs' : List (Str × V)}
theorem ins_get (hok : HOk P w H h) (e : H a = some (.ins C dx fs)) : ∃ mA, ObjM h a dx C mA ∧ (∀ f, RelO (fs.lookup f) (mA f)) ∧ PySem.Within mA (fs.map (·.1)) ∧ fs.length ≤ 1000 ∧ H dx = some (.own a) := by
  obtain ⟨d, z, ne, ob, mA, n, r, q⟩ := (show ObjOk P w H h a (.ins C dx fs) from hok a _ e)
  exact ⟨mA, ⟨ob, n, ne⟩, r, q, z, d⟩
end

/-! ### what of the text a class must have -/
structure Cls (K : PySem.W.Frag) (C : Addr) : Prop where
  pg : PySem.W.plainGet K C Str.empty = true
  hd : PySem.W.hasDictIn K C = true
  po : PySem.W.plainOver K C = true
  sa : PySem.W.findIn K (.ref C) "__setattr__" = some (some (.builtin "object.__setattr__"))
theorem Cls.get {K : PySem.W.Frag} {C : Addr} (c : Cls K C) (f : Str) : PySem.W.plainGet K C f = true := c.pg
/-- no class of it has the name -/
def NoAttr (K : PySem.W.Frag) (C : Addr) (f : Str) : Prop := PySem.W.findIn K (.ref C) f = some none
theorem NoAttr.taker {K : PySem.W.Frag} {C : Addr} {f : Str} (n : NoAttr K C f) : PySem.W.takerIn K C f = some none := by
  unfold PySem.W.takerIn
  rw [show PySem.W.findIn K (.ref C) f = some none from n]
  rfl
/-- a method: a plain def of the class or of one above it -/
structure Meth (K : PySem.W.Frag) (C : Addr) (m : Str) (f : Addr) : Prop where
  at_ : PySem.W.findIn K (.ref C) m = some (some (.ref f))
  fn : PySem.W.isFn K (.ref f) = true
  kp : PySem.W.keepIn K (.ref f) = true

section
variable {X : Cx} {pins : List (Addr × Obj)} {σ : St} {H : Hp} {s : Shared} {a C dx : Addr} {fs : List (Str × V)} {f : Str} {v : V} {A : Around} {E : Value → Shared → Prop}

theorem getattr_ok {b : Bool} {Q : Value → Shared → Prop} (I : Inv X pins σ H s) (e : H a = some (.ins C dx fs)) (c : Cls X.K C) (n : NoAttr X.K C f) (l : fs.lookup f = some v)
    (h : ∀ u s', Inv X pins σ H s' → RelV v u → Q u s') : wpAny (model X.prog X.w) A (getAttr (.ref a) f b) Q E s := by
  obtain ⟨mA, O, r, _, _, _⟩ := ins_get I.hok e
  obtain ⟨u, hu, ru⟩ := RelO.some_of (v := v) (o := mA f) (by rw [← l]; exact r f)
  exact get_map I.kIn O (c.get f) c.hd n hu (handed_of ru) (h u _ (I.tok _) ru)

theorem getmeth_ok {m : Str} {g : Addr} {pl : Sem Bool} {Q : Value × List Value → Shared → Prop} (I : Inv X pins σ H s) (e : H a = some (.ins C dx fs)) (c : Cls X.K C) (k : Meth X.K C m g) (l : fs.lookup m = none)
    (h : Q (.ref g, [.ref a]) s) : wpAny (model X.prog X.w) A (getMethod (.ref a) m pl) Q E s := by
  obtain ⟨mA, O, r, _, _, _⟩ := ins_get I.hok e
  have hn : mA m = none := RelO.none_of (by rw [← l]; exact r m)
  exact get_meth I.kIn O (c.get m) k.at_ k.fn hn h

theorem setattr_ok {y : V} {u : Value} {Q : Unit → Shared → Prop} (I : Inv X pins σ H s) (e : H a = some (.ins C dx fs)) (c : Cls X.K C) (n : NoAttr X.K C f) (hl : fs.length < 1000) (ry : RelV y u)
    (h : ∀ s', Inv X pins σ (upd H a (.ins C dx (putF f y fs))) s' → Q () s') : wpAny (model X.prog X.w) A (setAttr (.ref a) f u) Q E s := by
  obtain ⟨mA, O, r, wi, _, ho⟩ := ins_get I.hok e
  have hz : (fs.map (·.1)).length ≤ sizeLine := by rw [List.length_map, sizeLine_eq]; lia
  refine set_map I.kIn O c.sa c.po n.taker c.hd wi hz fun h' O' sb => h _ ?_
  have hd : ∃ o, h'.get? dx = some o := let ⟨o, _, _, e', _⟩ := O'.ns; ⟨o, e'⟩
  refine I.write (x := a) (e := dx) (by rw [e]; exact True.intro) (.inr ho) (fun b q hb z => (sb.2 b hb).trans z) hd ?_
  refine ⟨by rw [upd_ne O.ne]; exact ho, ?_, O.ne, O'.obj, _, O'.ns, fun g => ?_, fun g hg => ?_⟩
  · have := length_putF f y fs; lia
  · show RelO ((putF f y fs).lookup g) (if g = f then some u else mA g)
    rw [lookup_putF]
    by_cases q : g = f
    · rw [if_pos q, if_pos q]; exact ry
    · rw [if_neg q, if_neg q]; exact r g
  · by_cases q : g = f
    · rw [q]; exact (keys_putF f y fs).1
    · refine (keys_putF f y fs).2 g (wi g fun z => hg ?_)
      show (if g = f then some u else mA g) = none
      rw [if_neg q]; exact z

/-- a new instance, tracked, without attributes -/
theorem Inv.made (I : Inv X pins σ H s) : Inv X pins σ (upd (upd H s.heap.objs.size (.own (s.heap.objs.size + 1))) (s.heap.objs.size + 1) (.ins C s.heap.objs.size []))
    { s with heap := (s.heap.push PySem.W.emptyDict).push (PySem.W.instObj C s.heap.objs.size) } := by
  have e1 : (s.heap.push PySem.W.emptyDict).get? s.heap.objs.size = some PySem.W.emptyDict := Heap.get?_push_size s.heap rfl
  have e2 : ((s.heap.push PySem.W.emptyDict).push (PySem.W.instObj C s.heap.objs.size)).get? (s.heap.objs.size + 1) = some (PySem.W.instObj C s.heap.objs.size) := by
    have := Heap.get?_push_size (s.heap.push PySem.W.emptyDict) (o := PySem.W.instObj C s.heap.objs.size) rfl
    rwa [Heap.size_push] at this
  have e3 : (s.heap.push PySem.W.emptyDict).Ns s.heap.objs.size (fun _ => none) := ⟨PySem.W.emptyDict, #[], _, e1, rfl, (fun e he => absurd he (by simp)), fun _ => rfl⟩
  have I1 := I.laid (a := s.heap.objs.size) (o := .own (s.heap.objs.size + 1)) (h' := s.heap.push PySem.W.emptyDict) (t' := s.toks) (fun b u q => Heap.get?_push_of_some _ q) (Nat.le_refl _) ⟨_, e1⟩
  refine I1.laid (a := s.heap.objs.size + 1) (o := .ins C s.heap.objs.size []) (t' := s.toks) (fun b u q => Heap.get?_push_of_some _ q) (Nat.le_of_eq (Heap.size_push _ _)) ?_
  have ne : s.heap.objs.size ≠ s.heap.objs.size + 1 := Nat.ne_of_lt (Nat.lt_succ_self _)
  refine ⟨by rw [upd_ne ne, upd_same], Nat.zero_le _, ne, e2, fun _ => none, (Heap.Ns1.of_empty e3).at fun o q => Heap.get?_push_of_some _ q, fun _ => True.intro, fun y hy => absurd rfl hy⟩

/-- e.f where nothing but the object is asked: through attributeBase (super) and the last hold -/
theorem attr_of {prog : Program} {w : World} {env : Env} {e : Expr} {f : Str} {pos : Pos} {s : Shared} {Q : Value → Shared → Prop} (hb : attributeBase e f env (eval e env) = eval e env)
    (h : wpAny (model prog w) A (eval e env) (fun o s₁ => wpAny (model prog w) A (getAttr o f true) Q E s₁) E s) : wpAny (model prog w) A (eval (.Attribute e f pos) env) Q E s :=
  Attribute_any_ h (by rw [arm_eval_Attribute, hb])
end

/-! ### readings and rules -/
/-- e.f, an attribute of the instance -/
def tFld (K : PySem.W.Frag) (ta : TE) (f : Str) : TE := fun σ H Q => ta σ H fun x H1 => ∃ a C dx fs v, x = .ref a ∧ H1 a = some (.ins C dx fs) ∧ Cls K C ∧ NoAttr K C f ∧ fs.lookup f = some v ∧ Q v H1
/-- e.f = value -/
def sFld (K : PySem.W.Frag) (ta tv : TE) (f : Str) : TS := fun D σ H => tv σ H fun y H1 => ta σ H1 fun x H2 => ∃ a C dx fs, x = .ref a ∧ H2 a = some (.ins C dx fs) ∧ Cls K C ∧ NoAttr K C f ∧ fs.length < 1000 ∧
  D.nx σ (upd H2 a (.ins C dx (putF f y fs)))
section
variable {X : Cx} {o e value : Expr} {f : Str} {pos pos' tpos : Pos} {ta tv : TE}
theorem pe_fld (he : PE X e ta) (hb : attributeBase e f X.env (eval e X.env) = eval e X.env) : PE X (.Attribute e f pos) (tFld X.K ta f) := by
  intro pins s σ H Q I h
  refine attr_of hb (thn (he pins s σ H _ I h) fun u s1 ⟨x, H1, I1, rx, a, C, dx, fs, v, ex, ea, c, n, l, q⟩ => ?_)
  subst ex
  obtain rfl : u = Value.ref a := rx
  exact getattr_ok I1 ea c n l fun u' s2 I2 ru => ⟨v, H1, I2, ru, q⟩
theorem ps_fld (ha : PE X o ta) (hv : PE X value tv) (hs : swapsWith value (some (.Attribute o f pos')) pos.line X.env = pure false) : PS X (.Assign [.Attribute o f pos'] value pos) (sFld X.K ta tv f) := by
  intro pins s σ H D I h
  refine plainObj_wpAny_Assign_Attribute (thn (hv pins s σ H _ I h) fun u s1 ⟨y, H1, I1, ry, q⟩ => thn (ha pins s1 σ H1 _ I1 q) fun ov s2 ⟨x, H2, I2, rx, a, C, dx, fs, ex, ea, c, n, l, q2⟩ => ?_) hs
  subst ex
  obtain rfl : ov = Value.ref a := rx
  exact setattr_ok I2 ea c n l ry fun s3 I3 => ⟨σ, _, I3, q2⟩
end

/-! ### isinstance -/
section
variable {X : Cx} {pins : List (Addr × Obj)} {σ : St} {H : Hp} {s : Shared} {A : Around} {E : Value → Shared → Prop} {Q : Value → Shared → Prop} {c : Value} {b : Bool}
/-- the type of a value, as the fragment's deciders take it; for an instance its class -/
inductive TyOf (K : PySem.W.Frag) (H : Hp) : V → Value → Prop where
  | non : TyOf K H .non (.type "NoneType")
  | bl (x : Bool) : TyOf K H (.bl x) (.type "bool")
  | int (i : Int) : TyOf K H (.int i) (.type "int")
  | str (x : Str) : TyOf K H (.str x) (.type "str")
  | flt (x : UInt64) : TyOf K H (.flt x) (.type "float")
  | lst {a : Addr} {xs : List V} (e : H a = some (.lst xs)) : TyOf K H (.ref a) (.type "list")
  | frz {a : Addr} {o : Obj} {xs : List V} (e : H a = some (.frz o (.lst xs))) : TyOf K H (.ref a) (.type "list")
  | tup {a : Addr} {xs : List V} (e : H a = some (.tup xs)) : TyOf K H (.ref a) (.type "tuple")
  | dK {a : Addr} {kvs : List (Key × V)} (e : H a = some (.dK kvs)) : TyOf K H (.ref a) (.type "dict")
  | dT {a : Addr} {kvs : List (List Key × V)} (e : H a = some (.dT kvs)) : TyOf K H (.ref a) (.type "dict")
  | ins {a C dx : Addr} {fs : List (Str × V)} (e : H a = some (.ins C dx fs)) (cl : Cls K C) (ha : PySem.W.findIn K (.ref C) "__class__" = some (some (.builtin "object.__class__")))
      (hn : PySem.W.specialIn K (.builtin "object.__class__") "__get__" = some (some (.builtin "getset_descriptor.__get__"))) (htk : PySem.W.takesIn K (.builtin "object.__class__") = some true)
      (hm : PySem.W.mroIn K C (.type "object") = some true) : TyOf K H (.ref a) (.ref C)
/-- isinstance(x, c) for one class c, a built-in or an own one: kitOne's answer -/
theorem isinst_ok {x : V} {u t : Value} (I : Inv X pins σ H s) (rx : RelV x u) (ty : TyOf X.K H x t) (e : PySem.W.kitOne X.K t c = some b) (h : ∀ tk, Q (.bool b) { s with toks := tk }) :
    wpAny (model X.prog X.w) A (call (.builtin "isinstance") [u, c]) Q E s := by
  cases ty with
  | non => cases (show u = Value.none from rx); exact PySem.W.kia_one PySem.W.kitx_none I.kIn True.intro e (fun z => nomatch z) h
  | bl y => cases (show u = Value.bool y from rx); exact PySem.W.kia_one PySem.W.kitx_bool I.kIn True.intro e (fun z => nomatch z) h
  | int i => obtain ⟨t, q⟩ := (show ∃ t, u = Value.int i t from rx); cases q; exact PySem.W.kia_one PySem.W.kitx_int I.kIn True.intro e (fun z => nomatch z) h
  | str y => obtain ⟨t, q⟩ := (show ∃ t, u = Value.str y t from rx); cases q; exact PySem.W.kia_one PySem.W.kitx_str I.kIn True.intro e (fun z => nomatch z) h
  | flt y => obtain ⟨t, q⟩ := (show ∃ t, u = Value.float y t from rx); cases q; exact PySem.W.kia_one PySem.W.kitx_float I.kIn True.intro e (fun z => nomatch z) h
  | @lst a xs ea =>
    cases (show u = Value.ref a from rx)
    obtain ⟨_, _, n, _, h1⟩ := (show ObjOk X.prog X.w H s.heap a (.lst xs) from I.hok a _ ea)
    exact PySem.W.kia_one PySem.W.kitx_list I.kIn ⟨_, h1, rfl⟩ e (fun z => nomatch z) h
  | @frz a ob xs ea =>
    cases (show u = Value.ref a from rx)
    obtain ⟨_, _, _, n, _, h1⟩ := (show ObjOk X.prog X.w H s.heap a (.frz ob (.lst xs)) from I.hok a _ ea)
    exact PySem.W.kia_one PySem.W.kitx_list I.kIn ⟨_, h1, rfl⟩ e (fun z => nomatch z) h
  | @tup a xs ea =>
    cases (show u = Value.ref a from rx)
    obtain ⟨_, _, _, p⟩ := (show ObjOk X.prog X.w H s.heap a (.tup xs) from I.hok a _ ea)
    obtain ⟨o, h1, h2, _⟩ := p
    exact PySem.W.kia_one PySem.W.kitx_tuple I.kIn ⟨o, h1, h2⟩ e (fun z => nomatch z) h
  | @dK a kvs ea =>
    cases (show u = Value.ref a from rx)
    obtain ⟨_, _, vs, _, p⟩ := (show ObjOk X.prog X.w H s.heap a (.dK kvs) from I.hok a _ ea)
    obtain ⟨o, es, ep, h1, h2, _⟩ := p
    exact PySem.W.kia_one PySem.W.kitx_dict I.kIn ⟨o, h1, h2.1⟩ e (fun z => nomatch z) h
  | @dT a kvs ea =>
    cases (show u = Value.ref a from rx)
    obtain ⟨_, _, xs, _, o, es, ep, h1, h2, _⟩ := (show ObjOk X.prog X.w H s.heap a (.dT kvs) from I.hok a _ ea)
    exact PySem.W.kia_one PySem.W.kitx_dict I.kIn ⟨o, h1, h2.1⟩ e (fun z => nomatch z) h
  | @ins a C dx fs ea cl ha hn htk hm =>
    cases (show u = Value.ref a from rx)
    obtain ⟨mA, O, _⟩ := ins_get I.hok ea
    obtain ⟨od, J, _⟩ := O.look
    exact PySem.W.kia_one (PySem.W.kitx_own (cl.get _) cl.hd ha hn htk hm) I.kIn J e (fun z => nomatch z) h
end
end L2

namespace L2
open PySem PySem.Spec PyProof.Rows

/-! ### room -/
structure Room (k : Nat) (A : Around) : Prop where
  hd : A.handled = none
  dp : A.depth + 3 * k + 5 < recursionLimit
  un : A.units + 16 * k + 200 < cLine
theorem Room.mono {j k : Nat} {A : Around} (r : Room k A) (h : j ≤ k) : Room j A := ⟨r.hd, by have := r.dp; lia, by have := r.un; lia⟩
theorem Room.deeper {k : Nat} {A : Around} (r : Room (k + 1) A) (env : Env) : Room k (A.deeper env) :=
  ⟨r.hd, by have := r.dp; show A.depth + 1 + 3 * k + 5 < _; lia, by have := r.un; show A.units + 3 + 16 * k + 200 < _; lia⟩
theorem make_depth {A : Around} {C : Addr} {us : List Value} {kw : List (Str × Value)} : (A.under (.builtin "type.__call__" ⟨.ref C :: us, kw⟩)).depth = A.depth + 1 := by
  first | rfl | simp [Around.under, Code.weight, Code.isCreation, Code.isGuard, Code.isCaller, Code.frames, Code.isFrame, guardIds]
theorem make_units {A : Around} {C : Addr} {us : List Value} {kw : List (Str × Value)} : (A.under (.builtin "type.__call__" ⟨.ref C :: us, kw⟩)).units = A.units + 1 := by
  first | rfl | simp [Around.under, Code.cUnits, Code.frames, Code.isFrame]
theorem Room.make {k : Nat} {A : Around} (r : Room (k + 1) A) (C : Addr) (us : List Value) (kw : List (Str × Value)) : Room k (A.under (.builtin "type.__call__" ⟨.ref C :: us, kw⟩)) :=
  ⟨r.hd, by have := r.dp; rw [make_depth]; lia, by have := r.un; rw [make_units]; lia⟩
theorem Room.depth {k : Nat} {A : Around} (r : Room k A) : A.depth < recursionLimit := by have := r.dp; lia
theorem Room.units {k : Nat} {A : Around} (r : Room k A) : A.units + 64 < cLine := by have := r.un; lia
/-! ### argument lists and displays -/
def tNil : TA := fun _ H Q => Q [] H
def tCons (ta : TE) (tr : TA) : TA := fun σ H Q => ta σ H fun x H1 => tr σ H1 fun xs H2 => Q (x :: xs) H2
section
variable {X : Cx} {e : Expr} {es : List Expr} {te : TE} {t : TA} {pos : Pos}
theorem pa_nil : PA X [] tNil := fun _ _ _ _ H Q I h => Calls.spliced_nil ⟨[], H, I, .nil, h⟩
theorem pa_cons (ha : PE X e te) (hr : PA X es t) (hs : starEach (e :: es) X.env = (false, eval e X.env) :: starEach es X.env := by rfl) : PA X (e :: es) (tCons te t) := by
  intro pos pins s σ H Q I h
  rw [hs]
  show wpAny _ _ (spliced ((false, eval e X.env) :: backTo pos (starEach es X.env))) _ _ s
  refine Calls.spliced_cons (thn (ha pins s σ H _ I h) fun u s1 ⟨x, H1, I1, r1, q1⟩ => ?_)
  exact thn (hr pos pins s1 σ H1 _ I1 q1) fun us s2 ⟨xs, H2, I2, r2, q2⟩ => ⟨x :: xs, H2, I2, .cons r1 r2, q2⟩

/-- a tuple, a list of written items -/
def tTup (t : TA) : TE := fun σ H Q => t σ H fun xs H1 => xs.length ≤ sizeLine ∧ ∀ p, H1 p = none → Q (.ref p) (upd H1 p (.tup xs))
def tLst (t : TA) : TE := fun σ H Q => t σ H fun xs H1 => xs.length ≤ sizeLine ∧ ∀ p, H1 p = none → Q (.ref p) (upd H1 p (.lst xs))
theorem pe_tup {x1} (h : PA X es t) : PE X (.Tuple es x1 pos) (tTup t) := by
  intro pins s σ H Q I hq
  refine wpAny_Tuple_spliced (thn (h pos pins s σ H _ I hq) fun us s1 ⟨xs, H1, I1, r, z, q⟩ => ⟨by rw [← r.length]; exact z, ?_⟩)
  have hf : H1 s1.heap.objs.size = none := I1.hok.fresh (Nat.le_refl _)
  refine ⟨.ref s1.heap.objs.size, upd H1 s1.heap.objs.size (.tup xs), I1.laid (t' := s1.toks) (fun b u e => Heap.get?_push_of_some _ e) (Nat.le_refl _) ?_, rfl, q _ hf⟩
  exact ⟨z, us, r, ⟨_, Heap.get?_push_size _ rfl, rfl, _, rfl⟩⟩
theorem pe_lst (h : PA X es t) : PE X (.List es pos) (tLst t) := by
  intro pins s σ H Q I hq
  refine wpAny_List_spliced (thn (h pos pins s σ H _ I hq) fun us s1 ⟨xs, H1, I1, r, z, q⟩ => ⟨by rw [← r.length]; exact z, ?_⟩)
  have hf : H1 s1.heap.objs.size = none := I1.hok.fresh (Nat.le_refl _)
  refine ⟨.ref s1.heap.objs.size, upd H1 s1.heap.objs.size (.lst xs), I1.laid (t' := s1.toks) (fun b u e => Heap.get?_push_of_some _ e) (Nat.le_refl _) ?_, rfl, q _ hf⟩
  exact ⟨z, us, 0, r, Heap.get?_push_size _ rfl⟩
end

/-! ### what a def promises -/
/-- a def's promise: the bound arguments in the parameters' order, the heap, the wanted end, the wanted exception -/
abbrev Sp := List V → Hp → VK → XK → Prop
/-- how an exception lies behind a call (file 08 gives it): the callers' frames, abstract heap and state ahead of the call, the wish, the exception, the state -/
abbrev CXT := List Env → Hp → Shared → XK → Value → Shared → Prop

/-- the state at a call -/
structure Env0 (P : Program) (w : World) (K : PySem.W.Frag) (mg : Str → Option Value) (base : Heap) (A : Around) (outer : List Env) (s : Shared) (H : Hp) : Prop where
  frames : A.frames = some outer
  mod : Mod K mg base
  bs : ∀ b o, base.get? b = some o → s.heap.get? b = some o ∧ H b = none
  bsz : base.objs.size ≤ s.heap.objs.size
  funs : s.heap.FunFrames base outer
  frf : ∀ b ∈ frs outer, H b = none
  hok : HOk P w H s.heap
  bare : AllBare s.gens
/-- a call's end -/
def CE (outer : List Env) (P : Program) (w : World) (H : Hp) (s : Shared) (Q : VK) (u : Value) (s' : Shared) : Prop :=
  ∃ v H', s'.os = s.os ∧ AllBare s'.gens ∧ Un (frs outer) [] H H' s.heap s'.heap ∧ HOk P w H' s'.heap ∧ RelV v u ∧ Q v H'
def CR (CX : CXT) (outer : List Env) (P : Program) (w : World) (H : Hp) (s : Shared) (Q : VK) (E : XK) (r : Result) (s' : Shared) : Prop :=
  match r with
  | .ok (.ret u) => CE outer P w H s Q u s'
  | .ok _ => False
  | .error e => CX outer H s E e s'
structure FnOk (P : Program) (w : World) (K : PySem.W.Frag) (mg : Str → Option Value) (base : Heap) (CX : CXT) (k : Nat) (f : Addr) (fd : FuncData) (ps : List Str) (sp : Sp) : Prop where
  len : ∀ vs H Q E, sp vs H Q E → vs.length = ps.length
  run : ∀ (A : Around) (outer : List Env) (s : Shared) (H : Hp) (args : Args) (us : List Value) (vs : List V) (Q : VK) (E : XK), Room k A → Env0 P w K mg base A outer s H → BindsTo s fd args (ps.zip us) → Vals vs us → sp vs H Q E →
    codeAny (model P w) A (.call (.ref f) args) (CR CX outer P w H s Q E) s
theorem Env0.make {P : Program} {w : World} {K : PySem.W.Frag} {mg : Str → Option Value} {base : Heap} {A : Around} {outer : List Env} {s : Shared} {H : Hp} (e : Env0 P w K mg base A outer s H) (C : Addr) (us : List Value) (kw : List (Str × Value)) :
    Env0 P w K mg base (A.under (.builtin "type.__call__" ⟨.ref C :: us, kw⟩)) outer s H := ⟨by first | exact e.frames | (simpa [Around.under, Code.envs, Code.isFrame, pushEnvs] using e.frames), e.mod, e.bs, e.bsz, e.funs, e.frf, e.hok, e.bare⟩
section
variable {X : Cx} {pins : List (Addr × Obj)} {σ : St} {H : Hp} {s s' : Shared}
/-- from a body: what a callee wants -/
theorem Inv.env0 (I : Inv X pins σ H s) : Env0 X.prog X.w X.K X.mg X.base X.A X.stack s H :=
  ⟨I.ok.frames, I.ok.mod, I.bs, Nat.le_trans I.ok.bsz I.sz, I.stack, I.stkFree, I.hok, I.bare⟩
/-- behind a call -/
theorem Inv.after {Q : VK} {u : Value} (I : Inv X pins σ H s) (h : CE X.stack X.prog X.w H s Q u s') : EP X pins σ Q u s' := by
  obtain ⟨v, H', os, bare, un, hok, r, q⟩ := h
  obtain ⟨hh, g, d, t, os'⟩ := s'
  obtain rfl : os' = s.os := os
  exact ⟨v, H', I.call (h' := hh) (g' := g) (d' := d) (t' := t) (ch := []) un hok bare (fun b z => absurd z (by simp)), r, q⟩
end

/-! ### calls -/
/-- f(..): the written arguments, then the defaults dvs; E: what is wanted of an exception -/
def tCall (sp : Sp) (dvs : List V) (E : XK) (t : TA) : TE := fun σ H Q => t σ H fun vs H1 => sp (vs ++ dvs) H1 Q E
/-- o.m(..) of an instance of the class at C -/
def tMeth (C : Addr) (m : Str) (sp : Sp) (dvs : List V) (E : XK) (ta : TE) (t : TA) : TE := fun σ H Q => ta σ H fun x H1 => ∃ a dx fs, x = .ref a ∧ H1 a = some (.ins C dx fs) ∧ fs.lookup m = none ∧
  t σ H1 fun vs H2 => sp (x :: (vs ++ dvs)) H2 Q E
/-- C(..): a new instance and its dict, then __init__ -/
def tMake (C : Addr) (sp : Sp) (dvs : List V) (E : XK) (t : TA) : TE := fun σ H Q => t σ H fun vs H1 => ∀ x dx, H1 x = none → H1 dx = none → dx ≠ x →
  sp (.ref x :: (vs ++ dvs)) (upd (upd H1 dx (.own x)) x (.ins C dx [])) (fun v H2 => v = .non ∧ Q (.ref x) H2) E

/-- how the parameters are bound: us the positional arguments, kw the keywords' values by name, ds the defaults that fill up -/
def Binds (K : PySem.W.Frag) (fd : FuncData) (ps : List Str) (ds : List Value) : Prop :=
  ∀ (s : Shared) (us : List Value), K.In s.heap → (us ++ ds).length = ps.length → BindsTo s fd ⟨us, []⟩ (ps.zip (us ++ ds))
/-- every parameter is given -/
theorem Binds.all {K : PySem.W.Frag} {fd : FuncData} {ps : List Str} (h : ∀ us : List Value, us.length = ps.length → bindArgs fd ⟨us, []⟩ = pure (ps.zip us)) : Binds K fd ps [] := fun s us _ hl => by
  rw [List.append_nil] at hl ⊢
  exact .of_eq (h us hl)

/-- an exception of a callee reaches what this body wants of exceptions -/
def Passes (CX : CXT) (X : Cx) (E : XK) : Prop := ∀ (pins : List (Addr × Obj)) (σ : St) (H : Hp) (s : Shared) (e : Value) (s' : Shared), Inv X pins σ H s → CX X.stack H s E e s' → X.xe e s'

section
variable {X : Cx} {CX : CXT} {k : Nat} {f C : Addr} {fd : FuncData} {ps : List Str} {sp : Sp} {dvs : List V} {ds : List Value} {E : XK} {x m : Str} {p pos apos : Pos} {e o : Expr} {es : List Expr} {ta : TE} {t : TA}

/-- the callee runs -/
theorem run_fn {pins : List (Addr × Obj)} {σ : St} {H : Hp} {s : Shared} {Q : VK} {us : List Value} {vs : List V} (F : FnOk X.prog X.w X.K X.mg X.base CX k f fd ps sp) (hr : Room k X.A) (hb : Binds X.K fd ps ds) (hd : Vals dvs ds) (hx : Passes CX X E)
    (I : Inv X pins σ H s) (r : Vals vs us) (h : sp (vs ++ dvs) H Q E) : wpAny (model X.prog X.w) X.A (call (.ref f) us) (EP X pins σ Q) X.xe s := by
  have r2 : Vals (vs ++ dvs) (us ++ ds) := r.append hd
  have hl : (us ++ ds).length = ps.length := by rw [← r2.length]; exact F.len _ _ _ _ h
  refine wpAny_call (codeAny_mono (F.run X.A X.stack s H ⟨us, []⟩ (us ++ ds) (vs ++ dvs) Q E hr I.env0 (hb s us I.kIn hl) r2 h) fun r s' hq => ?_)
  cases r with
  | error e => exact hx pins σ H s e s' I hq
  | ok fl =>
    cases fl with
    | ret u => exact I.after hq
    | next => exact False.elim hq
    | brk => exact False.elim hq
    | cont => exact False.elim hq

theorem pe_call (F : FnOk X.prog X.w X.K X.mg X.base CX k f fd ps sp) (hr : Room k X.A) (hg : Gl X x) (hm : X.mg x = some (.ref f)) (hk : PySem.W.keepIn X.K (.ref f) = true) (hb : Binds X.K fd ps ds) (hd : Vals dvs ds) (hx : Passes CX X E)
    (ha : PA X (e :: es) t) (hdb : (x == ("__debug__" : Str)) = false := by decide) (he : starEach (e :: es) X.env = (false, eval e X.env) :: starEach es X.env := by rfl) (hpl : (backTo pos (starEach es X.env)).any (·.1) = false := by rfl) :
    PE X (.Call (.Name x p) (e :: es) [] pos) (tCall sp dvs E t) := by
  intro pins s σ H Q I h
  refine wpAny_Call_Name_kw (ld_glob I hg hm ?_ hdb)
  refine PySem.W.callWith_K (h₀ := X.base) I.ok.mod.kin hk (thn (ha pos pins s σ H _ I h) fun us s1 ⟨vs, H1, I1, r, q⟩ => ⟨I1.kIn, ?_⟩) he hpl
  exact run_fn F hr hb hd hx I1 r q
/-- o.m(e, ..) -/
theorem pe_meth {pl : Sem Bool} (he : PE X o ta) (c : Cls X.K C) (hm : Meth X.K C m f) (F : FnOk X.prog X.w X.K X.mg X.base CX k f fd ps sp) (hr : Room k X.A) (hb : Binds X.K fd ps ds) (hd : Vals dvs ds) (hx : Passes CX X E) (ha : PA X (e :: es) t)
    (hst : starEach (e :: es) X.env = (false, eval e X.env) :: starEach es X.env := by rfl) (hpl : (backTo pos (starEach es X.env)).any (·.1) = false := by rfl)
    (ht : eval (.Call (.Attribute o m apos) (e :: es) [] pos) X.env = (do
      let ov ← eval o X.env
      standAt apos.atName
      let (f, first) ← holding [ov] (getMethod ov m pl)
      callWith pos f first (backTo pos (starEach (e :: es) X.env)) (backToKw pos (keywordEach [] X.env))) := by rfl) :
    PE X (.Call (.Attribute o m apos) (e :: es) [] pos) (tMeth C m sp dvs E ta t) := by
  intro pins s σ H Q I h
  refine PySem.W.methodCall_KW (pl := pl) (thn (he pins s σ H _ I h) fun u s1 ⟨x, H1, I1, rx, a, dx, fs, ex, ea, l, q⟩ => ?_) ht
  subst ex
  obtain rfl : u = Value.ref a := rx
  refine getmeth_ok I1 ea c hm l ?_
  refine PySem.W.callWith_K (first := [.ref a]) (h₀ := X.base) I.ok.mod.kin hm.kp (thn (ha pos pins s1 σ H1 _ I1 q) fun us s2 ⟨vs, H2, I2, r, q2⟩ => ⟨I2.kIn, ?_⟩) hst hpl
  exact run_fn (us := .ref a :: us) (vs := .ref a :: vs) F hr hb hd hx I2 (.cons rfl r) q2
/-- what a class must have to be made -/
structure Mk (K : PySem.W.Frag) (C f : Addr) : Prop where
  makes : PySem.W.makesIn K C = true
  init : PySem.W.findIn K (.ref C) "__init__" = some (some (.ref f))
  fn : PySem.W.isFn K (.ref f) = true
  kp : PySem.W.keepIn K (.ref C) = true

theorem run_make {pins : List (Addr × Obj)} {σ : St} {H : Hp} {s : Shared} {Q : VK} {us : List Value} {vs : List V} (M : Mk X.K C f) (F : FnOk X.prog X.w X.K X.mg X.base CX k f fd ps sp) (hr : Room (k + 1) X.A) (hb : Binds X.K fd ps ds) (hd : Vals dvs ds)
    (hx : Passes CX X E) (I : Inv X pins σ H s) (r : Vals vs us)
    (h : ∀ x dx, H x = none → H dx = none → dx ≠ x → sp (.ref x :: (vs ++ dvs)) (upd (upd H dx (.own x)) x (.ins C dx [])) (fun v H2 => v = .non ∧ Q (.ref x) H2) E) :
    wpAny (model X.prog X.w) X.A (call (.ref C) us) (EP X pins σ Q) X.xe s := by
  have hq := h (s.heap.objs.size + 1) s.heap.objs.size (I.hok.fresh (Nat.le_succ _)) (I.hok.fresh (Nat.le_refl _)) (Nat.ne_of_lt (Nat.lt_succ_self _))
  have I2 := Inv.made (C := C) I
  have r2 : Vals (V.ref (s.heap.objs.size + 1) :: (vs ++ dvs)) (Value.ref (s.heap.objs.size + 1) :: (us ++ ds)) := .cons rfl (r.append hd)
  have hl : (Value.ref (s.heap.objs.size + 1) :: us ++ ds).length = ps.length := by
    have e := r2.length
    rw [F.len _ _ _ _ hq] at e
    exact e.symm
  refine wpAny_call (make_map (f := f) I.kIn M.makes M.init (beq_iff_eq.mp M.fn) (codeAny_mono (F.run _ X.stack _ _ ⟨Value.ref (s.heap.objs.size + 1) :: us, []⟩ (Value.ref (s.heap.objs.size + 1) :: (us ++ ds)) _ _ E (hr.make C us [])
    (I2.env0.make C us []) (hb _ (Value.ref (s.heap.objs.size + 1) :: us) I2.kIn hl) r2 hq) fun r s' hq' => ?_))
  cases r with
  | error e => exact hx pins σ _ _ e s' I2 hq'
  | ok fl =>
    cases fl with
    | ret u =>
      obtain ⟨v, H', I3, rv, ev, q3⟩ := I2.after hq'
      subst ev
      exact ⟨rv, ⟨V.ref (s.heap.objs.size + 1), H', I3, rfl, q3⟩⟩
    | next => exact False.elim hq'
    | brk => exact False.elim hq'
    | cont => exact False.elim hq'
theorem pe_make0 (M : Mk X.K C f) (F : FnOk X.prog X.w X.K X.mg X.base CX k f fd ps sp) (hr : Room (k + 1) X.A) (hg : Gl X x) (hm : X.mg x = some (.ref C)) (hb : Binds X.K fd ps ds) (hd : Vals dvs ds) (hx : Passes CX X E)
    (hdb : (x == ("__debug__" : Str)) = false := by decide) : PE X (.Call (.Name x p) [] [] pos) (tMake C sp dvs E tNil) := by
  intro pins s σ H Q I h
  refine wpAny_Call_Name_kw (ld_glob I hg hm ?_ hdb)
  exact PySem.W.callWith_K0 I.kIn M.kp (run_make (us := []) M F hr hb hd hx I .nil h)
end

/-! ### keywords -/
section
variable {X : Cx} {CX : CXT} {k : Nat} {f C : Addr} {fd : FuncData} {ps ks : List Str} {sp : Sp} {E : XK} {x m : Str} {p pos apos kpos : Pos} {e o : Expr} {es : List Expr} {kws : List Keyword} {te ta : TE} {t tk : TA} {nm : Option Str}
variable {g : List Value → List Value → List Value} {gV : List V → List V → List V}
end

/-! ### a def's body keeps its promise -/
/-- names: the parameters first -/
structure FnScope (N P : List Str) (sc : Scope) : Prop where
  kind : sc.kind = .function
  co : sc.isCoroutine = false
  gen : sc.isGenerator = false
  nd : N.Nodup
  pre : N.take P.length = P
  par : ∀ x ∈ P, sc.names.lookup x = some .local ∨ sc.names.lookup x = some .cell
  nofree : ∀ y ∈ sc.names, y.2 ≠ .free

theorem bindL_out {kindOf : Str → Option NameKind} {x : Str} : ∀ {binds : List (Str × Value)} {m : Str → Option Value}, (∀ v, (x, v) ∉ binds) → bindL kindOf binds m x = m x
  | [], _, _ => rfl
  | (n, v) :: r, m, h => by
    unfold bindL
    rw [bindL_out fun w hw => h w (List.mem_cons_of_mem _ hw)]
    split
    · have : x ≠ n := by rintro rfl; exact h v List.mem_cons_self
      simp [this]
    · rfl
theorem bindC_out {kindOf : Str → Option NameKind} {x : Str} : ∀ {binds : List (Str × Value)} {m : Str → Option Value}, (∀ v, (x, v) ∉ binds) → bindC kindOf binds m x = m x
  | [], _, _ => rfl
  | (n, v) :: r, m, h => by
    unfold bindC
    rw [bindC_out fun w hw => h w (List.mem_cons_of_mem _ hw)]
    split
    · rfl
    · have : x ≠ n := by rintro rfl; exact h v List.mem_cons_self
      simp [this]
theorem bindL_get {kindOf : Str → Option NameKind} {x : Str} {v : Value} : ∀ {P : List Str} {vs : List Value} {i : Nat} {m : Str → Option Value}, P.Nodup → P[i]? = some x → vs[i]? = some v → kindOf x = some .local →
    bindL kindOf (P.zip vs) m x = some v
  | [], _, _, _, _, h, _, _ => by simp at h
  | _ :: _, [], _, _, _, _, h, _ => by simp at h
  | p :: P, w :: vs, 0, m, nd, h1, h2, hk => by
    simp at h1 h2; subst h1; subst h2
    show bindL kindOf ((p, w) :: P.zip vs) m p = _
    unfold bindL
    rw [bindL_out fun v hv => (List.nodup_cons.mp nd).1 (List.of_mem_zip hv).1, if_pos hk]
    simp
  | p :: P, w :: vs, i + 1, m, nd, h1, h2, hk => by
    show bindL kindOf ((p, w) :: P.zip vs) m x = _
    unfold bindL
    exact bindL_get (i := i) (List.nodup_cons.mp nd).2 (by simpa using h1) (by simpa using h2) hk
theorem bindC_get {kindOf : Str → Option NameKind} {x : Str} {v : Value} : ∀ {P : List Str} {vs : List Value} {i : Nat} {m : Str → Option Value}, P.Nodup → P[i]? = some x → vs[i]? = some v → kindOf x ≠ some .local →
    bindC kindOf (P.zip vs) m x = some v
  | [], _, _, _, _, h, _, _ => by simp at h
  | _ :: _, [], _, _, _, _, h, _ => by simp at h
  | p :: P, w :: vs, 0, m, nd, h1, h2, hk => by
    simp at h1 h2; subst h1; subst h2
    show bindC kindOf ((p, w) :: P.zip vs) m p = _
    unfold bindC
    rw [bindC_out fun v hv => (List.nodup_cons.mp nd).1 (List.of_mem_zip hv).1, if_neg hk]
    simp
  | p :: P, w :: vs, i + 1, m, nd, h1, h2, hk => by
    show bindC kindOf ((p, w) :: P.zip vs) m x = _
    unfold bindC
    exact bindC_get (i := i) (List.nodup_cons.mp nd).2 (by simpa using h1) (by simpa using h2) hk

/-- the names' values at the entry -/
def start (N : List Str) (vs : List V) : St := vs.map some ++ List.replicate (N.length - vs.length) none

/-- the context of a def's body, at its entry; an exception leaves the frame, then lies as CX says -/
def cxOf (CX : CXT) (P : Program) (w : World) (K : PySem.W.Frag) (mg : Str → Option Value) (base : Heap) (N : List Str) (qual : Str) (scope : Scope) (f : Addr) (cd : Value) (A : Around) (outer : List Env) (s : Shared) (H : Hp) (E : XK) : Cx where
  prog := P
  w := w
  K := K
  mg := mg
  base := base
  A := A.deeper (envOfC qual scope s.heap.objs.size f cd)
  N := N
  s₀ := s
  H₀ := H
  env := envOfC qual scope s.heap.objs.size f cd
  outer := outer
  stack := envOfC qual scope s.heap.objs.size f cd :: outer
  ex := []
  calm := true
  fn := fun _ => true
  pn := []
  xe := fun e s' => wpAny (model P w) (A.deeper (envOfC qual scope s.heap.objs.size f cd)) (leaving (envOfC qual scope s.heap.objs.size f cd) e) (fun _ s'' => CX outer H s E e s'') (fun e' s'' => CX outer H s E e' s'') s'

theorem cell_has {sc : Scope} {n : Nat} {x : Str} (h : sc.names.lookup x = some .cell) : ∃ c, (cellsFrom n sc.names []).lookup x = some c := by
  have q := PySem.W.cellsFrom_some sc.names n [] (.inl h)
  exact Option.isSome_iff_exists.mp q

theorem inv_start {CX : CXT} {P : Program} {w : World} {K : PySem.W.Frag} {mg : Str → Option Value} {base : Heap} {N ps : List Str} {qual : Str} {scope : Scope} {f : Addr} {cd : Value} {A : Around} {outer : List Env} {s s1 : Shared} {H : Hp} {E : XK} {us : List Value} {vs : List V}
    (S : FnScope N ps scope) (hd : A.handled = none) (e0 : Env0 P w K mg base A outer s H) (hl : vs.length = ps.length) (r : Vals vs us)
    (x : InCallC s s.heap.objs.size (bindL (envOfC qual scope s.heap.objs.size f cd).kindOf (ps.zip us) fun _ => none) (cellsFrom (s.heap.objs.size + 1) scope.names []) (bindC (envOfC qual scope s.heap.objs.size f cd).kindOf (ps.zip us) fun _ => none) s1) :
    Inv (cxOf CX P w K mg base N qual scope f cd A outer s H E) [] (start N vs) H s1 := by
  have hpl : ps.length ≤ N.length := by have := congrArg List.length S.pre; rw [List.length_take] at this; lia
  obtain ⟨h1, tk, rfl, hk⟩ := x.done
  have noA : ∀ b : Addr, b ∉ (cxOf CX P w K mg base N qual scope f cd A outer s H E).ex := fun b z => absurd (show b ∈ ([] : List Addr) from z) (by simp)
  refine ⟨⟨e0.mod, S.kind, rfl, rfl, Nat.le_refl _, fun y z c h1 h2 => ?_, fun y hy => ?_, fun y c _ h => ?_, fun _ => hd, Around.frames_deeper e0.frames, .inr ⟨rfl, rfl⟩, fun b z => absurd z (noA b), e0.bs, e0.bsz, fun b _ _ => noA b, fun b z => absurd z (noA b), e0.funs, e0.frf⟩,
    rfl, e0.bare, Un.kept hk, ⟨_, x.toInCall.ns, fun i y v h1 h2 h3 => ?_⟩, fun y c h => ⟨_, x.cell y c h⟩, e0.hok.fresh (Nat.le_refl _), fun y c h => ?_, fun p hp => absurd (show p ∈ ([] : List (Addr × Obj)) from hp) (by simp), e0.hok.kept hk, ?_⟩
  · exact name_of_addr x.apart (PySem.mem_of_lookup h1) (PySem.mem_of_lookup h2)
  · have hy : scope.names.lookup y = some .cell ∨ scope.names.lookup y = some .free := hy
    rcases hy with hy | hy
    · exact cell_has hy
    · exact absurd rfl (S.nofree _ (PySem.mem_of_lookup hy))
  · exact Nat.le_of_lt (x.above y c (PySem.mem_of_lookup h))
  · have hi : i < vs.length := by
      unfold start at h2
      by_cases hi : i < vs.length
      · exact hi
      · rw [List.getElem?_append_right (by simpa using hi)] at h2
        rw [List.getElem?_replicate] at h2
        split at h2 <;> cases h2
    have ha : vs[i]? = some v := by
      unfold start at h2
      rw [List.getElem?_append_left (by simpa using hi), List.getElem?_map] at h2
      cases e : vs[i]? with
      | none => rw [e] at h2; cases h2
      | some a => rw [e] at h2; cases h2; rfl
    obtain ⟨u, hu, rv⟩ := r.get ha
    have hp : ps[i]? = some y := by
      rw [← S.pre, List.getElem?_take_of_lt (by lia)]; exact h1
    have ndP : ps.Nodup := by rw [← S.pre]; exact S.nd.sublist (List.take_sublist _ _)
    refine ⟨u, rv, ?_⟩
    rcases S.par y (List.mem_of_getElem? hp) with k | k
    · exact .inl ⟨k, bindL_get ndP hp hu k⟩
    · obtain ⟨c, e⟩ := cell_has (n := s.heap.objs.size + 1) k
      refine .inr ⟨.inl k, c, e, ?_⟩
      have q := x.cell y c e
      rw [bindC_get ndP hp hu (by show scope.names.lookup y ≠ _; rw [k]; decide)] at q
      exact q
  · exact e0.hok.fresh (Nat.le_of_lt (x.above y c (PySem.mem_of_lookup h)))
  · unfold start
    show _ = N.length
    rw [List.length_append, List.length_map, List.length_replicate]
    lia

/-- THE RULE: a def (or a method) of the text, by its body. The body's reading t is chosen for each entry; it is run at the parameters' values -/
theorem fn_of {CX : CXT} {P : Program} {w : World} {K : PySem.W.Frag} {mg : Str → Option Value} {base : Heap} {k : Nat} {f : Addr} {name qual : Str} {params : Arguments} {body : List Stmt} {scope : Scope} {dV kV doc pm cdv ct oc : Value} {an od : Option Addr}
    {osl : Array (Option Value)} {N ps : List Str} {sp : Sp} (lk : K.lookup f = some ⟨oc, od, .func (PySem.W.fnOf name qual params body scope dV kV doc pm an cdv ct), osl⟩) (hcd : PySem.W.codeIn K cdv qual = true) (S : FnScope N ps scope)
    (len : ∀ vs H Q E, sp vs H Q E → vs.length = ps.length)
    (hbody : ∀ (A : Around) (outer : List Env) (s : Shared) (H : Hp) (vs : List V) (Q : VK) (E : XK), Room k (A.deeper (envOfC qual scope s.heap.objs.size f cdv)) → sp vs H Q E →
      ∃ t, PSs (cxOf CX P w K mg base N qual scope f cdv A outer s H E) body t ∧ t { nx := fun _ H' => Q .non H', rt := Q } (start N vs) H) :
    FnOk P w K mg base CX (k + 1) f (PySem.W.fnOf name qual params body scope dV kV doc pm an cdv ct) ps sp := by
  refine ⟨len, fun A outer s H args us vs Q E hr e0 hb r hsp => ?_⟩
  have hl := len _ _ _ _ hsp
  have KX : K.In s.heap := e0.mod.kin.keeps fun b o e => (e0.bs b o e).1
  have lim : s.heap.NoLimit := e0.mod.nolimit.keeps fun b o e => (e0.bs b o e).1
  have hkind : ∀ y ∈ ps.zip us, scope.names.lookup y.1 = some .local ∨ (scope.names.lookup y.1 = some .cell ∧ ((cellsFrom (s.heap.objs.size + 1) scope.names []).lookup y.1).isSome = true) := fun ⟨n, v⟩ hy => by
    rcases S.par n (List.of_mem_zip hy).1 with q | q
    · exact .inl q
    · exact .inr ⟨q, PySem.W.cellsFrom_some _ _ _ (.inl q)⟩
  refine codeAny_call_function hr.depth (KX _ _ lk) rfl S.co S.gen rfl (PySem.W.codeRec_of KX hcd) (hb _ _ _ _ ?_)
  refine wpAny_newFunctionEnv_cells S.kind hkind fun env he s1 x => ?_
  subst he
  refine ⟨lim.keeps x.toInCall.keep, codeAny_func ?_⟩
  obtain ⟨t, ht, hq⟩ := hbody A outer s H vs Q E (hr.deeper _) hsp
  have I : Inv (cxOf CX P w K mg base N qual scope f cdv A outer s H E) [] (start N vs) H s1 := inv_start S hr.hd e0 hl r x
  refine wpAny_mono (ht [] s1 (start N vs) H _ I hq) (fun fl s' hs => ?_) fun e s' hs => hs
  have fin : ∀ {σ' : St} {H' : Hp} {v : V} {u : Value}, Inv (cxOf CX P w K mg base N qual scope f cdv A outer s H E) [] σ' H' s' → RelV v u → Q v H' → CE outer P w H s Q u s' :=
    fun {σ' H' v u} J rv q => ⟨v, H', J.os, J.bare, J.base, J.hok, rv, q⟩
  cases fl with
  | ret u =>
    obtain ⟨v, σ', H', J, rv, q⟩ := hs
    exact fin J rv q
  | next =>
    obtain ⟨σ', H', J, q⟩ := hs
    exact fin (v := V.non) (u := Value.none) J rfl q
  | brk =>
    obtain ⟨_, _, _, q⟩ := hs
    exact False.elim q
  | cont =>
    obtain ⟨_, _, _, q⟩ := hs
    exact False.elim q
end L2

namespace L2
open PySem PySem.Spec PyProof.Rows
section
variable {X : Cx} {x : Str} {p pos : Pos} {e : Expr} {es : List Expr} {t : TA} {id T : String} {r : List V → Hp → VK → Prop}

def tCB (r : List V → Hp → VK → Prop) (t : TA) : TE := fun σ H Q => t σ H fun vs H1 => r vs H1 Q
/-- f(e, ..), f a built-in function -/
theorem pe_callB (hc : CallR X (.builtin id) r) (hg : Gl X x) (hm : X.mg x = none) (hv : bootBuiltins x = some (.builtin id)) (ha : PA X (e :: es) t) (hn : x ≠ "__name__" := by decide) (hdb : (x == ("__debug__" : Str)) = false := by decide)
    (he : starEach (e :: es) X.env = (false, eval e X.env) :: starEach es X.env := by rfl) (hpl : (backTo pos (starEach es X.env)).any (·.1) = false := by rfl) : PE X (.Call (.Name x p) (e :: es) [] pos) (tCB r t) := by
  intro pins s σ H Q I h
  refine wpAny_Call_Name_kw (ld_blt I hg hm hv ?_ hn hdb)
  exact PyProof.Rows.callWith_builtin1 (thn (ha pos pins s σ H _ I h) fun us s1 ⟨vs, H1, I1, r1, q1⟩ => hc pins s1 σ H1 vs us Q I1 r1 q1) he hpl
/-- T(e, ..), T a built-in type -/
theorem pe_callTy (hc : CallR X (.type T) r) (hg : Gl X x) (hm : X.mg x = none) (hv : bootBuiltins x = some (.type T)) (ha : PA X (e :: es) t) (hn : x ≠ "__name__" := by decide) (hdb : (x == ("__debug__" : Str)) = false := by decide)
    (he : starEach (e :: es) X.env = (false, eval e X.env) :: starEach es X.env := by rfl) (hpl : (backTo pos (starEach es X.env)).any (·.1) = false := by rfl) : PE X (.Call (.Name x p) (e :: es) [] pos) (tCB r t) := by
  intro pins s σ H Q I h
  refine wpAny_Call_Name_kw (ld_blt I hg hm hv ?_ hn hdb)
  exact PyProof.Rows.callWith_type1 (thn (ha pos pins s σ H _ I h) fun us s1 ⟨vs, H1, I1, r1, q1⟩ => hc pins s1 σ H1 vs us Q I1 r1 q1) he hpl
end
end L2

namespace HT
open PySem PyProof.Rows

section
open PySem.SeqAt
open PySem.AutoSeq1 (wpAny_loadPart')
open PySem.MeetsSeq PySem.MeetsSeq2 PySem.MeetsSeq3

end

section
variable {prog : Program} {w : World} {A : Around} {E : Value → Shared → Prop} {s : Shared}

/-! ### t[a:b], not the whole -/
/-- a slice's bound as a place among n (d where it is left out) -/
def sIx (n d : Nat) : Option Int → Nat
  | none => d
  | some v => if v < 0 then (v + (n : Int)).toNat else min v.toNat n
end
end HT

namespace L2
open PySem PySem.Spec PyProof.Rows

/-! ### the parts of a slice -/
abbrev TO := St → Hp → (Option Int → Hp → Prop) → Prop
/-- a slice's part (left out, or an int) -/
def PO (X : Cx) (e : Option Expr) (t : TO) : Prop :=
  ∀ (pins : List (Addr × Obj)) (s : Shared) (σ : St) (H : Hp) (Q : Option Int → Hp → Prop), Inv X pins σ H s → t σ H Q →
    wpAny (model X.prog X.w) X.A (evalPart e X.env) (fun u s' => ∃ o H', Inv X pins σ H' s' ∧ IsPart u o ∧ Q o H') X.xe s
def tNoPart : TO := fun _ H Q => Q none H
def tPart (t : TE) : TO := fun σ H Q => t σ H fun x H1 => ∃ i, x = .int i ∧ Q (some i) H1

section
variable {X : Cx} {e : Expr} {te : TE} {lo hi : Option Expr} {tl th : TO} {pos p2 : Pos}

theorem po_none : PO X none tNoPart := by
  intro pins s σ H Q I h
  rw [evalPart_none]
  exact wpAny_pure ⟨none, H, I, .none, h⟩
theorem po_some (h : PE X e te) : PO X (some e) (tPart te) := by
  intro pins s σ H Q I hw
  rw [evalPart_some]
  refine thn (h pins s σ H _ I hw) fun u s1 ⟨x, H1, I1, r1, q1⟩ => ?_
  obtain ⟨i, rfl, q⟩ := q1
  obtain ⟨t, rfl⟩ := r1
  exact ⟨some i, H1, I1, .int i t, q⟩

/-- what a slice of a value is, by values: the slice object stands at sl -/
def SlR (X : Cx) (r : V → Option Int → Option Int → Hp → VK → Prop) : Prop :=
  ∀ (pins : List (Addr × Obj)) (s : Shared) (σ : St) (H : Hp) (x : V) (v vl vu : Value) (lo hi : Option Int) (sl : Addr) (Q : VK), Inv X pins σ H s → RelV x v → s.heap.IsSliceOf sl vl vu .none → IsPart vl lo → IsPart vu hi → r x lo hi H Q →
    ∃ T id, typeLookup (.type T) "__getitem__" = pure (some (.builtin id)) ∧ s.TypeIs v T ∧ wpAny (model X.prog X.w) X.A (getItem v (.ref sl)) (EP X pins σ Q) X.xe s
def tSl (r : V → Option Int → Option Int → Hp → VK → Prop) (te : TE) (tl th : TO) : TE := fun σ H Q => te σ H fun x H1 => tl σ H1 fun l H2 => th σ H2 fun u H3 => r x l u H3 Q
/-- a[lo:hi], any a -/
theorem pe_slice {r : V → Option Int → Option Int → Hp → VK → Prop} (hr : SlR X r) (he : PE X e te) (hl : PO X lo tl) (hu : PO X hi th) : PE X (.Subscript e (.Slice lo hi none p2) pos) (tSl r te tl th) := by
  intro pins s σ H Q I h
  refine Subscript_ (thn (he pins s σ H _ I h) fun v s1 ⟨x, H1, I1, r1, q1⟩ => ?_)
  refine wpAny_Slice (thn (hl pins s1 σ H1 _ I1 q1) fun vl s2 ⟨l, H2, I2, pl, q2⟩ => thn (hu pins s2 σ H2 _ I2 q2) fun vu s3 ⟨u, H3, I3, pu, q3⟩ => ?_)
  rw [evalPart_none]
  refine wpAny_pure ?_
  have I4 : Inv X pins σ H3 { s3 with heap := s3.heap.push { cls := .type "slice", data := .fields #[vl, vu, .none] } } := I3.kept (t' := s3.toks) fun b ob q => Heap.get?_push_of_some _ q
  obtain ⟨T, id, hT, ht, hg⟩ := hr pins { s3 with heap := s3.heap.push { cls := .type "slice", data := .fields #[vl, vu, .none] } } σ H3 x v vl vu l u s3.heap.objs.size Q I4 r1 (Heap.IsSliceOf.new ..) pl pu q3
  show wpAny (model X.prog X.w) X.A (subscriptTail e (.Slice lo hi none p2) v (.ref s3.heap.objs.size)) (EP X pins σ Q) X.xe { s3 with heap := s3.heap.push { cls := .type "slice", data := .fields #[vl, vu, .none] } }
  exact tail_any (ops := [.ref s3.heap.objs.size, v]) ht hT hg (by with_unfolding_all rfl)

/-- the items of xs[lo:hi] -/
def cutV (xs : List V) (lo hi : Option Int) : List V := (xs.drop (HT.sIx xs.length 0 lo)).take (HT.sIx xs.length xs.length hi - HT.sIx xs.length 0 lo)
theorem cutV_length (xs : List V) (lo hi : Option Int) : (cutV xs lo hi).length ≤ xs.length := by
  unfold cutV
  rw [List.length_take, List.length_drop]
  lia
/-! ### t < u, t + u -/
end
end L2

namespace L2
open PySem PySem.Spec PyProof.Rows

/-! ### places -/
/-- the place that an index of any sign means -/
def ixN (n : Nat) (i : Int) : Option Nat := if 0 ≤ i then (if i < n then some i.toNat else none) else if -(n : Int) ≤ i then some (i + n).toNat else none
def atI {α : Type} (xs : List α) (i : Int) : Option α := (ixN xs.length i).bind fun j => xs[j]?
theorem ixN_seq {n : Nat} {i : Int} {j : Nat} (h : ixN n i = some j) : seqIndex? i n = some j ∧ j < n ∧ -(n : Int) ≤ i ∧ i < n := by
  unfold ixN at h
  by_cases h0 : 0 ≤ i
  · rw [if_pos h0] at h
    by_cases h1 : i < n
    · rw [if_pos h1] at h
      have e : i.toNat = j := Option.some.inj h
      exact ⟨by rw [seqIndex_of h0 h1, e], by lia, by lia, h1⟩
    · rw [if_neg h1] at h; cases h
  · rw [if_neg h0] at h
    by_cases h1 : -(n : Int) ≤ i
    · rw [if_pos h1] at h
      have e : (i + n).toNat = j := Option.some.inj h
      exact ⟨by rw [seqIndex_neg (by lia) h1, e], by lia, h1, by lia⟩
    · rw [if_neg h1] at h; cases h
theorem atI_get {α : Type} {xs : List α} {i : Int} {v : α} (h : atI xs i = some v) : ∃ j, seqIndex? i xs.length = some j ∧ xs[j]? = some v ∧ j < xs.length ∧ -(xs.length : Int) ≤ i ∧ i < xs.length := by
  unfold atI at h
  cases e : ixN xs.length i with
  | none => rw [e] at h; cases h
  | some j =>
    rw [e] at h
    obtain ⟨h1, h2, h3, h4⟩ := ixN_seq e
    exact ⟨j, h1, h, h2, h3, h4⟩
theorem atI_nat {α : Type} {xs : List α} {j : Nat} {v : α} (h : xs[j]? = some v) : atI xs (j : Int) = some v := by
  have hj : j < xs.length := (List.getElem?_eq_some_iff.mp h).1
  have e : ixN xs.length (j : Int) = some j := by
    unfold ixN
    rw [if_pos (by lia), if_pos (by lia)]; simp
  unfold atI; rw [e]; exact h
/-! ### what may be subscripted -/
/-- what stands as an index of a plain subscript -/
def PlainIx (b : Expr) : Prop := ∀ o i, subscripted b false o i = operate [o, i] (getItem o i)
/-- a subscript by values -/
def IxR (X : Cx) (r : R2) : Prop :=
  ∀ (value slice : Expr) (pins : List (Addr × Obj)) (s : Shared) (σ : St) (H : Hp) (x y : V) (v u : Value) (Q : VK), Inv X pins σ H s → RelV x v → RelV y u → r x y H Q →
    subscripted slice false v u = operate [v, u] (getItem v u) → wpAny (model X.prog X.w) X.A (subscriptTail value slice v u) (EP X pins σ Q) X.xe s
/-- a call of a builtin's method by values: the receiver, the arguments -/
def MtR (X : Cx) (id : String) (r : V → List V → Hp → VK → Prop) : Prop :=
  ∀ (pins : List (Addr × Obj)) (s : Shared) (σ : St) (H : Hp) (x : V) (xs : List V) (v : Value) (us : List Value) (Q : VK), Inv X pins σ H s → RelV x v → Vals xs us → r x xs H Q →
    wpAny (model X.prog X.w) X.A (call (.builtin id) (v :: us)) (EP X pins σ Q) X.xe s
section
variable {X : Cx} {a b : Expr} {ta tb : TE} {pos : Pos}
/-- a[b] -/
theorem pe_ix {r : R2} (hr : IxR X r) (ha : PE X a ta) (hb : PE X b tb) (hs : PlainIx b) : PE X (.Subscript a b pos) (tOp r ta tb) := by
  intro pins s σ H Q I h
  exact Subscript_ (binT ha hb I h fun v u s2 x y H2 I2 rx ry q => hr a b pins s2 σ H2 x y v u Q I2 rx ry q (hs _ _))

def rIxL (K : PySem.W.Frag) : R2 := fun x y H Q => ∃ p xs i v, x = .ref p ∧ y = .int i ∧ SqL K H p xs ∧ atI xs i = some v ∧ Q v H
def rIxT (K : PySem.W.Frag) : R2 := fun x y H Q => ∃ p xs i v, x = .ref p ∧ y = .int i ∧ SqT K H p xs ∧ atI xs i = some v ∧ Q v H
theorem ix_list : IxR X (rIxL X.K) := by
  intro value slice pins s σ H x y v u Q I rx ry h hs
  obtain ⟨p, xs, i, z, rfl, rfl, hq, he, q⟩ := h
  cases rx
  obtain ⟨t, rfl⟩ := ry
  obtain ⟨its, r, pl, hz⟩ := I.list hq
  obtain ⟨j, h1, h2, h3, h4, h5⟩ := atI_get he
  obtain ⟨w, ew, rw'⟩ := r.get h2
  have hl := r.length
  have hn := line63
  have fin : EP X pins σ Q w s := ⟨z, H, I, rw', q⟩
  by_cases h0 : 0 ≤ i
  · have hj : i.toNat = j := by
      rw [seqIndex_of h0 h5] at h1
      exact Option.some.inj h1
    exact item_listR pl.isList h0 (by lia) (by rw [hj]; simpa using ew) fin hs
  · have hj : (i + (its.toArray.size : Int)).toNat = j := by
      rw [seqIndex_neg (by lia) h4] at h1
      rw [List.size_toArray, ← hl]
      exact Option.some.inj h1
    exact subscriptTail_builtinR (x := w) pl.isList.typeIs slot_list_getitem.lookup
      (wpAny_getItem_list_neg (Q := fun r s' => r = w ∧ EP X pins σ Q r s') pl.isList (by lia) (by rw [List.size_toArray] <;> lia) (by lia) (by rw [hj]; simpa using ew) ⟨rfl, fin⟩) hs
theorem ix_tup : IxR X (rIxT X.K) := by
  intro value slice pins s σ H x y v u Q I rx ry h hs
  obtain ⟨p, xs, i, z, rfl, rfl, hq, he, q⟩ := h
  cases rx
  obtain ⟨t, rfl⟩ := ry
  obtain ⟨its, r, pl, hz⟩ := I.tuple hq
  obtain ⟨j, h1, h2, h3, h4, h5⟩ := atI_get he
  obtain ⟨w, ew, rw'⟩ := r.get h2
  have hl := r.length
  have hn := line63
  have fin : EP X pins σ Q w s := ⟨z, H, I, rw', q⟩
  exact subscriptTail_builtinR (x := w) pl.typeIs slot_tuple_getitem.lookup
    (getItem_tuple (j := j) (Q := fun r s' => r = w ∧ EP X pins σ Q r s') pl (by lia) (by lia) (by rw [List.size_toArray, ← hl]; exact h1) (by simpa using ew) ⟨rfl, fin⟩) hs
/-! ### xs[i] = v, any sign -/
/-! ### slices -/
theorem slice_bounds (lo hi : Option Int) (n : Nat) : (sliceBounds lo hi none n).1 = ((HT.sIx n 0 lo : Nat) : Int) ∧ (sliceBounds lo hi none n).2.1 = ((HT.sIx n n hi : Nat) : Int) ∧ (sliceBounds lo hi none n).2.2 = 1 := by
  refine ⟨?_, ?_, rfl⟩
  · cases lo with
    | none => simp [sliceBounds, HT.sIx]
    | some i =>
      simp only [sliceBounds, HT.sIx, Option.getD_none, show (1 : Int) > 0 by decide, if_true]
      by_cases h : i < 0
      · simp only [h, if_true] <;> lia
      · simp only [h, if_false] <;> lia
  · cases hi with
    | none => simp [sliceBounds, HT.sIx]
    | some i =>
      simp only [sliceBounds, HT.sIx, Option.getD_none, show (1 : Int) > 0 by decide, if_true]
      by_cases h : i < 0
      · simp only [h, if_true] <;> lia
      · simp only [h, if_false] <;> lia
theorem slicePick_cut (its : List Value) (lo hi : Option Int) : slicePick its.toArray lo hi none = ((its.drop (HT.sIx its.length 0 lo)).take (HT.sIx its.length its.length hi - HT.sIx its.length 0 lo)).toArray := by
  obtain ⟨h1, h2, h3⟩ := slice_bounds lo hi its.toArray.size
  unfold slicePick
  rw [h1, h2, h3]
  simp only [sliceRange_one, pick_run, List.size_toArray] <;> rfl
/-- xs[lo:hi] of a list: a new list -/
def rSlL (K : PySem.W.Frag) : V → Option Int → Option Int → Hp → VK → Prop := fun x lo hi H Q => ∃ a xs, x = .ref a ∧ SqL K H a xs ∧ ∀ p, H p = none → Q (.ref p) (upd H p (.lst (cutV xs lo hi)))
theorem sl_list : SlR X (rSlL X.K) := by
  intro pins s σ H x v vl vu lo hi sl Q I rx hs pl pu h
  obtain ⟨a, xs, rfl, hx, q⟩ := h
  cases rx
  obtain ⟨its, r, ht, hz⟩ := I.list hx
  have hlen := r.length
  refine ⟨"list", _, slot_list_getitem.lookup, ht.isList.typeIs, ?_⟩
  refine wpAny_getItem_list_slice ht.isList hs pl pu .none (by simp) ?_ (by rw [List.size_toArray] <;> lia)
  rw [slicePick_cut, ← hlen]
  refine ⟨.ref s.heap.objs.size, _, I.laid (t' := s.toks) (o := .lst (cutV xs lo hi)) (fun b ob q => Heap.get?_push_of_some _ q) (Nat.le_refl _) ?_, rfl, q _ (I.hok.fresh (Nat.le_refl _))⟩
  exact ⟨Nat.le_trans (cutV_length xs lo hi) hz, _, 0, (r.drop (HT.sIx xs.length 0 lo)).take (HT.sIx xs.length xs.length hi - HT.sIx xs.length 0 lo), Heap.get?_push_size _ rfl⟩

/-! ### in, not in: flat items -/
def flatV : V → Bool
  | .non => true
  | .bl _ => true
  | .int _ => true
  | .str _ => true
  | _ => false
/-- == of flat values -/
def eqV : V → V → Bool
  | .non, .non => true
  | .bl a, .bl b => a == b
  | .bl a, .int b => (if a then 1 else 0) == b
  | .int a, .bl b => a == (if b then 1 else 0)
  | .int a, .int b => a == b
  | .str a, .str b => a == b
  | _, _ => false
theorem eqAt_V {A : Around} {s : Shared} {y x : V} {u v : Value} (ry : RelV y u) (rx : RelV x v) (fy : flatV y = true) (fx : flatV x = true) : SeqAt.EqAt A s u v (eqV y x) := by
  cases y with
  | non =>
    cases ry
    cases x with
    | non => cases rx; exact SeqAt.EqAt.same _
    | bl b => cases rx; exact SeqAt.EqAt.none_bool b
    | int b => obtain ⟨t, rfl⟩ := rx; exact SeqAt.EqAt.none_int b t
    | str b => obtain ⟨t, rfl⟩ := rx; exact SeqAt.EqAt.none_str b t
    | _ => exact absurd (show false = true from fx) Bool.false_ne_true
  | bl a =>
    cases ry
    cases x with
    | non => cases rx; exact SeqAt.EqAt.bool_none a
    | bl b => cases rx; exact SeqAt.EqAt.bool_bool a b
    | int b => obtain ⟨t, rfl⟩ := rx; exact SeqAt.EqAt.bool_int a b t
    | str b => obtain ⟨t, rfl⟩ := rx; exact SeqAt.EqAt.bool_str a b t
    | _ => exact absurd (show false = true from fx) Bool.false_ne_true
  | int a =>
    obtain ⟨t', rfl⟩ := ry
    cases x with
    | non => cases rx; exact SeqAt.EqAt.int_none a t'
    | bl b => cases rx; exact SeqAt.EqAt.int_bool a t' b
    | int b => obtain ⟨t, rfl⟩ := rx; exact SeqAt.EqAt.int_int a t' b t
    | str b => obtain ⟨t, rfl⟩ := rx; exact SeqAt.EqAt.int_str a t' b t
    | _ => exact absurd (show false = true from fx) Bool.false_ne_true
  | str a =>
    obtain ⟨t', rfl⟩ := ry
    cases x with
    | non => cases rx; exact SeqAt.EqAt.str_none a t'
    | bl b => cases rx; exact SeqAt.EqAt.str_bool a t' b
    | int b => obtain ⟨t, rfl⟩ := rx; exact SeqAt.EqAt.str_int a t' b t
    | str b => obtain ⟨t, rfl⟩ := rx; exact SeqAt.EqAt.str_str a t' b t
    | _ => exact absurd (show false = true from fx) Bool.false_ne_true
  | _ => exact absurd (show false = true from fy) Bool.false_ne_true
/-- the items' answers, read off the values (a value's own answer does not lean on its token) -/
def eqU (x : V) (u : Value) : Bool := match u with
  | .none => eqV .non x
  | .bool b => eqV (.bl b) x
  | .int i _ => eqV (.int i) x
  | .str z _ => eqV (.str z) x
  | _ => false
theorem eqU_of {x y : V} {u : Value} (r : RelV y u) (f : flatV y = true) : eqU x u = eqV y x := by
  cases y with
  | non => cases r; rfl
  | bl b => cases r; rfl
  | int i => obtain ⟨t, rfl⟩ := r; rfl
  | str z => obtain ⟨t, rfl⟩ := r; rfl
  | _ => exact absurd (show false = true from f) Bool.false_ne_true
theorem any_eqU {x : V} : ∀ {xs : List V} {us : List Value}, Vals xs us → xs.all flatV = true → us.any (eqU x) = xs.any fun y => eqV y x
  | _, _, .nil, _ => rfl
  | y :: xs, u :: us, .cons r t, f => by
    rw [List.all_cons, Bool.and_eq_true] at f
    rw [List.any_cons, List.any_cons, eqU_of r f.1, any_eqU t f.2]
theorem mem_eqAt {A : Around} {s : Shared} {x : V} {v : Value} (rx : RelV x v) (fx : flatV x = true) : ∀ {xs : List V} {us : List Value}, Vals xs us → xs.all flatV = true → ∀ u ∈ us, SeqAt.EqAt A s u v (eqU x u)
  | _, _, .nil, _ => fun u hu => by cases hu
  | y :: xs, u :: us, .cons r t, f => fun u' hu => by
    rw [List.all_cons, Bool.and_eq_true] at f
    rcases List.mem_cons.mp hu with rfl | hu
    · rw [eqU_of r f.1]; exact eqAt_V r rx f.1 fx
    · exact mem_eqAt rx fx t f.2 u' hu
def inV (x : V) (xs : List V) : Bool := xs.any fun y => eqV y x
/-- x in a list or tuple of flat items -/
def rIn (K : PySem.W.Frag) (neg : Bool) : R2 := fun x y H Q => ∃ p xs, y = .ref p ∧ (SqL K H p xs ∨ SqT K H p xs) ∧ flatV x = true ∧ xs.all flatV = true ∧ Q (.bl (if neg then !inV x xs else inV x xs)) H
theorem op_notIn_seq : OpR X (compareOp .NotIn) (rIn X.K true) := by
  intro pins s σ H x y v u Q I rx ry h
  obtain ⟨p, xs, rfl, hq, fx, fs, q⟩ := h
  cases ry
  rcases hq with hq | hq
  · obtain ⟨its, r, pl, hz⟩ := I.list hq
    refine SeqAt.notIn_listAt (eqU x) pl.isList (fun w hw => mem_eqAt rx fx r fs w (by simpa using hw)) ⟨.bl _, H, I, rfl, ?_⟩
    rw [show its.toArray.any (eqU x) = its.any (eqU x) by simp, any_eqU r fs]
    exact q
  · obtain ⟨its, r, pl, hz⟩ := I.tuple hq
    refine SeqAt.notIn_tupleAt (eqU x) pl (fun w hw => mem_eqAt rx fx r fs w (by simpa using hw)) ⟨.bl _, H, I, rfl, ?_⟩
    rw [show its.toArray.any (eqU x) = its.any (eqU x) by simp, any_eqU r fs]
    exact q
/-! ### len, list(x), tuple(x) of any list or tuple that is read -/
theorem call_len_seq : CallR X (.builtin "len") (fun xs H Q => ∃ p ys, xs = [.ref p] ∧ (SqL X.K H p ys ∨ SqT X.K H p ys) ∧ Q (.int ys.length) H) := by
  intro pins s σ H xs us Q I r h
  obtain ⟨p, ys, rfl, hq, q⟩ := h
  obtain ⟨u, rfl, rx⟩ := vals1 r
  cases rx
  have hn := line63
  rcases hq with hq | hq
  · obtain ⟨its, r', pl, hz⟩ := I.list hq
    have hlen := r'.length
    exact Calls.call_len_list pl.isList (by simp only [List.size_toArray] <;> lia) ⟨.int ys.length, H, I.tok _, ⟨s.toks + 1, by rw [List.size_toArray, hlen]⟩, q⟩
  · obtain ⟨its, r', pl, hz⟩ := I.tuple hq
    have hlen := r'.length
    exact len_tuple pl (by simp only [List.size_toArray] <;> lia) ⟨.int ys.length, H, I.tok _, ⟨s.toks + 1, by rw [List.size_toArray, hlen]⟩, q⟩
/-! ### the call of a builtin's method: o.m(..) -/
/-- the value is of that builtin type -/
def tyV (K : PySem.W.Frag) (T : String) (x : V) (H : Hp) : Prop := match x with
  | .str _ => T = "str"
  | .int _ => T = "int"
  | .ref p => (T = "list" ∧ ∃ xs, SqL K H p xs) ∨ (T = "tuple" ∧ ∃ o, K.lookup p = some o ∧ o.cls = .type "tuple" ∧ o.dict = none) ∨
      (T = "dict" ∧ ((∃ kvs, H p = some (.dK kvs)) ∨ ∃ kvs, H p = some (.dT kvs))) ∨ (T = "set" ∧ ∃ S n, H p = some (.set S n))
  | _ => False
theorem tyV_is {pins : List (Addr × Obj)} {σ : St} {H : Hp} {s : Shared} {T : String} {x : V} {v : Value} (I : Inv X pins σ H s) (r : RelV x v) (ty : tyV X.K T x H) :
    s.TypeIs v T ∧ ∀ a, v = .ref a → ∃ ob, s.heap.get? a = some ob ∧ ob.dict = none := by
  cases x with
  | str z =>
    obtain ⟨t, rfl⟩ := r
    cases (show T = "str" from ty)
    exact ⟨typeIs_str s z t, fun _ e => nomatch e⟩
  | int i =>
    obtain ⟨t, rfl⟩ := r
    cases (show T = "int" from ty)
    exact ⟨typeIs_int s i t, fun _ e => nomatch e⟩
  | ref p =>
    cases r
    rcases ty with ⟨rfl, xs, hq⟩ | ⟨rfl, o, hk, hc, hd⟩ | ⟨rfl, hk⟩ | ⟨rfl, S, n, hk⟩
    · obtain ⟨its, _, pl, _⟩ := I.list hq
      refine ⟨pl.isList.typeIs, fun a e => ?_⟩
      cases e
      obtain ⟨o, n, e, c, hd, _⟩ := pl
      exact ⟨o, e, hd⟩
    · refine ⟨⟨o, I.kIn p o hk, hc⟩, fun a e => ?_⟩
      cases e
      exact ⟨o, I.kIn _ o hk, hd⟩
    · have z : ∃ o, s.heap.get? p = some o ∧ o.ExactDict := by
        rcases hk with ⟨kvs, hk⟩ | ⟨kvs, hk⟩
        · obtain ⟨_, _, _, _, o, _, _, e, ex, _⟩ := I.hok p _ hk
          exact ⟨o, e, ex⟩
        · obtain ⟨_, _, _, _, o, _, _, e, ex, _⟩ := I.hok p _ hk
          exact ⟨o, e, ex⟩
      obtain ⟨o, e, ex⟩ := z
      refine ⟨⟨o, e, ex.1⟩, fun a e2 => ?_⟩
      cases e2
      exact ⟨o, e, ex.2.1⟩
    · obtain ⟨o, _, _, _, e, ex, _⟩ := I.hok p _ hk
      refine ⟨⟨o, e, ex.1⟩, fun a e2 => ?_⟩
      cases e2
      exact ⟨o, e, ex.2.1⟩
  | _ => exact False.elim ty
def tBM0 (K : PySem.W.Frag) (T : String) (r : V → List V → Hp → VK → Prop) (to : TE) : TE := fun σ H Q => to σ H fun x H1 => tyV K T x H1 ∧ r x [] H1 Q
def tBM (K : PySem.W.Frag) (T : String) (r : V → List V → Hp → VK → Prop) (to : TE) (t : TA) : TE := fun σ H Q => to σ H fun x H1 => tyV K T x H1 ∧ t σ H1 fun xs H2 => r x xs H2 Q
variable {o e : Expr} {es : List Expr} {to : TE} {t : TA} {name : Str} {apos cpos : Pos} {T id : String} {r : V → List V → Hp → VK → Prop}
theorem pe_bm0 (pa : PlainAttrs T) (slot : Slot T name id) (hty : typeOf (.builtin id) = pure (.type "method_descriptor")) (hm : MtR X id r) (ho : PE X o to)
    (hbase : attributeBase o name X.env (eval o X.env) = eval o X.env := by rfl) (hline : (apos.endLine == cpos.line) = true := by rfl) : PE X (.Call (.Attribute o name apos) [] [] cpos) (tBM0 X.K T r to) := by
  intro pins s σ H Q I h
  refine wpAny_Call_method0_late hbase hline (thn (ho pins s σ H _ I h) fun v s1 ⟨x, H1, I1, r1, ty, q1⟩ => ?_)
  obtain ⟨h1, h2⟩ := tyV_is I1 r1 ty
  exact ⟨T, id, pa, slot, hty, h1, h2, Calls.callWith_builtin rfl (PySem.evalArgs_none (hm pins s1 σ H1 x [] v [] Q I1 r1 .nil q1))⟩
theorem pe_bm (pa : PlainAttrs T) (slot : Slot T name id) (hty : typeOf (.builtin id) = pure (.type "method_descriptor")) (hm : MtR X id r) (ho : PE X o to) (ha : PA X (e :: es) t)
    (hbase : attributeBase o name X.env (eval o X.env) = eval o X.env := by rfl)
    (hfew : ((backTo cpos (starEach (e :: es) X.env)).all (fun x => !x.1) && (backToKw cpos (keywordEach [] X.env)).all (fun x => x.1.isSome)
      && decide ((e :: es).length + ([] : List Keyword).length + (if ([] : List Keyword).isEmpty then 0 else 1) < 30)) = true := by rfl)
    (hline : (apos.endLine == cpos.line) = true := by rfl) (hs : starEach (e :: es) X.env = (false, eval e X.env) :: starEach es X.env := by rfl) (hplain : (backTo cpos (starEach es X.env)).any (·.1) = false := by rfl) :
    PE X (.Call (.Attribute o name apos) (e :: es) [] cpos) (tBM X.K T r to t) := by
  intro pins s σ H Q I h
  refine wpAny_Call_method_late hbase hfew hline rfl (thn (ho pins s σ H _ I h) fun v s1 ⟨x, H1, I1, r1, ty, q1⟩ => ?_)
  obtain ⟨h1, h2⟩ := tyV_is I1 r1 ty
  refine ⟨T, id, pa, slot, hty, h1, h2, ?_⟩
  have hA := ha cpos pins s1 σ H1 _ I1 q1
  rw [hs] at hA ⊢
  refine Calls.callWith_builtin (by show (false || (backTo cpos (starEach es X.env)).any (·.1)) = false; rw [hplain] <;> rfl) (Calls.evalArgs_plain ?_)
  exact thn hA fun us s2 ⟨vs, H2, I2, r2, q2⟩ => hm pins s2 σ H2 x vs v us Q I2 r1 r2 q2
/- xs.append(e), list.index on a module's tuple .. are MtR facts of 06m -/
end
end L2

namespace L2
open PySem PySem.Spec PyProof.Rows

def MtM (X : Cx) (id : String) (r : V → List V → Hp → VK → Prop) : Prop :=
  ∀ (pins : List (Addr × Obj)) (s : Shared) (σ : St) (H : Hp) (x : V) (xs : List V) (v : Value) (us : List Value) (Q : VK), Inv X pins σ H s → RelV x v → Vals xs us → r x xs H Q →
    wpAny (model X.prog X.w) X.A (call (.builtin id) (v :: us)) (EP X pins σ Q) X.xe s

/-! ### lists of values -/
theorem Vals.one : ∀ {x : V} {us : List Value}, Vals [x] us → ∃ u, us = [u] ∧ RelV x u
  | _, _, .cons r .nil => ⟨_, rfl, r⟩
theorem Vals.two : ∀ {x y : V} {us : List Value}, Vals [x, y] us → ∃ u v, us = [u, v] ∧ RelV x u ∧ RelV y v := by
  intro x y us h; cases h with
  | cons r t => cases t with
    | cons q t => cases t; exact ⟨_, _, rfl, r, q⟩
theorem Vals.zero : ∀ {us : List Value}, Vals [] us → us = []
  | _, .nil => rfl
theorem Vals.dropLast {xs : List V} {us : List Value} (h : Vals xs us) : Vals xs.dropLast us.dropLast := by
  induction h with
  | nil => exact .nil
  | cons r t ih =>
    cases t with
    | nil => exact .nil
    | cons q t' => exact .cons r ih
theorem erase_last {α : Type} (l : List α) : l.eraseIdx (l.length - 1) = l.dropLast := by
  induction l with
  | nil => rfl
  | cons a r ih =>
    cases r with
    | nil => rfl
    | cons b r =>
      have e : (a :: b :: r).length - 1 = ((b :: r).length - 1) + 1 := by
        have h1 : (a :: b :: r).length = r.length + 2 := rfl
        have h2 : (b :: r).length = r.length + 1 := rfl
        lia
      rw [e, List.eraseIdx_cons_succ, ih]
      all_goals rfl
section
variable {X : Cx} {pins : List (Addr × Obj)} {σ : St} {H : Hp} {s : Shared} {l b : Addr} {xs ys zs : List V}

/-! ### the two steps: a tracked list is rewritten, a new list is laid -/
theorem Inv.lset {its its' : List Value} {n : Nat} {f : Array Value → Array Value} {t' : Nat} (I : Inv X pins σ H s) (hH : H l = some (.lst xs))
    (e : s.heap.get? l = some { cls := .type "list", data := .seq its.toArray n }) (hf : f its.toArray = its'.toArray) (hv : Vals ys its') (hz : ys.length ≤ sizeLine) :
    Inv X pins σ (upd H l (.lst ys)) { s with heap := s.heap.update l (Obj.mapSeq f), toks := t' } := by
  have q := PySem.IsL.update e f
  rw [hf] at q
  refine I.write (x := l) (e := l) (by rw [hH]; exact trivial) (.inl rfl) (fun b' u hb hu => (Heap.get?_update_other s.heap (Obj.mapSeq f) (Ne.symm hb)).trans hu) ⟨_, q⟩ ?_
  exact ⟨hz, its', _, hv, q⟩
theorem Inv.lnew {its : List Value} {t' : Nat} (I : Inv X pins σ H s) (hv : Vals ys its) (hz : ys.length ≤ sizeLine) :
    Inv X pins σ (upd H s.heap.objs.size (.lst ys)) { s with heap := s.heap.push { cls := .type "list", data := .seq its.toArray }, toks := t' } :=
  I.laid (fun _ _ q => Heap.get?_push_of_some _ q) (Nat.le_refl _) ⟨hz, its, 0, hv, Heap.get?_push_size _ rfl⟩
theorem Inv.fresh (I : Inv X pins σ H s) : H s.heap.objs.size = none := I.hok.fresh (Nat.le_refl _)
theorem Inv.lstM (I : Inv X pins σ H s) (hH : H l = some (.lst xs)) : xs.length ≤ sizeLine ∧ ∃ (its : List Value) (n : Nat), Vals xs its ∧ xs.length = its.length ∧ s.heap.get? l = some { cls := .type "list", data := .seq its.toArray n } := by
  obtain ⟨z, its, n, r, e⟩ := I.hok l _ hH
  exact ⟨z, its, n, r, r.length, e⟩

end

section
variable {X : Cx}

/-! ### methods -/
def rAppend : V → List V → Hp → VK → Prop := fun x vs H Q => ∃ l xs y, x = .ref l ∧ vs = [y] ∧ H l = some (.lst xs) ∧ xs.length < sizeLine ∧ Q .non (upd H l (.lst (xs ++ [y])))
theorem mt_append : MtM X "list.append" rAppend := by
  intro pins s σ H x vs v us Q I rx rv h
  obtain ⟨l, xs, y, rfl, rfl, hH, hz, q⟩ := h
  cases rx
  obtain ⟨u, rfl, ru⟩ := rv.one
  obtain ⟨z, its, n, r, hl, e⟩ := I.lstM hH
  refine call_meets F.slot_list_append ⟨_, e, rfl⟩ F.entry_list_append (F.args_list_append_2 _ _) (PySem.list_append l its.toArray n u (by rw [List.size_toArray]; lia)) ⟨e, ?_⟩
  refine ⟨.non, _, I.lset (its' := its ++ [u]) hH e (by simp) (r.append (.cons ru .nil)) ?_, rfl, q⟩
  rw [List.length_append, List.length_singleton]
  lia

def rPop : V → List V → Hp → VK → Prop := fun x vs H Q => ∃ l xs y, x = .ref l ∧ vs = [] ∧ H l = some (.lst xs) ∧ xs[xs.length - 1]? = some y ∧ Q y (upd H l (.lst xs.dropLast))
theorem mt_pop : MtM X "list.pop" rPop := by
  intro pins s σ H x vs v us Q I rx rv h
  obtain ⟨l, xs, y, rfl, rfl, hH, hy, q⟩ := h
  cases rx
  have hus := rv.zero
  subst hus
  obtain ⟨z, its, n, r, hl, e⟩ := I.lstM hH
  obtain ⟨u, hu, ru⟩ := r.get hy
  have hy' : its.toArray[its.toArray.size - 1]? = some u := by
    show its.toArray[its.length - 1]? = some u
    rw [← Array.getElem?_toList, ← hl]
    exact hu
  refine call_meets F.slot_list_pop ⟨_, e, rfl⟩ F.entry_list_pop (F.args_list_pop_1 _) (MeetsSeq.list_pop_last l its.toArray n u hy' (by rw [List.size_toArray]; lia)) ⟨e, ?_⟩
  refine ⟨y, _, I.lset (its' := its.dropLast) hH e ?_ r.dropLast ?_, ru, q⟩
  · show its.toArray.eraseIdxIfInBounds (its.toArray.size - 1) = its.dropLast.toArray
    rw [List.size_toArray, List.eraseIdxIfInBounds_toArray, erase_last]
  · rw [List.length_dropLast]
    lia

/-! ### list + list, list += list, list * int -/
def rCat : R2 := fun x y H Q => ∃ l b xs zs, x = .ref l ∧ y = .ref b ∧ H l = some (.lst xs) ∧ H b = some (.lst zs) ∧ xs.length + zs.length ≤ sizeLine ∧ ∀ p, H p = none → Q (.ref p) (upd H p (.lst (xs ++ zs)))
theorem op_cat : OpR X (binaryOp .Add) rCat := by
  intro pins s σ H x y v u Q I rx ry h
  obtain ⟨l, b, xs, zs, rfl, rfl, hH, hB, hz, q⟩ := h
  cases rx
  cases ry
  obtain ⟨z, its, n, r, hl, e⟩ := I.lstM hH
  obtain ⟨z2, its2, n2, r2, hl2, e2⟩ := I.lstM hB
  refine PySem.P.add_list e e2 ?_ (by rw [List.size_toArray, List.size_toArray]; lia)
  have ea : its.toArray ++ its2.toArray = (its ++ its2).toArray := by simp
  rw [ea]
  exact ⟨.ref _, _, I.lnew (t' := s.toks) (r.append r2) (by rw [List.length_append]; lia), rfl, q _ I.fresh⟩
/-! ### del xs[i] -/
end

/-! ### xs[a:b] = ys -/
section
variable {prog : Program} {w : World} {A : Around} {E : Value → Shared → Prop} {s : Shared}
end

section
variable {X : Cx}
end
end L2

namespace Att
open PySem PySem.W PySem.Calls PyProof.Rows

/-! ### the script -/
theorem ints_of_wellAll {P : Params} {h : Heap} : ∀ (ns : List Int) (vs : List Value), WellAll P h vs (ns.map WData.int) → IntsAre vs ns := by
  intro ns
  induction ns with
  | nil =>
    intro vs w
    rw [List.map_nil] at w
    cases w
    exact .nil
  | cons n ns ih =>
    intro vs w
    rw [List.map_cons] at w
    cases w with
    | cons a b =>
      cases a
      exact .cons _ _ (ih _ b)

theorem script_of {l : OpenLaw} {n : Nat} (hn : l.most = some n) {P : Params} {h : Heap} {args : List WData} {vals : List Value}
    (hpre : l.row.toRowW.claim.pre args = true) (hwl : WellAll P h vals args) :
    ∃ a vs ns, vals = [Value.ref a] ∧ args = [WData.list (ns.map WData.int)] ∧ h.get? a = some { cls := .type "list", data := .seq vs.toArray } ∧ IntsAre vs ns ∧ ns.length ≤ n := by
  have hsh : WShape.hasAll [] args [.list .int] = true := (pre_splitW hpre).1
  have hc : l.pre.holds [] { args := args } = true := (pre_splitW hpre).2
  obtain ⟨d, r, rfl, h1, h2⟩ := hasAllW_cons hsh
  obtain rfl := hasAllW_nil h2
  obtain ⟨xs, rfl, h3⟩ := hasW_list h1
  obtain ⟨ns, rfl⟩ := items_int h3
  have hlen : ns.length ≤ n := by
    unfold OpenLaw.pre at hc
    have h4 : (WTm.not (.lt (.lit (.int (n : Int))) (.len (.arg 0)))).holds [] { args := [.list (ns.map .int)] } = true := by
      have h4 := (holds_andW hc).1
      rw [hn] at h4
      exact h4
    have h5 := condW_of h4 (w_not (w_lt w_lit (w_len_list (w_arg rfl))))
    rw [List.length_map] at h5
    refine Nat.le_of_not_lt fun q => ?_
    have q' : (n : Int) < ((ns.length : Nat) : Int) := by lia
    first
      | (rw [decide_eq_true q'] at h5; exact absurd h5 (by decide))
      | (simp at h5; lia)
  cases hwl with
  | cons w1 w2 =>
    cases w2
    cases w1 with
    | list ho hall => exact ⟨_, _, ns, rfl, rfl, ho, ints_of_wellAll ns _ hall, hlen⟩

theorem post_true (l : OpenLaw) (args : List WData) : l.row.toRowW.claim.post args (.bool true) args = true :=
  postW_of (r := l.row.toRowW) (X := (true == true))
    (show WShape.has [] (.bool true) .bool = true by first | rfl | decide | simp [WShape.has, WShape.arms, WShape.armsAll])
    (show (WTm.eq .res (.lit (.bool true))).value [] { args := args, res := some (.bool true), after := args } = some (.bool (true == true)) from w_eq_bool (w_res rfl) w_lit) rfl

/-! ### the attachment: holds_open's last premise (the goal 'hc' behind k_head) from a wpAny of the law's body -/
/-- the same from a codeAny of the CALL (for a layer whose function contracts speak of calls) -/
theorem attach_call {l : OpenLaw} {n : Nat} {q : Program} {loose : List Str} {XP : (Str → Option Value) → Heap → Prop} {YP : World → Heap → Prop} {d : DefRec}
    (hn : l.most = some n) (hdf : d.params.defaults = [])
    (call : ∀ (w : World) (s₀ s₁ : Shared) (mg mb : Str → Option Value) (fa : Addr) (o : Obj) (pm cd doc : Value) (a : Addr) (vs : List Value) (ns : List Int),
      Ground q loose [] XP w s₀ mg mb s₁.heap → YP w s₁.heap →
      s₁.heap.get? fa = some o → o.data = .func (docDef d.name d.params d.body d.scope pm cd doc) → s₁.heap.CodeRec cd d.name → mg d.name = some (.ref fa) →
      s₁.heap.get? a = some { cls := .type "list", data := .seq vs.toArray } → IntsAre vs ns → ns.length ≤ n → s₁.gens = #[] →
      codeAny (model l.prog w) callerA (.call (.ref fa) ⟨[.ref a], []⟩) (fun r s' => r = .ok (.ret (.bool true)) ∧ OldK s₁.heap s'.heap ∧ s'.os = s₁.os ∧ AllBare s'.gens) s₁) :
    WalkO q loose XP YP l.row.toRowW d [] (fun f vs => PySem.call f vs) := by
  intro w s₀ s₁ mg mb G Y fa o pm cd doc dV kV ho hd hcd hD hmg hg args vals as hpre hlay hrd hwl hlo
  obtain rfl : dV = .none := Dflts.none hD hdf
  obtain rfl : kV = .none := Dflts.noKw hD
  obtain ⟨a, vs, ns, rfl, rfl, hobj, hints, hlen⟩ := script_of hn hpre hwl
  refine enter_call (codeAny_mono (call w s₀ s₁ mg mb fa o pm cd doc a vs ns G Y ho (fd_plain hd) hcd hmg hobj hints hlen hg) fun r s' hq => ?_)
  obtain ⟨rfl, h2, h3, h4⟩ := hq
  exact ⟨.inl ⟨.bool true, .bool true, [], rfl, fun _ => rfl, .bool true, post_true l _, fun _ => ⟨List.Pairwise.nil, fun _ hm => (nomatch hm)⟩⟩, h2, h3, h4⟩

/-! ### rules over ANY heap (no ledger) from facts about the written part K: the library's own take a ledger (News) for what they write -/
section
variable {prog : Program} {w : World} {A : Around} {E : Value → Shared → Prop} {s : Shared} {K : Frag}

/-! the whole heap as the ledger: makes every rule that writes through a ledger a rule over any heap -/
end
end Att

namespace L2
open PySem PySem.Spec PyProof.Rows

theorem vals_ints : ∀ {vs : List Value} {ns : List Int}, IntsAre vs ns → Vals (ns.map V.int) vs
  | _, _, .nil => .nil
  | _, _, .cons n t h => .cons ⟨t, rfl⟩ (vals_ints h)

/-- nothing is tracked but the script, known to the object (or it is an object of the module) -/
def Only (H : Hp) : Prop := ∀ b, H b = none ∨ ∃ o xs, H b = some (.frz o (.lst xs))

/-- THE HEAD: the law's promise, at the heap behind the top. F, the promise of the law's def, may use that base is part of the heap (so K.In base, base.Ns mainGlobals mg stand in Mod) -/
theorem law_call {P : Program} {w : World} {K : PySem.W.Frag} {mg mb : Str → Option Value} {CX : CXT} {k : Nat} {fa a : Addr} {fd : FuncData} {x : Str} {sp : Sp} {s₁ : Shared} {vs : List Value} {ns : List Int}
    (KX : K.In s₁.heap) (hns : s₁.heap.Ns mainGlobals mg) (hb : s₁.heap.Ns builtinsNs mb) (hbb : ∀ x : Str, x ≠ "__name__" → mb x = bootBuiltins x) (hlim : s₁.heap.NoLimit) (hg : s₁.gens = #[])
    (ha : s₁.heap.get? a = some { cls := .type "list", data := .seq vs.toArray }) (hi : IntsAre vs ns) (hl : ns.length ≤ sizeLine) (hr : Room k callerA)
    (F : ∀ base : Heap, K.In base → base.Ns mainGlobals mg → FnOk P w K mg base CX k fa fd [x] sp) (hbind : ∀ (s : Shared) (u : Value), BindsTo s fd ⟨[u], []⟩ [(x, u)])
    (hsp : ∀ H : Hp, Only H → SqL K H a (ns.map V.int) → sp [.ref a] H (fun v _ => v = .bl true) fun _ _ _ => False)
    (hCX : ∀ H e s', CX [] H s₁ (fun _ _ _ => False) e s' → False) :
    codeAny (model P w) callerA (.call (.ref fa) ⟨[.ref a], []⟩) (fun r s' => r = .ok (.ret (.bool true)) ∧ OldK s₁.heap s'.heap ∧ s'.os = s₁.os ∧ AllBare s'.gens) s₁ := by
  have rv := vals_ints hi
  have lenV := hi.length
  -- from an abstract heap in which nothing but the script may be tracked
  have core : ∀ H : Hp, Only H → SqL K H a (ns.map V.int) → HOk P w H s₁.heap → (∀ b, H b ≠ none → b = a) → (H a ≠ none → K.lookup a = none) →
      codeAny (model P w) callerA (.call (.ref fa) ⟨[.ref a], []⟩) (fun r s' => r = .ok (.ret (.bool true)) ∧ OldK s₁.heap s'.heap ∧ s'.os = s₁.os ∧ AllBare s'.gens) s₁ := by
    intro H hO hS hok hA hK
    have base_of : ∀ {b : Addr} {o : Obj}, s₁.heap.get? b = some o → H b = none → (hidT s₁.heap H).get? b = some o := fun e n => hidT_get e n
    have noA : ∀ {b : Addr} {o : Obj} {es : Array DictEntry} {ep : Nat}, s₁.heap.get? b = some o → o.data = .dict es ep → H b = none := fun {b o es ep} e d => by
      cases q : H b with
      | none => rfl
      | some u =>
        have e' : b = a := hA b (by rw [q]; simp)
        subst e'
        rw [ha] at e; cases e
        have d' : Data.seq vs.toArray _ = Data.dict es ep := d
        cases d'
    have nsK : ∀ {b : Addr} {m : Str → Option Value}, s₁.heap.Ns b m → (hidT s₁.heap H).Ns b m := fun {b m} ⟨o, es, ep, e, d, r⟩ => ⟨o, es, ep, base_of e (noA e d), d, r⟩
    have hKb : K.In (hidT s₁.heap H) := fun b o e => base_of (KX b o e) (by
      cases q : H b with
      | none => rfl
      | some u =>
        have e' : b = a := hA b (by rw [q]; simp)
        subst e'
        rw [hK (by rw [q]; simp)] at e; cases e)
    have hM : Mod K mg (hidT s₁.heap H) := ⟨hKb, nsK hns, ⟨mb, nsK hb, hbb⟩, let ⟨mc, h1, h2⟩ := hlim; ⟨mc, nsK h1, h2⟩⟩
    have e0 : Env0 P w K mg (hidT s₁.heap H) callerA [] s₁ H := ⟨rfl, hM, fun b o e => of_hidT e, Nat.le_of_eq (hidT_size _ _), trivial, fun b hb => absurd (show b ∈ ([] : List Addr) from hb) (by simp), hok, .of_eq hg⟩
    refine codeAny_mono ((F _ hKb (nsK hns)).run callerA [] s₁ H ⟨[.ref a], []⟩ [.ref a] [.ref a] _ _ hr e0 (hbind s₁ (.ref a)) (.cons rfl .nil) (hsp H hO hS)) fun r s' h => ?_
    cases r with
    | error e => exact (hCX H e s' h).elim
    | ok fl =>
      cases fl with
      | next => exact False.elim h
      | brk => exact False.elim h
      | cont => exact False.elim h
      | ret u =>
        obtain ⟨v, H', os, bare, un, hok', r', q⟩ := h
        have q' : v = .bl true := q
        subst q'
        obtain rfl : u = Value.bool true := r'
        refine ⟨rfl, OldK.of_keep fun b o e => ?_, os, bare⟩
        cases q : H b with
        | none => exact un.keep b o e q (by intro z; exact absurd (show b ∈ ([] : List Addr) from z) (by simp)) (by simp)
        | some u =>
          rcases hO b with z | ⟨ob, xs, z⟩
          · rw [q] at z; cases z
          · have z2 := un.frzs b ob _ z
            obtain ⟨e1, _⟩ := hok b _ z
            obtain ⟨e2, _⟩ := hok' b _ z2
            rw [e] at e1; cases e1
            exact e2
  cases hk : K.lookup a with
  | some o =>
    -- the script is one of the module's own objects
    have e := KX a o hk
    rw [ha] at e
    cases e
    refine core (fun _ => none) (fun _ => .inl rfl) (.inr ⟨_, vs.toArray, _, hk, rfl, rfl, rfl, by rw [List.size_toArray, lenV]; exact hl, by simpa using rv⟩) (fun b u z => by have z' : (none : Option HO) = some u := z; cases z') (fun b z => absurd rfl z) fun z => absurd rfl z
  | none =>
    refine core (fun b => if b = a then some (.frz { cls := .type "list", data := .seq vs.toArray } (.lst (ns.map V.int))) else none) (fun b => ?_) (.inl (.inr ⟨{ cls := .type "list", data := .seq vs.toArray }, if_pos rfl⟩)) (fun b u z => ?_) (fun b z => ?_) fun _ => hk
    · by_cases hb : b = a
      · exact .inr ⟨_, _, if_pos hb⟩
      · exact .inl (if_neg hb)
    · by_cases hb : b = a
      · have z' := (if_pos hb).symm.trans z
        cases z'
        subst hb
        exact ⟨ha, by rw [List.length_map]; exact hl, vs, _, rv, ha⟩
      · have z' := (if_neg hb).symm.trans z
        cases z'
    · by_cases hb : b = a
      · exact hb
      · exact absurd (if_neg hb) z
end L2

namespace L2
open PySem PySem.Spec PyProof.Rows

/-- the goal that k_head leaves (case hc), from the law's promise. F gives the function object fd (K's own) once, then the promise over every base -/
theorem walk_of {l : PySem.W.OpenLaw} {n k : Nat} {q : Program} {loose : List Str} {XP : (Str → Option Value) → Heap → Prop} {YP : World → Heap → Prop} {d : DefRec} {K : Params → PySem.W.Frag} {CX : World → CXT} {sp : World → Sp} {x : Str}
    (hn : l.most = some n) (hn2 : n ≤ sizeLine) (hdf : d.params.defaults = []) (hr : Room k callerA)
    (hY : ∀ (w : World) (h : Heap), YP w h → (K w.params).In h)
    (F : ∀ (w : World) (mg : Str → Option Value) (fa : Addr) (h : Heap), (K w.params).In h → h.Ns mainGlobals mg → mg d.name = some (.ref fa) →
      ∃ fd : FuncData, (∀ (s : Shared) (u : Value), BindsTo s fd ⟨[u], []⟩ [(x, u)]) ∧
        ∀ base : Heap, (K w.params).In base → base.Ns mainGlobals mg → FnOk l.prog w (K w.params) mg base (CX w) k fa fd [x] (sp w))
    (hsp : ∀ (w : World) (H : Hp) (a : Addr) (ns : List Int), ns.length ≤ n → Only H → SqL (K w.params) H a (ns.map V.int) → sp w [.ref a] H (fun v _ => v = .bl true) fun _ _ _ => False)
    (hCX : ∀ (w : World) (H : Hp) (s : Shared) (e : Value) (s' : Shared), CX w [] H s (fun _ _ _ => False) e s' → False) :
    PySem.W.WalkO q loose XP YP l.row.toRowW d [] (fun f vs => PySem.call f vs) := by
  refine Att.attach_call hn hdf fun w s₀ s₁ mg mb fa o pm cd doc a vs ns G Y ho hd hcd hmg hobj hints hlen hg => ?_
  have KX := hY w _ Y
  obtain ⟨fd, hb, hF⟩ := F w mg fa _ KX G.T.g hmg
  exact law_call KX G.T.g G.T.b G.T.builtins G.T.nolimit hg hobj hints (Nat.le_trans hlen hn2) hr hF hb (fun H hO hS => hsp w H a ns hlen hO hS) fun H e s' => hCX w H s₁ e s'
end L2

/- THE LAST THEOREM (shape; LID, My.* are yours):
   My.Adr: a structure of the addresses that your layer names (classes, functions); My.Txt K t: a structure (Prop) of the equations over K;
   My.txt_mk : {K} {implicit addresses ..} (e1 : nsIn K mainGlobals "law" = some (some (.ref f))) (e2 : K.lookup f = some ⟨oc, od, .func (fnOf "law" "law" params body scope dV kV doc pm an cdv ct), sl⟩) (e3 : codeIn K cdv "law" = true) .. : ∃ t, My.Txt K t

set_option maxRecDepth 100000 in
set_option maxHeartbeats 0 in
theorem PySem.Challenge.cw_LID_holds : PySem.Challenge.rw_LID.Holds := by
  w_on; o_law; k_head; (case hw => w_witness2)
  k_fill
  refine L2.walk_of (l := PySem.Challenge.rw_LID) (n := 63) (k := 40) (x := "script") (CX := fun w => ..) (sp := fun _ => My.sp_law) rfl (by decide) rfl ⟨rfl, by decide, by decide⟩ (fun w h Y => PySem.W.kIn_of Y) ?F ?S ?C
  case F =>
    intro w mg fa h KX G hmg
    have T : ∃ t, My.Txt (L2.KOf KX) t := by
      dsimp only [L2.KOf]                          -- K must stand as «<heap const> w.params» for k_is
      refine' My.txt_mk ?e1 ?e2 ?e3 ..
      (case e1 => PySem.W.k_is)                    -- in the order: a name -> its address -> its object -> its parts
      (case e2 => PySem.W.k_is)
      ..
    obtain ⟨t, T⟩ := T
    have e0 := hmg.symm.trans (PySem.W.mg_of KX G T.law)
    cases e0                                       -- fa is the law's own address
    exact ⟨_, fun s u => .of_eq rfl, fun base kb nb => My.law_fn T kb nb⟩     -- if «.of_eq rfl» comes too early: refine' ⟨_, ?b, fun base kb nb => My.law_fn T kb nb⟩; exact fun s u => .of_eq rfl
  case S => exact fun w H a ns hl hO hS => ..
  case C => exact ..
(the tactic k_is has no namespace: write k_is) -/

/-! SHORT WORDS over the layer: a def of the text, its body, what a loop and a test want. -/
namespace L2
open PySem PySem.Spec PyProof.Rows

/-! ### the text by places -/
/-- the j-th statement of a class's body -/
def inClass (s : Stmt) (j : Nat) : Stmt := match s with
  | .ClassDef _ _ _ body _ _ _ _ _ _ _ => body.getD j (.Pass ⟨0, 0, 0, 0⟩)
  | _ => .Pass ⟨0, 0, 0, 0⟩
def defArgs (s : Stmt) : Arguments := match s with
  | .FunctionDef _ a _ _ _ _ _ _ _ _ => a
  | _ => { posonlyargs := [], args := [], vararg := none, kwonlyargs := [], kw_defaults := [], kwarg := none, defaults := [] }
def defBody (s : Stmt) : List Stmt := match s with
  | .FunctionDef _ _ b _ _ _ _ _ _ _ => b
  | _ => []
def defScope (s : Stmt) : Scope := match s with
  | .FunctionDef _ _ _ _ _ _ sc _ _ _ => sc
  | _ => { kind := .function, names := [], isGenerator := false, isCoroutine := false }

/-! ### no exception leaves a def -/
abbrev CX0 : CXT := fun _ _ _ _ _ _ => False
abbrev E0 : XK := fun _ _ _ => False
theorem pass0 {X : Cx} : Passes CX0 X E0 := fun _ _ _ _ _ _ _ h => h.elim

/-! ### a def (or method) of the text as it stands behind the top -/
structure Fun (K : PySem.W.Frag) (x qual : Str) (st : Stmt) (f : Addr) (fd : FuncData) : Prop where
  ex : ∃ (oc : Value) (od : Option Addr) (kV doc pm : Value) (an : Option Addr) (cdv ct : Value) (osl : Array (Option Value)),
    fd = PySem.W.fnOf x qual (defArgs st) (defBody st) (defScope st) .none kV doc pm an cdv ct ∧ K.lookup f = some ⟨oc, od, .func fd, osl⟩ ∧ PySem.W.codeIn K cdv qual = true
  kp : PySem.W.keepIn K (.ref f) = true
section
variable {P : Program} {w : World} {K : PySem.W.Frag} {mg : Str → Option Value} {base : Heap}
/-- THE RULE for a def: its body as a term of rules, and the reading of that term -/
theorem Fun.ok {x qual : Str} {st : Stmt} {f : Addr} {fd : FuncData} {N ps : List Str} {k : Nat} {sp : Sp} (F : Fun K x qual st f fd) (S : FnScope N ps (defScope st)) (len : ∀ vs H Q E, sp vs H Q E → vs.length = ps.length)
    (hbody : ∀ (cdv : Value) (A : Around) (outer : List Env) (s : Shared) (H : Hp) (vs : List V) (Q : VK) (E : XK), Room k (A.deeper (envOfC qual (defScope st) s.heap.objs.size f cdv)) → sp vs H Q E →
      ∃ t, PSs (cxOf CX0 P w K mg base N qual (defScope st) f cdv A outer s H E).nox (defBody st) t ∧ t { nx := fun _ H' => Q .non H', rt := Q } (start N vs) H) : FnOk P w K mg base CX0 (k + 1) f fd ps sp := by
  obtain ⟨oc, od, kV, doc, pm, an, cdv, ct, osl, rfl, lk, hcd⟩ := F.ex
  refine fn_of lk hcd S len fun A outer s H vs Q E hr hsp => ?_
  obtain ⟨t, h, q⟩ := hbody cdv A outer s H vs Q E hr hsp
  exact ⟨t, h.nox, q⟩
/-- how its arguments bind (no defaults): h is «fun _ _ _ _ _ _ us hl => match us, hl with | [_, _], _ => rfl», one _ a parameter -/
theorem Fun.binds {x qual : Str} {st : Stmt} {f : Addr} {fd : FuncData} {ps : List Str} (F : Fun K x qual st f fd)
    (h : ∀ (kV doc pm : Value) (an : Option Addr) (cdv ct : Value) (us : List Value), us.length = ps.length → bindArgs (PySem.W.fnOf x qual (defArgs st) (defBody st) (defScope st) .none kV doc pm an cdv ct) ⟨us, []⟩ = pure (ps.zip us)) : Binds K fd ps [] := by
  obtain ⟨oc, od, kV, doc, pm, an, cdv, ct, osl, rfl, lk, hcd⟩ := F.ex
  exact .all (h kV doc pm an cdv ct)
theorem fun_mk {x qual : Str} {st : Stmt} {f : Addr} {oc : Value} {od an : Option Addr} {osl : Array (Option Value)} {kV doc pm cdv ct : Value} (l : K.lookup f = some ⟨oc, od, .func (PySem.W.fnOf x qual (defArgs st) (defBody st) (defScope st) .none kV doc pm an cdv ct), osl⟩)
    (c : PySem.W.codeIn K cdv qual = true) (k : PySem.W.keepIn K (.ref f) = true) : Fun K x qual st f (PySem.W.fnOf x qual (defArgs st) (defBody st) (defScope st) .none kV doc pm an cdv ct) := ⟨⟨oc, od, kV, doc, pm, an, cdv, ct, osl, rfl, l, c⟩, k⟩
end
theorem hu_of {A : Around} {k : Nat} (hr : Room k A) : A.units + 1 < cLine := Nat.lt_of_le_of_lt (Nat.add_le_add_left (by decide : 1 ≤ 64) _) hr.units
/-! ### expressions in short: the name that stands in the i-th slot -/
section
variable {X : Cx}
theorem pv (i : Nat) {x : Str} {pos : Pos} (hN : X.N[i]? = some x := by rfl) (hv : Vis X.env.scope x := by first | exact Or.inl rfl | exact Or.inr (Or.inl rfl) | exact Or.inr (Or.inr rfl)) (hd : (x == ("__debug__" : Str)) = false := by decide)
    (hcd : (x == ("__classdict__" : Str)) = false := by decide) : PE X (.Name x pos) (tVar i) := pe_var hN hv hd hcd
end

/-! ### tests -/
theorem iteF {A B : Prop} (h : B) : if false = true then A else B := by
  rw [if_neg Bool.false_ne_true]
  exact h
theorem iteT {A B : Prop} (h : A) : if true = true then A else B := by
  rw [if_pos rfl]
  exact h
theorem ite2 {c A B : Prop} [Decidable c] (h1 : c → A) (h2 : ¬ c → B) : if c then A else B := by
  by_cases h : c
  · rw [if_pos h]
    exact h1 h
  · rw [if_neg h]
    exact h2 h
theorem iteNS {c A B : Prop} [Decidable c] (hc : c) (h : B) : if (!decide c) = true then A else B := by
  rw [decide_eq_true hc]
  exact iteF h

/-! ### heaps -/
/-- all that was tracked is as it was -/
def Same (H H' : Hp) : Prop := ∀ b o, H b = some o → H' b = some o
theorem Same.refl (H : Hp) : Same H H := fun _ _ h => h
theorem Same.trans {H H1 H2 : Hp} (a : Same H H1) (b : Same H1 H2) : Same H H2 := fun c o h => b c o (a c o h)
theorem Same.seq {K : PySem.W.Frag} {H H' : Hp} {a : Addr} {xs : List V} (e : Same H H') (h : SqL K H a xs) : SqL K H' a xs := by
  rcases h with (h | ⟨o, h⟩) | h
  · exact .inl (.inl (e _ _ h))
  · exact .inl (.inr ⟨o, e _ _ h⟩)
  · exact .inr h

end L2

set_option Elab.async false
set_option linter.all false
set_option maxRecDepth 100000
namespace L2
open PySem PySem.Spec PyProof.Rows

/-! ### lists of pairs as tables -/
section
variable {κ : Type} [DecidableEq κ]
def valV (kvs : List (κ × V)) (k : κ) : Option V := (kvs.find? fun kv => decide (kv.1 = k)).map (·.2)
/-- in its place, or at the end -/
def putK (kvs : List (κ × V)) (k : κ) (v : V) : List (κ × V) :=
  if (kvs.any fun kv => decide (kv.1 = k)) = true then kvs.map (fun kv => if kv.1 = k then (kv.1, v) else kv) else kvs ++ [(k, v)]
theorem valV_pos {p : κ × V} {r : List (κ × V)} {k : κ} (e : p.1 = k) : valV (p :: r) k = some p.2 := by simp [valV, List.find?_cons, e]
theorem valV_neg {p : κ × V} {r : List (κ × V)} {k : κ} (e : ¬ p.1 = k) : valV (p :: r) k = valV r k := by simp [valV, List.find?_cons, e]
theorem valV_any (k : κ) : ∀ kvs : List (κ × V), (kvs.any fun kv => decide (kv.1 = k)) = (valV kvs k).isSome
  | [] => rfl
  | p :: r => by
    rw [List.any_cons]
    by_cases e : p.1 = k
    · simp only [valV_pos e, decide_eq_true e, Bool.true_or, Option.isSome_some]
    · rw [valV_neg e, decide_eq_false e, Bool.false_or]; exact valV_any k r
theorem valV_map (k j : κ) (y : V) : ∀ kvs : List (κ × V), valV (kvs.map fun kv => if kv.1 = k then (kv.1, y) else kv) j = (valV kvs j).map fun x => if j = k then y else x
  | [] => rfl
  | p :: r => by
    have ih := valV_map k j y r
    rw [List.map_cons]
    by_cases h : p.1 = k
    · rw [if_pos h]
      by_cases e : p.1 = j
      · rw [valV_pos (p := (p.1, y)) e, valV_pos e, Option.map_some, if_pos (e.symm.trans h)]
      · rw [valV_neg (p := (p.1, y)) e, valV_neg e, ih]
    · rw [if_neg h]
      by_cases e : p.1 = j
      · rw [valV_pos (p := p) e, valV_pos e, Option.map_some, if_neg (fun z => h (e.trans z))]
      · rw [valV_neg (p := p) e, valV_neg e, ih]
theorem valV_snoc (k j : κ) (y : V) : ∀ kvs : List (κ × V), valV kvs k = none → valV (kvs ++ [(k, y)]) j = if j = k then some y else valV kvs j
  | [], _ => by
    by_cases e : k = j
    · rw [if_pos e.symm]; exact valV_pos (p := (k, y)) e
    · rw [if_neg (fun z => e z.symm)]; exact valV_neg (p := (k, y)) e
  | p :: r, hn => by
    rw [List.cons_append]
    have hk : ¬ p.1 = k := fun z => by rw [valV_pos z] at hn; cases hn
    rw [valV_neg hk] at hn
    have ih := valV_snoc k j y r hn
    by_cases e : p.1 = j
    · rw [valV_pos e, valV_pos e, if_neg (fun z => hk (e.trans z))]
    · rw [valV_neg e, valV_neg e, ih]
theorem valV_put (kvs : List (κ × V)) (k j : κ) (y : V) : valV (putK kvs k y) j = if j = k then some y else valV kvs j := by
  unfold putK
  by_cases a : (kvs.any fun kv => decide (kv.1 = k)) = true
  · rw [if_pos a, valV_map]
    rw [valV_any] at a
    by_cases e : j = k
    · obtain ⟨x, hx⟩ := Option.isSome_iff_exists.mp a
      rw [if_pos e, e, hx, Option.map_some, if_pos rfl]
    · rw [if_neg e]
      cases valV kvs j with
      | none => rfl
      | some x => rw [Option.map_some, if_neg e]
  · rw [if_neg a]
    refine valV_snoc k j y kvs ?_
    rw [valV_any] at a
    cases q : valV kvs k with
    | none => rfl
    | some x => rw [q] at a; exact (a rfl).elim
theorem length_putK (kvs : List (κ × V)) (k : κ) (v : V) : (putK kvs k v).length ≤ kvs.length + 1 := by
  unfold putK
  split
  · rw [List.length_map]; lia
  · rw [List.length_append, List.length_cons, List.length_nil]; lia
theorem putK_new {kvs : List (κ × V)} {k : κ} (v : V) (h : valV kvs k = none) : putK kvs k v = kvs ++ [(k, v)] := by
  unfold putK
  rw [valV_any, h]
  exact if_neg (by decide)

theorem RelO.isSome_eq {o : Option V} {u : Option Value} (r : RelO o u) : o.isSome = u.isSome := by
  cases o with
  | none => cases u with
    | none => rfl
    | some _ => exact (show False from r).elim
  | some _ => cases u with
    | none => exact (show False from r).elim
    | some _ => rfl
theorem RelO.getD {o : Option V} {u : Option Value} {d : V} {d' : Value} (r : RelO o u) (rd : RelV d d') : RelV (o.getD d) (u.getD d') := by
  cases o with
  | none => cases u with
    | none => exact rd
    | some _ => exact (show False from r).elim
  | some _ => cases u with
    | none => exact (show False from r).elim
    | some _ => exact r

/-- raw tables of the same keys -/
theorem KV.val {kvs : List (κ × V)} {vs : List (κ × Value)} (r : KV kvs vs) (k : κ) : RelO (valV kvs k) (valueAt vs k) := by
  unfold KV at r
  induction r with
  | nil => exact True.intro
  | @cons p q ps qs h t ih =>
    obtain ⟨h1, h2⟩ := h
    by_cases e : p.1 = k
    · have e' : q.1 = k := h1.symm.trans e
      have b : valueAt (q :: qs) k = some q.2 := by simp [valueAt, List.find?_cons, e']
      rw [valV_pos e, b]; exact h2
    · have e' : ¬ q.1 = k := fun z => e (h1.trans z)
      have b : valueAt (q :: qs) k = valueAt qs k := by simp [valueAt, List.find?_cons, e']
      rw [valV_neg e, b]; exact ih
theorem KV.any {kvs : List (κ × V)} {vs : List (κ × Value)} (r : KV kvs vs) (k : κ) : (kvs.any fun kv => decide (kv.1 = k)) = vs.any fun kv => decide (kv.1 = k) := by
  unfold KV at r
  induction r with
  | nil => rfl
  | cons h t ih => rw [List.any_cons, List.any_cons, ih, h.1]
theorem KV.repl {kvs : List (κ × V)} {vs : List (κ × Value)} (r : KV kvs vs) (k : κ) {y : V} {u : Value} (ry : RelV y u) :
    KV (kvs.map fun kv => if kv.1 = k then (kv.1, y) else kv) (vs.map fun kv => if kv.1 = k then (kv.1, u) else kv) := by
  unfold KV at r ⊢
  induction r with
  | nil => exact .nil
  | @cons p q ps qs h t ih =>
    rw [List.map_cons, List.map_cons]
    refine .cons ?_ ih
    obtain ⟨h1, h2⟩ := h
    by_cases e : p.1 = k
    · rw [if_pos e, if_pos (h1.symm.trans e)]; exact ⟨h1, ry⟩
    · rw [if_neg e, if_neg (fun z => e (h1.trans z))]; exact ⟨h1, h2⟩
theorem KV.put {kvs : List (κ × V)} {vs : List (κ × Value)} (r : KV kvs vs) (k : κ) {y : V} {u : Value} (ry : RelV y u) : KV (putK kvs k y) (stored vs k u) := by
  unfold putK stored
  rw [r.any k]
  by_cases e : (vs.any fun kv => decide (kv.1 = k)) = true
  · rw [if_pos e, if_pos e]; exact r.repl k ry
  · rw [if_neg e, if_neg e]; exact Paired.snoc r ⟨rfl, ry⟩
theorem KV.keys {kvs : List (κ × V)} {vs : List (κ × Value)} (r : KV kvs vs) : kvs.map (·.1) = vs.map (·.1) := by
  unfold KV at r
  induction r with
  | nil => rfl
  | cons h t ih => rw [List.map_cons, List.map_cons, ih, h.1]
theorem KV.length {kvs : List (κ × V)} {vs : List (κ × Value)} (r : KV kvs vs) : kvs.length = vs.length := Paired.length r
end


/-! ### a tracked dict, its keys ints and texts or tuples of these -/
theorem kV_is {P : Program} {w : World} {k : Key} {u : Value} (r : RelV (kV k) u) : (mixKind P w).is k u = true := by
  cases k with
  | inl i => obtain ⟨t, e⟩ := (show ∃ t, u = Value.int i t from r); subst e; exact mixKind_int P w i t
  | inr x => obtain ⟨t, e⟩ := (show ∃ t, u = Value.str x t from r); subst e; exact mixKind_str P w x t
theorem items_are {P : Program} {w : World} : ∀ {ks : List Key} {us : List Value}, Vals (ks.map kV) us → ItemsAre (mixKind P w) ks us
  | [], _, r => by rw [List.map_nil] at r; cases r; exact .nil
  | k :: ks, _, r => by
    rw [List.map_cons] at r
    cases r with
    | cons h t => exact .cons (kV_is h) (items_are t)

/-- raw entries of a dict with tuple keys -/
abbrev KT (H : Hp) : List (List Key × V) → List (List Key × Addr × Value) → Prop := Paired fun p q => p.1 = q.1 ∧ H q.2.1 = some (.tup (p.1.map kV)) ∧ RelV p.2 q.2.2
theorem KT.val {H : Hp} {kvs : List (List Key × V)} {xs : List (List Key × Addr × Value)} (r : KT H kvs xs) (k : List Key) : RelO (valV kvs k) ((atKey xs k).map (·.2)) := by
  induction r with
  | nil => exact True.intro
  | @cons p q ps qs h t ih =>
    obtain ⟨h1, _, h2⟩ := h
    by_cases e : p.1 = k
    · have e' : q.1 = k := h1.symm.trans e
      have b : atKey (q :: qs) k = some q.2 := by simp [atKey, List.find?_cons, e']
      rw [valV_pos e, b]; exact h2
    · have e' : ¬ q.1 = k := fun z => e (h1.trans z)
      have b : atKey (q :: qs) k = atKey qs k := by simp [atKey, List.find?_cons, e']
      rw [valV_neg e, b]; exact ih
theorem KT.repl {H : Hp} {kvs : List (List Key × V)} {xs : List (List Key × Addr × Value)} (r : KT H kvs xs) (k : List Key) {y : V} {u : Value} (ry : RelV y u) :
    KT H (kvs.map fun kv => if kv.1 = k then (kv.1, y) else kv) (xs.map (putAt k u)) := by
  induction r with
  | nil => exact .nil
  | @cons p q ps qs h t ih =>
    rw [List.map_cons, List.map_cons]
    refine .cons ?_ ih
    obtain ⟨h1, h2, h3⟩ := h
    unfold putAt
    by_cases e : p.1 = k
    · rw [if_pos e, if_pos (h1.symm.trans e)]; exact ⟨h1, h2, ry⟩
    · rw [if_neg e, if_neg (fun z => e (h1.trans z))]; exact ⟨h1, h2, h3⟩
theorem KT.put {H : Hp} {kvs : List (List Key × V)} {xs : List (List Key × Addr × Value)} (r : KT H kvs xs) (k : List Key) {b : Addr} {y : V} {u : Value} (hb : H b = some (.tup (k.map kV))) (ry : RelV y u) :
    KT H (putK kvs k y) (storedH xs k b u) := by
  have e : (kvs.any fun kv => decide (kv.1 = k)) = (atKey xs k).isSome := by
    rw [valV_any, (r.val k).isSome_eq, Option.isSome_map]
  unfold putK storedH
  rw [e]
  by_cases q : (atKey xs k).isSome = true
  · rw [if_pos q, if_pos q]; exact r.repl k ry
  · rw [if_neg q, if_neg q]; exact Paired.snoc r ⟨rfl, hb, ry⟩
theorem KT.keeps {H H' : Hp} {kvs : List (List Key × V)} {xs : List (List Key × Addr × Value)} (r : KT H kvs xs) (ht : ∀ b ys, H b = some (.tup ys) → H' b = some (.tup ys)) : KT H' kvs xs :=
  Paired.mapP r fun _ _ z => ⟨z.1, ht _ _ z.2.1, z.2.2⟩

section
variable {P : Program} {w : World} {H : Hp} {h : Heap} {a : Addr}
theorem rd_of {u : HO} (ok : HOk P w H h) (e : Rd H a u) : ObjOk P w H h a u := e.ok ok
theorem dk_rd {kvs : List (Key × V)} (ok : HOk P w H h) (e : Rd H a (.dK kvs)) : kvs.length ≤ sizeLine ∧ (a == sysModules) = false ∧ ∃ vs, KV kvs vs ∧ h.DictOf (mixKind P w) a vs :=
  show ObjOk P w H h a (.dK kvs) from rd_of ok e
theorem dk_of {kvs : List (Key × V)} (ok : HOk P w H h) (e : H a = some (.dK kvs)) : kvs.length ≤ sizeLine ∧ (a == sysModules) = false ∧ ∃ vs, KV kvs vs ∧ h.DictOf (mixKind P w) a vs := dk_rd ok (.inl e)
/-- a tracked tuple of ints and texts is a key -/
theorem key_of {ks : List Key} (ok : HOk P w H h) (e : H a = some (.tup (ks.map kV))) : (tupleKind (mixKind P w)).is h ks a := by
  obtain ⟨_, its, r, o, h1, h2, n, h3⟩ := (show ObjOk P w H h a (.tup (ks.map kV)) from ok a _ e)
  exact ⟨o, its.toArray, n, h1, h2, h3, by simpa using items_are r⟩
theorem dt_rd {kvs : List (List Key × V)} (ok : HOk P w H h) (e : Rd H a (.dT kvs)) : kvs.length ≤ sizeLine ∧ (a == sysModules) = false ∧
    ∃ xs, KT H kvs xs ∧ h.DictOfH (tupleKind (mixKind P w)) a xs := by
  obtain ⟨z, y, xs, r, o, es, ep, h1, h2, h3, h4, h5⟩ := (show ObjOk P w H h a (.dT kvs) from rd_of ok e)
  refine ⟨z, y, xs, r, o, es, ep, h1, h2, h3, h4, fun x hx => ?_, h5⟩
  have all : ∀ {l : List (List Key × V)} {m : List (List Key × Addr × Value)}, KT H l m → ∀ x ∈ m, (tupleKind (mixKind P w)).is h x.1 x.2.1 := by
    intro l m q
    induction q with
    | nil => intro x hx; exact nomatch hx
    | @cons p q ps qs hq t ih =>
      intro x hx
      rcases List.mem_cons.mp hx with e | hx
      · subst e
        exact key_of ok (by rw [← hq.1]; exact hq.2.1)
      · exact ih x hx
  exact all r x hx
theorem dt_of {kvs : List (List Key × V)} (ok : HOk P w H h) (e : H a = some (.dT kvs)) : kvs.length ≤ sizeLine ∧ (a == sysModules) = false ∧
    ∃ xs, KT H kvs xs ∧ h.DictOfH (tupleKind (mixKind P w)) a xs := dt_rd ok (.inl e)
end

/-- what the dict at a holds at the key y -/
def DGet (H : Hp) (a : Addr) (y : V) (r : Option V) : Prop :=
  (∃ kvs k, Rd H a (.dK kvs) ∧ y = kV k ∧ r = valV kvs k) ∨ ∃ kvs k b, Rd H a (.dT kvs) ∧ y = .ref b ∧ H b = some (.tup (k.map kV)) ∧ r = valV kvs k
/-- the heap behind a[y] = v -/
def DPut (H : Hp) (a : Addr) (y v : V) (H' : Hp) : Prop :=
  (∃ kvs k, H a = some (.dK kvs) ∧ y = kV k ∧ kvs.length < sizeLine ∧ H' = upd H a (.dK (putK kvs k v))) ∨
  ∃ kvs k b, H a = some (.dT kvs) ∧ y = .ref b ∧ H b = some (.tup (k.map kV)) ∧ kvs.length < sizeLine ∧ H' = upd H a (.dT (putK kvs k v))
theorem DGet.k {H : Hp} {a : Addr} {kvs : List (Key × V)} {k : Key} (e : H a = some (.dK kvs)) : DGet H a (kV k) (valV kvs k) := .inl ⟨kvs, k, .inl e, rfl, rfl⟩
theorem DGet.t {H : Hp} {a b : Addr} {kvs : List (List Key × V)} {k : List Key} (e : H a = some (.dT kvs)) (eb : H b = some (.tup (k.map kV))) : DGet H a (.ref b) (valV kvs k) := .inr ⟨kvs, k, b, .inl e, rfl, eb, rfl⟩
theorem DPut.k {H : Hp} {a : Addr} {kvs : List (Key × V)} {k : Key} {v : V} (e : H a = some (.dK kvs)) (hl : kvs.length < sizeLine) : DPut H a (kV k) v (upd H a (.dK (putK kvs k v))) := .inl ⟨kvs, k, e, rfl, hl, rfl⟩
theorem DPut.t {H : Hp} {a b : Addr} {kvs : List (List Key × V)} {k : List Key} {v : V} (e : H a = some (.dT kvs)) (eb : H b = some (.tup (k.map kV))) (hl : kvs.length < sizeLine) :
    DPut H a (.ref b) v (upd H a (.dT (putK kvs k v))) := .inr ⟨kvs, k, b, e, rfl, eb, hl, rfl⟩


section
variable {X : Cx} {pins : List (Addr × Obj)} {σ : St} {H : Hp} {s : Shared} {a : Addr} {y v : V} {u r : Value} {o : Option V} {A : Around} {E : Value → Shared → Prop}

theorem Inv.big (I : Inv X pins σ H s) : sysModules < s.heap.objs.size := by
  have h : mainGlobals < s.heap.objs.size := (I.mod.glob.keeps I.bk).lt
  exact Nat.lt_trans (by decide) h

/-- d[y], there -/
theorem d_getItem {Q : Value → Shared → Prop} (hu : A.units + 1 < cLine) (I : Inv X pins σ H s) (g : DGet H a y (some v)) (ry : RelV y u) (h : ∀ w' s', Inv X pins σ H s' → RelV v w' → Q w' s') :
    wpAny (model X.prog X.w) A (getItem (.ref a) u) Q E s := by
  rcases g with ⟨kvs, k, e, ey, l⟩ | ⟨kvs, k, b, e, ey, eb, l⟩
  · subst ey
    obtain ⟨z, hd, vs, rel, dd⟩ := dk_rd I.hok e
    obtain ⟨w', hw, rw'⟩ := RelO.some_of (v := v) (o := valueAt vs k) (by rw [l]; exact rel.val k)
    exact wpAny_getItem_of (kV_is ry) dd.mapOf hw (h w' _ (I.tok _) rw')
  · subst ey
    cases (show u = Value.ref b from ry)
    obtain ⟨z, hd, xs, rel, dd⟩ := dt_rd I.hok e
    obtain ⟨w', hw, rw'⟩ := RelO.some_of (v := v) (o := (atKey xs k).map (·.2)) (by rw [l]; exact rel.val k)
    obtain ⟨p, hp, hp2⟩ := Option.map_eq_some_iff.mp hw
    refine wpAny_getItem_heap (tupleKind_room_in1 hu) (key_of I.hok eb) dd hp ?_
    rw [hp2]
    exact h w' _ (I.tok _) rw'
theorem d_notIn {Q : Value → Shared → Prop} (hu : A.units + 1 < cLine) (I : Inv X pins σ H s) (g : DGet H a y o) (ry : RelV y u) (h : ∀ s', Inv X pins σ H s' → Q (.bool (!o.isSome)) s') :
    wpAny (model X.prog X.w) A (compareOp .NotIn u (.ref a)) Q E s := by
  rcases g with ⟨kvs, k, e, ey, l⟩ | ⟨kvs, k, b, e, ey, eb, l⟩
  · subst ey
    obtain ⟨z, hd, vs, rel, dd⟩ := dk_rd I.hok e
    refine wpAny_notIn_of (kV_is ry) hd dd.mapOf ?_
    rw [← (rel.val k).isSome_eq, ← l]
    exact h _ (I.tok _)
  · subst ey
    cases (show u = Value.ref b from ry)
    obtain ⟨z, hd, xs, rel, dd⟩ := dt_rd I.hok e
    refine wpAny_notIn_heap (tupleKind_room_in1 hu) (key_of I.hok eb) hd dd ?_
    have q := (rel.val k).isSome_eq
    rw [Option.isSome_map] at q
    rw [← q, ← l]
    exact h _ (I.tok _)
/-- a dict's object is replaced -/
theorem d_write {h' : Heap} {t' : Nat} {ob : HO} (I : Inv X pins σ H s) (mu : Mut (H a)) (hs : Heap.SameBut a s.heap h') (he : ∃ q, h'.get? a = some q) (new : ObjOk X.prog X.w (upd H a ob) h' a ob) :
    Inv X pins σ (upd H a ob) { s with heap := h', toks := t' } :=
  I.write (x := a) (e := a) mu (.inl rfl) (fun b q hb z => (hs.2 b hb).trans z) he new
theorem dk_new {P : Program} {w : World} {H' : Hp} {h' : Heap} {kvs : List (Key × V)} {vs : List (Key × Value)} (z : kvs.length ≤ sizeLine) (hd : (a == sysModules) = false) (rel : KV kvs vs) (dd : h'.DictOf (mixKind P w) a vs) :
    ObjOk P w H' h' a (.dK kvs) := ⟨z, hd, vs, rel, dd⟩
/-- d[y] = v -/
theorem d_setItem {H' : Hp} {Q : Unit → Shared → Prop} (hu : A.units + 1 < cLine) (I : Inv X pins σ H s) (g : DPut H a y v H') (ry : RelV y u) (rv : RelV v r) (h : ∀ s', Inv X pins σ H' s' → Q () s') :
    wpAny (model X.prog X.w) A (setItem (.ref a) u r) Q E s := by
  rcases g with ⟨kvs, k, e, ey, l, eH⟩ | ⟨kvs, k, b, e, ey, eb, l, eH⟩
  · subst ey eH
    obtain ⟨z, hd, vs, rel, dd⟩ := dk_of I.hok e
    have hz : vs.length ≤ sizeLine := by rw [← rel.length]; exact z
    have hl : (putK kvs k v).length ≤ sizeLine := by have := length_putK kvs k v; lia
    refine wpAny_setItem_pairs (hsz := hz) (kV_is ry) dd fun h' dd' hs => h _ ?_
    have he : ∃ q, h'.get? a = some q := let ⟨q, _, _, hq, _⟩ := dd'; ⟨q, hq⟩
    exact d_write I (by rw [e]; exact True.intro) hs he (dk_new hl hd (rel.put k rv) dd')
  · subst ey eH
    cases (show u = Value.ref b from ry)
    obtain ⟨z, hd, xs, rel, dd⟩ := dt_of I.hok e
    have hz : xs.length ≤ sizeLine := by rw [← Paired.length rel]; exact z
    have hl : (putK kvs k v).length ≤ sizeLine := by have := length_putK kvs k v; lia
    refine wpAny_setItem_heap (hsz := hz) (tupleKind_room_in1 hu) (key_of I.hok eb) dd fun h' dd' hs => h _ ?_
    obtain ⟨q, es, ep, hq, h2, h3, h4, _, h5⟩ := dd'
    refine d_write I (by rw [e]; exact True.intro) hs ⟨q, hq⟩ ⟨hl, hd, _, (rel.put k eb rv).keeps fun c ys ec => ?_, q, es, ep, hq, h2, h3, h4, h5⟩
    rw [upd_ne (ne_of ec e (fun z => nomatch z))]
    exact ec
end

section
variable {X : Cx} {pins : List (Addr × Obj)} {σ : St} {H : Hp} {s : Shared} {a : Addr} {kvs : List (Key × V)} {k : Key} {u : Value} {A : Around} {E : Value → Shared → Prop}
end


/-! ### readings and rules -/
/-- the element of a subscription, not a slice -/
def NoSl (i : Expr) : Prop := ∀ ov iv, subscripted i false ov iv = operate [ov, iv] (getItem ov iv)
theorem subD_of {prog : Program} {w : World} {A : Around} {E : Value → Shared → Prop} {s : Shared} {env : Env} {value slice : Expr} {pos : Pos} {T id : String} {Q : Value → Shared → Prop}
    (hl : typeLookup (.type T) "__getitem__" = pure (some (.builtin id))) (hs : NoSl slice)
    (h : wpAny (model prog w) A (eval value env) (fun o s₁ => wpAny (model prog w) A (eval slice env) (fun i s₂ => s₂.TypeIs o T ∧ wpAny (model prog w) A (getItem o i) Q E s₂) E s₁) E s) :
    wpAny (model prog w) A (eval (.Subscript value slice pos) env) Q E s := by
  refine Subscript_ (wpAny_mono h (fun o s₁ h₁ => wpAny_mono h₁ (fun i s₂ h₂ => ?_) fun _ _ x => x) fun _ _ x => x)
  obtain ⟨hT, h₂⟩ := h₂
  unfold subscriptTail
  refine wpAny_bind ?_
  rw [getitemInPython_of_ne hT.not_modules]
  refine wpAny_bind (wpAny_specialOf hT hl ?_)
  have fin : wpAny (model prog w) A (subscripted slice false o i) (fun r s₃ => wpAny (model prog w) A (letTemporaryGo value o r >>= fun _ => pure r) Q E s₃) E s₂ := by
    rw [hs o i]
    exact wpAny_operating (wpAny_mono h₂ (fun r s₃ h₃ => wpAny_bind (wpAny_letTemporaryGo (wpAny_pure h₃))) fun _ _ x => x)
  first
    | exact wpAny_pure (wpAny_bind fin)
    | exact wpAny_bind (wpAny_pure (wpAny_bind fin))
    | exact wpAny_bind fin

theorem dict_typeIs {X : Cx} {pins : List (Addr × Obj)} {σ : St} {H : Hp} {s : Shared} {a : Addr} {y : V} {o : Option V} (I : Inv X pins σ H s) (g : DGet H a y o) : s.TypeIs (.ref a) "dict" := by
  rcases g with ⟨kvs, k, e, _, _⟩ | ⟨kvs, k, b, e, _, _, _⟩
  · obtain ⟨_, _, vs, _, dd⟩ := dk_rd I.hok e
    exact dd.typeIs
  · obtain ⟨_, _, xs, _, dd⟩ := dt_rd I.hok e
    exact dd.typeIs
/-- d[y] -/
def tDGet (td ty : TE) : TE := fun σ H Q => td σ H fun x H1 => ty σ H1 fun y H2 => ∃ a v, x = .ref a ∧ DGet H2 a y (some v) ∧ Q v H2
def tDNotIn (ty td : TE) : TE := fun σ H Q => ty σ H fun y H1 => td σ H1 fun x H2 => ∃ a o, x = .ref a ∧ DGet H2 a y o ∧ Q (.bl (!o.isSome)) H2
/-- d[y] = v -/
def sDPut (td ty tv : TE) : TS := fun D σ H => tv σ H fun v H1 => td σ H1 fun x H2 => ty σ H2 fun y H3 => ∃ a H4, x = .ref a ∧ DPut H3 a y v H4 ∧ D.nx σ H4
section
variable {X : Cx} {o i e value : Expr} {pos pos' tpos : Pos} {td ty tv : TE}
theorem pe_dget (hu : X.A.units + 1 < cLine) (ho : PE X o td) (hi : PE X i ty) (hs : NoSl i) : PE X (.Subscript o i pos) (tDGet td ty) := by
  intro pins s σ H Q I h
  refine subD_of PySem.F.slot_dict_getitem.lookup hs (thn (ho pins s σ H _ I h) fun u s1 ⟨x, H1, I1, rx, q1⟩ => thn (hi pins s1 σ H1 _ I1 q1) fun iv s2 ⟨y, H2, I2, ry, a, v, ex, g, q2⟩ => ?_)
  subst ex
  obtain rfl : u = Value.ref a := rx
  exact ⟨dict_typeIs I2 g, d_getItem hu I2 g ry fun w' s3 I3 rw' => ⟨v, H2, I3, rw', q2⟩⟩
theorem pc_dnotin (hu : X.A.units + 1 < cLine) (hi : PE X i ty) (ho : PE X o td) : PC X .NotIn i o (tDNotIn ty td) := by
  intro pins s σ H Q I h
  refine thn (hi pins s σ H _ I h) fun iv s1 ⟨y, H1, I1, ry, q1⟩ => thn (ho pins s1 σ H1 _ I1 q1) fun u s2 ⟨x, H2, I2, rx, a, ov, ex, g, q2⟩ => ?_
  subst ex
  obtain rfl : u = Value.ref a := rx
  exact d_notIn hu I2 g ry fun s3 I3 => ⟨.bl (!ov.isSome), H2, I3, rfl, q2⟩
theorem ps_dput (hu : X.A.units + 1 < cLine) (ho : PE X o td) (hi : PE X i ty) (hv : PE X value tv) (hs : swapsWith value (some (.Subscript o i pos')) pos.line X.env = pure false) :
    PS X (.Assign [.Subscript o i pos'] value pos) (sDPut td ty tv) := by
  intro pins s σ H D I h
  refine wpAny_Assign_Subscript (thn (hv pins s σ H _ I h) fun r s1 ⟨v, H1, I1, rv, q1⟩ => thn (ho pins s1 σ H1 _ I1 q1) fun u s2 ⟨x, H2, I2, rx, q2⟩ => thn (hi pins s2 σ H2 _ I2 q2) fun iv s3 ⟨y, H3, I3, ry, a, H4, ex, g, q3⟩ => ?_) hs
  subst ex
  obtain rfl : u = Value.ref a := rx
  exact d_setItem hu I3 g ry rv fun s4 I4 => ⟨σ, H4, I4, q3⟩
end


/-! ### displays -/
theorem dk_empty {P : Program} {w : World} {H : Hp} (h : Heap) (hb : sysModules < h.objs.size) : ObjOk P w H (h.push { cls := .type "dict", data := .dict #[] }) h.objs.size (.dK []) :=
  ⟨Nat.zero_le _, beq_eq_false_iff_ne.mpr (Ne.symm (Nat.ne_of_lt hb)), [], .nil, Heap.DictOf.new h⟩
theorem dt_empty {P : Program} {w : World} {H : Hp} (h : Heap) (hb : sysModules < h.objs.size) : ObjOk P w H (h.push { cls := .type "dict", data := .dict #[] }) h.objs.size (.dT []) :=
  ⟨Nat.zero_le _, beq_eq_false_iff_ne.mpr (Ne.symm (Nat.ne_of_lt hb)), [], .nil, _, #[], 0, Heap.get?_push_size _ rfl, ⟨rfl, rfl, rfl⟩, rfl, rfl, List.nodup_nil⟩
/-- {}, to be a dict of the kind that is wanted -/
def tDNewK : TE := fun _ H Q => ∀ p, H p = none → Q (.ref p) (upd H p (.dK []))
def tDNewT : TE := fun _ H Q => ∀ p, H p = none → Q (.ref p) (upd H p (.dT []))
section
variable {X : Cx} {pos : Pos}
theorem pe_dnewK : PE X (.Dict [] [] pos) tDNewK := fun pins s σ H Q I h =>
  wpAny_Dict_empty ⟨.ref s.heap.objs.size, _, I.laid (a := s.heap.objs.size) (o := .dK []) (t' := s.toks) (fun _ _ q => Heap.get?_push_of_some _ q) (Nat.le_refl _) (dk_empty s.heap I.big), rfl, h _ (I.hok.fresh (Nat.le_refl _))⟩
theorem pe_dnewT : PE X (.Dict [] [] pos) tDNewT := fun pins s σ H Q I h =>
  wpAny_Dict_empty ⟨.ref s.heap.objs.size, _, I.laid (a := s.heap.objs.size) (o := .dT []) (t' := s.toks) (fun _ _ q => Heap.get?_push_of_some _ q) (Nat.le_refl _) (dt_empty s.heap I.big), rfl, h _ (I.hok.fresh (Nat.le_refl _))⟩
end

/-! ### methods -/
/-- a method call o.m(e) of a built-in, with one argument: what must be seen of the text -/
structure M1 (X : Cx) (o : Expr) (m : Str) (apos : Pos) (e : Expr) (cpos : Pos) : Prop where
  base : attributeBase o m X.env (eval o X.env) = eval o X.env
  few : ((backTo cpos (starEach [e] X.env)).all (fun x => !x.1) && (backToKw cpos (keywordEach [] X.env)).all (fun x => x.1.isSome)
    && decide (([e] : List Expr).length + ([] : List Keyword).length + (if ([] : List Keyword).isEmpty then 0 else 1) < 30)) = true
  line : (apos.endLine == cpos.line) = true
  trees : backTo cpos (starEach [e] X.env) = [(false, eval e X.env)]
structure M2 (X : Cx) (o : Expr) (m : Str) (apos : Pos) (e f : Expr) (cpos : Pos) : Prop where
  base : attributeBase o m X.env (eval o X.env) = eval o X.env
  few : ((backTo cpos (starEach [e, f] X.env)).all (fun x => !x.1) && (backToKw cpos (keywordEach [] X.env)).all (fun x => x.1.isSome)
    && decide (([e, f] : List Expr).length + ([] : List Keyword).length + (if ([] : List Keyword).isEmpty then 0 else 1) < 30)) = true
  line : (apos.endLine == cpos.line) = true
  trees : backTo cpos (starEach [e, f] X.env) = [(false, eval e X.env), (false, eval f X.env)]

/-- a is a dict, whatever its keys -/
def IsD (H : Hp) (a : Addr) : Prop := (∃ kvs, Rd H a (.dK kvs)) ∨ ∃ kvs, Rd H a (.dT kvs)
theorem isD_at {X : Cx} {pins : List (Addr × Obj)} {σ : St} {H : Hp} {s : Shared} {a : Addr} (I : Inv X pins σ H s) (d : IsD H a) :
    s.TypeIs (.ref a) "dict" ∧ (∀ b, Value.ref a = .ref b → ∃ ob, s.heap.get? b = some ob ∧ ob.dict = none) ∧ (a == sysModules) = false := by
  rcases d with ⟨kvs, e⟩ | ⟨kvs, e⟩
  · obtain ⟨_, hd, vs, _, dd⟩ := dk_rd I.hok e
    refine ⟨dd.typeIs, fun b q => ?_, hd⟩
    cases q
    obtain ⟨ob, _, _, h1, h2, _⟩ := dd
    exact ⟨ob, h1, h2.2.1⟩
  · obtain ⟨_, hd, xs, _, dd⟩ := dt_rd I.hok e
    refine ⟨dd.typeIs, fun b q => ?_, hd⟩
    cases q
    obtain ⟨ob, _, _, h1, h2, _⟩ := dd
    exact ⟨ob, h1, h2.2.1⟩

section
variable {X : Cx} {pins : List (Addr × Obj)} {σ : St} {H : Hp} {s : Shared} {a : Addr} {y d : V} {u r : Value} {o : Option V} {A : Around} {E : Value → Shared → Prop}
/-- d.get(y) -/
theorem d_get1 {Q : Value → Shared → Prop} (hu : A.units + 1 < cLine) (I : Inv X pins σ H s) (g : DGet H a y o) (ry : RelV y u) (h : ∀ w' s', Inv X pins σ H s' → RelV (o.getD .non) w' → Q w' s') :
    wpAny (model X.prog X.w) A (call (.builtin "dict.get") [.ref a, u]) Q E s := by
  rcases g with ⟨kvs, k, e, ey, l⟩ | ⟨kvs, k, b, e, ey, eb, l⟩
  · subst ey
    obtain ⟨z, hd, vs, rel, dd⟩ := dk_rd I.hok e
    refine call_meetsIn PySem.F.slot_dict_get dd.typeIs PySem.F.entry_dict_get (PySem.F.args_dict_get_2 _ _) (meets_dict_get (mixKind X.prog X.w) a (kV_is ry) hd) ⟨_, dd.mapOf, h _ _ (I.tok _) ?_⟩
    rw [l]
    exact (rel.val k).getD rfl
  · subst ey
    cases (show u = Value.ref b from ry)
    obtain ⟨z, hd, xs, rel, dd⟩ := dt_rd I.hok e
    refine call_meetsIn PySem.F.slot_dict_get dd.typeIs PySem.F.entry_dict_get (PySem.F.args_dict_get_2 _ _) (meetsH_dict_get (tupleKind (mixKind X.prog X.w)) a b hd) ⟨tupleKind_room_in1 hu, k, xs, key_of I.hok eb, dd, h _ _ (I.tok _) ?_⟩
    rw [l]
    exact (rel.val k).getD rfl
end

def tDGet1 (td ty : TE) : TE := fun σ H Q => td σ H fun x H1 => ∃ a, x = .ref a ∧ IsD H1 a ∧ ty σ H1 fun y H2 => ∃ o, DGet H2 a y o ∧ Q (o.getD .non) H2
section
variable {X : Cx} {o e f : Expr} {apos cpos : Pos} {td ty tx : TE}
theorem pe_dget1 (hu : X.A.units + 1 < cLine) (ho : PE X o td) (he : PE X e ty) (m : M1 X o "get" apos e cpos) : PE X (.Call (.Attribute o "get" apos) [e] [] cpos) (tDGet1 td ty) := by
  intro pins s σ H Q I h
  refine wpAny_Call_method m.base m.few m.line PySem.F.plainAttrs_dict PySem.F.slot_dict_get PySem.F.type_dict_get (thn (ho pins s σ H _ I h) fun u s1 ⟨x, H1, I1, rx, a, ex, d, q1⟩ => ?_)
  subst ex
  obtain rfl : u = Value.ref a := rx
  obtain ⟨t1, t2, _⟩ := isD_at I1 d
  refine ⟨t1, t2, ?_⟩
  rw [m.trees]
  refine Calls.callWith_builtin rfl (Calls.evalArgs_plain (Calls.spliced_cons (thn (he pins s1 σ H1 _ I1 q1) fun iv s2 ⟨y, H2, I2, ry, ov, g, q2⟩ => Calls.spliced_nil ?_)))
  exact d_get1 hu I2 g ry fun w' s3 I3 rw' => ⟨_, H2, I3, rw', q2⟩
end

/-! ### dict(d): a copy -/
section
variable {X : Cx} {pins : List (Addr × Obj)} {σ : St} {H : Hp} {s : Shared} {a : Addr} {kvs : List (Key × V)} {A : Around} {E : Value → Shared → Prop}
end


section
variable {X : Cx} {pins : List (Addr × Obj)} {σ : St} {H : Hp} {s : Shared} {a : Addr} {y : V} {u : Value} {A : Around} {E : Value → Shared → Prop}
end
end L2
namespace L2
open PySem PySem.Spec PyProof.Rows
section
variable {X : Cx}
end
/-! ### a dict's pairs: keys that differ -/
section
variable {κ : Type} [DecidableEq κ]
end
end L2

set_option Elab.async false
set_option linter.all false
set_option maxRecDepth 100000
/-! Refusals over the hand layer: an exception of an own class is made, leaves frames, is caught. -/
namespace L2
open PySem PySem.Spec PyProof.Rows

section
variable {P : Program} {w : World} {K : PySem.W.Frag} {mg : Str → Option Value} {base : Heap} {N : List Str} {qual : Str} {scope : Scope} {f : Addr} {cd : Value} {A : Around} {outer : List Env} {s : Shared} {H : Hp} {E : XK}
end
end L2

set_option Elab.async false
set_option linter.all false
set_option maxRecDepth 100000
namespace L2
open PySem PySem.Spec PyProof.Rows

/-! ### an own class of refusals under ValueError -/
section
variable {X : Cx} {C : Addr} {x : Str} {np cpos pos : Pos} {e : Expr} {es : List Expr} {t : TA} {E : XK}
/-! ### raise C(..) -/
end

/-! ### calls whose exceptions are taken where S holds of the names -/
section
variable {X : Cx} {CX : CXT} {k : Nat} {f : Addr} {fd : FuncData} {ps : List Str} {sp : Sp} {dvs : List V} {ds : List Value} {E : XK} {x : Str} {p pos : Pos} {e : Expr} {es : List Expr} {t : TA} {S : St → Prop}
end

/-! ### the same state for another wish, other standing pins, another Around -/
/-- an exception object that is held: its class -/
def isExc (a D : Addr) : HO := .ext fun h => ∃ o, h.get? a = some o ∧ o.cls = .ref D ∧ PySem.W.notCls o = true
/-- a thing of the heap that was not tracked is, from now on -/
theorem Inv.track {X : Cx} {pins : List (Addr × Obj)} {σ : St} {H : Hp} {s : Shared} {a : Addr} {o : HO} (I : Inv X pins σ H s) (ha : H a = none) (h0 : X.s₀.heap.get? a = none) (hb : X.base.get? a = none) (hL : X.env.locals ≠ a) (hc : ∀ x c, X.env.cells.lookup x = some c → c ≠ a)
    (hp : ∀ p, p ∈ X.pn ++ pins → p.1 ≠ a) (hs : ∀ b, b ∈ X.fs → b ≠ a) (new : ObjOk X.prog X.w (upd H a o) s.heap a o) : Inv X pins σ (upd H a o) s := by
  have ne : ∀ b u, H b = some u → b ≠ a := fun b u q z => by rw [z, ha] at q; cases q
  refine ⟨I.ok, I.os, I.bare, ⟨I.base.keep, I.base.slot, fun b u q n x => ?_, I.base.there, fun b xs q => ?_, fun b u v q => ?_, fun b ps q => ?_⟩, I.loc, I.cell, ?_, fun x c q => ?_, fun p z => ?_, fun b u q => ?_, I.len⟩
  · rw [upd_ne (fun z => by rw [z, h0] at q; cases q)]
    exact I.base.free b u q n x
  · have z := I.base.tups b xs q
    rw [upd_ne (ne _ _ z)]; exact z
  · have z := I.base.frzs b u v q
    rw [upd_ne (ne _ _ z)]; exact z
  · obtain ⟨m, z⟩ := I.base.tbls b ps q
    exact ⟨m, by rw [upd_ne (ne _ _ z)]; exact z⟩
  · rw [upd_ne hL]; exact I.free
  · rw [upd_ne (hc x c q)]; exact I.freeC x c q
  · obtain ⟨e, n, r⟩ := I.pin p z
    exact ⟨e, by rw [upd_ne (hp p z)]; exact n, r⟩
  · by_cases z : b = a
    · subst z
      rw [upd_same] at q
      cases q
      exact new
    · rw [upd_ne z] at q
      exact (I.hok b u q).stay (fun c v _ r => r) (fun c r => by rw [upd_ne (ne _ _ r)]; exact r) fun c xs r => by rw [upd_ne (ne _ _ r)]; exact r
end L2

set_option Elab.async false
set_option linter.all false
set_option maxRecDepth 100000
namespace L2
open PySem PySem.Spec PyProof.Rows

/-! ### does an except clause of an own class take an exception of an own class -/
section
variable {X : Cx} {C : Addr} {x n : Str} {np hpos pos : Pos} {i : Nat} {b₀ : Stmt} {suite body : List Stmt} {S : St → Prop} {tb : XK → TS} {th : TS}
end

/-! ### defs that are called within an except suite: nothing is known of what is handled -/
section
variable {P : Program} {w : World} {K : PySem.W.Frag} {mg : Str → Option Value} {base : Heap}
end
section
variable {X : Cx} {k : Nat} {f : Addr} {fd : FuncData} {ps : List Str} {sp : Sp} {x : Str} {p pos : Pos} {e : Expr} {es : List Expr} {t : TA}
end
end L2

set_option Elab.async false
set_option linter.all false
set_option maxRecDepth 100000
namespace L2
open PySem PySem.Spec PyProof.Rows

/-! ### texts: the signs, slices, methods -/
section
variable {X : Cx} {tg : Expr}
/-! ### range(a, b, c), written step -/
end
end L2

set_option Elab.async false
set_option linter.all false
set_option maxRecDepth 100000
namespace L2
open PySem PySem.Spec PyProof.Rows

/-! ### [x in G for x in text], G a text of the module -/
section
variable {X : Cx} {iter : Expr} {ti : TE} {x G : Str} {px px1 px2 cpos pos : Pos} {scope : Scope} {g : Str}
end

/-! ### isinstance, of an exception too -/
structure ExcF (K : PySem.W.Frag) (D : Addr) : Prop where
  hd : PySem.W.hasDictIn K D = true
  ga : PySem.W.findIn K (.ref D) "__getattribute__" = some (some (.builtin "BaseException.__getattribute__"))
  gt : PySem.W.findIn K (.ref D) "__getattr__" = some none
  cl : PySem.W.findIn K (.ref D) "__class__" = some (some (.builtin "object.__class__"))
  sp : PySem.W.specialIn K (.builtin "object.__class__") "__get__" = some (some (.builtin "getset_descriptor.__get__"))
  tk : PySem.W.takesIn K (.builtin "object.__class__") = some true
  mo : PySem.W.mroIn K D (.type "object") = some true
  mb : PySem.W.mroIn K D (.type "BaseException") = some true
section
variable {K : PySem.W.Frag} {prog : Program} {w : World} {A : Around} {E : Value → Shared → Prop} {s : Shared} {a D : Addr} {o : Obj}
open PySem.W Builtin Builtin.ObjectAttr Builtin.Getset_descriptor
theorem exc_find {M : Model} {h : Heap} (X : K.In h) (f : ExcF K D) : Looks M h (find (.ref a) (.ref D) "__class__") (.bind (.builtin "getset_descriptor.__get__") (.builtin "object.__class__")) :=
  (looks_findIn X f.cl).andThen ((looks_specialIn X f.sp).andThen ((show Looks M h (dataDescriptor? (some (.builtin "object.__class__")) (some (.builtin "getset_descriptor.__get__"))) (some (.builtin "getset_descriptor.__get__", .builtin "object.__class__")) from (looks_takesIn X f.tk).andThen .now).andThen (Looks.tag .now)))
theorem exc_get {R : Result → Shared → Prop} {tp : Value} (X : K.In s.heap) (f : ExcF K D) (he : s.heap.get? a = some o) (hc : o.cls = .ref D) (hq : R (.ok (.ret (.ref D))) s) :
    codeAny (model prog w) A (.call (.builtin "getset_descriptor.__get__") ⟨[.builtin "object.__class__", .ref a, tp], []⟩) R s := by
  obtain ⟨h, g, d, t, os⟩ := s
  have L0 : Looks (model prog w) h (typeOf (.ref a)) (.ref D) := hc ▸ (Looks.ld he).andThen .now
  have L1 := looks_mroIn (M := model prog w) X f.mo
  refine codeAny_call_builtin KF.slot_gs.plain KF.entry_gs (KF.slot_gs.check _ _ _ _ _ _ _ _ KF.type_class (KF.args_gs _ _ _) ?_)
  unfold Builtin.«getset_descriptor.__get__» descrGet
  rw [dga_obj]
  refine wpAny_bind (wpAny_pure ?_)
  unfold descrGetter descrCheckInstance descrNameAndClass isInstance
  simp only [KF.owner_class]
  repeat lk
  refine ⟨Code.quiet_builtin _ (by decide +kernel), codeAny_builtin KF.entry_class ?_⟩
  unfold Builtin.«object.__class__» shownTypeOf
  repeat lk
  exact hq
theorem exc_class {Q : Option Value → Shared → Prop} (X : K.In s.heap) (f : ExcF K D) (he : s.heap.get? a = some o) (hc : o.cls = .ref D) (hq : Q (some (.ref D)) { s with toks := s.toks + 1 }) :
    wpAny (model prog w) A (getAttr? (.ref a) "__class__") Q E s := by
  obtain ⟨h, g, d, t, os⟩ := s
  have L0 : Looks (model prog w) h (typeOf (.ref a)) (.ref D) := hc ▸ (Looks.ld he).andThen .now
  have L1 := looks_findIn (M := model prog w) X f.ga
  have L2 := looks_findIn (M := model prog w) X f.gt
  have L3 := exc_find (M := model prog w) (a := a) X f
  have L4 : Looks (model prog w) h (isInstance (.ref a) (.type "BaseException")) true := L0.andThen (looks_mroIn X f.mb)
  unfold getAttr? getAttrBy? getAttrBy
  refine wpAny_bind (wpAny_mkText (wpAny_bind (wpAny_attempt (wpAny_holding (wpAny_bind (L0.at (wpAny_bind (L1.at ?_))))))))
  dsimp only
  have n0 : (Value.builtin "BaseException.__getattribute__" == Value.builtin "object.__getattribute__") = false := by decide +kernel
  rw [if_neg (by rw [n0, Bool.and_false]; exact Bool.false_ne_true)]
  unfold getAttrByItsOwn hookBefore
  rw [if_pos (by rfl)]
  refine wpAny_bind (L2.at ?_)
  refine wpAny_bind (wpAny_attempt (wpAny_holding ?_))
  unfold callGetattribute
  rw [if_neg (by decide)]
  unfold boundAndCalled
  refine wpAny_bind (wpAny_of_eq (PySem.F.excAttr_ValueError.ga.bind (.ref a)) ?_)
  dsimp only
  refine wpAny_call (codeAny_call_builtin PySem.F.excAttr_ValueError.ga.plain PySem.F.entry_bexc_ga ?_)
  have hk : builtinKind "BaseException.__getattribute__" = some .slot := by decide +kernel
  have hsp : splitId "BaseException.__getattribute__" = some ("BaseException", "__getattribute__") := by decide +kernel
  have har := PySem.F.args_bexc_ga (.ref a) (.str "__class__" t)
  simp only [checkBuiltinCall, hk, hsp]
  refine wpAny_bind (L4.at ?_)
  rw [if_neg (by decide)]
  refine wpAny_of_eq (a := ()) har ?_
  unfold Builtin.«object.__getattribute__»
  dsimp only at L3
  repeat ((fail_if_success (with_reducible show wpAny _ _ (call _ _) _ _ _)); lk)
  refine wpAny_call (exc_get (s := ⟨h, g, d, t + 1, os⟩) X f he hc ?_)
  dsimp only
  repeat lk
  exact hq
end
end L2

set_option Elab.async false
set_option linter.all false
set_option maxRecDepth 100000
namespace L2
open PySem PySem.Spec PyProof.Rows
/-- the type of a value, of a held exception too -/
inductive TyX (K : PySem.W.Frag) (H : Hp) : V → Value → Prop where
  | of {x : V} {t : Value} (h : TyOf K H x t) : TyX K H x t
  | exc {a D : Addr} (e : H a = some (isExc a D)) (f : ExcF K D) : TyX K H (.ref a) (.ref D)
theorem kitx_exc {K : PySem.W.Frag} {a D : Addr} (f : ExcF K D) : PySem.W.KitX K (.ref a) (.ref D) (fun h => ∃ o, h.get? a = some o ∧ o.cls = .ref D ∧ PySem.W.notCls o = true) where
  ty := fun M h X ⟨o, e, c, _⟩ => c ▸ (PySem.W.Looks.ld e).andThen .now
  it := fun M h X _ => by
    obtain ⟨cd, hc, _⟩ := PySem.W.any_some f.hd
    unfold PySem.W.clsIn at hc
    split at hc
    · rename_i c' d' cd' sl' ho
      intro A' Q' E' s' k q
      unfold isType loadHead
      exact wpAny_bind (wpAny_loadPart (k _ _ (X _ _ ho)) (wpAny_pure q))
    · cases hc
  ne := fun h tp dd its n sl X htp => by
    obtain ⟨cd, hc, _⟩ := PySem.W.any_some f.hd
    refine Bool.eq_false_iff.mpr fun q => ?_
    have e : D = tp := Value.ref.inj (beq_iff_eq.mp q)
    subst e
    unfold PySem.W.clsIn at hc
    split at hc
    · rename_i c' d' cd' sl' ho
      have z := (X _ _ ho).symm.trans htp
      cases z
    · cases hc
  ca := fun X ⟨o, e, c, _⟩ k => exc_class X f e c k
def clsV : V → Option Value
  | .ty n => some (.type n)
  | .ref C => some (.ref C)
  | _ => none
theorem call_isi {X : Cx} : CallR X (.builtin "isinstance") (fun xs H Q => ∃ x c cv t b, xs = [x, c] ∧ clsV c = some cv ∧ TyX X.K H x t ∧ PySem.W.kitOne X.K t cv = some b ∧ Q (.bl b) H) := by
  intro pins s σ H xs us Q I r h
  obtain ⟨x, c, cv, t, b, rfl, hc, ty, hk, q⟩ := h
  cases r with
  | @cons _ u _ _ rx rr =>
    cases rr with
    | @cons _ v _ _ rc rn =>
      cases rn
      have ev : v = cv := by
        cases c with
        | ty n => cases hc; exact rc
        | ref C => cases hc; exact rc
        | _ => cases hc
      subst ev
      cases ty with
      | of ty => exact isinst_ok I rx ty hk fun tk => ⟨.bl b, H, I.tok tk, rfl, q⟩
      | @exc a D e f =>
        cases (show u = Value.ref a from rx)
        obtain ⟨p, _, _⟩ := (show ObjOk X.prog X.w H s.heap a (isExc a D) from I.hok a _ e)
        exact PySem.W.kia_one (kitx_exc f) I.kIn p hk (fun z => nomatch z) fun tk => ⟨.bl b, H, I.tok tk, rfl, q⟩
/-! ### an if whose ways meet in J -/
section
variable {X : Cx} {c : Expr} {a b : List Stmt} {tc : TT} {t u : TS} {pos : Pos}
end
end L2

set_option Elab.async false
set_option linter.all false
set_option maxRecDepth 100000
/-! Comprehensions over the hand layer: a block of its own, its names, the names that it takes along. -/
namespace L2
open PySem PySem.Spec PyProof.Rows

/-! ### the cells that a block takes along -/
def clStep (env : Env) (a : List (Str × Addr)) (x : Str × NameKind) : List (Str × Addr) := if (x.2 == NameKind.free) = true then (x.1, (env.cells.lookup x.1).getD 0) :: a else a
def clOf (env : Env) (l : List (Str × NameKind)) : List (Str × Addr) := l.foldl (clStep env) []
theorem forIn_fold {α β : Type} {l : List α} {f : α → β → Sem (ForInStep β)} {g : β → α → β} (h : ∀ x ∈ l, ∀ b, f x b = pure (.yield (g b x))) : ∀ b, forIn l b f = pure (l.foldl g b) := by
  induction l with
  | nil => intro b; rfl
  | cons x l ih =>
    intro b
    rw [List.forIn_cons, h x List.mem_cons_self, pure_bind]
    exact ih (fun y hy => h y (List.mem_cons_of_mem _ hy)) _
theorem closure_of {scope : Scope} {env : Env} (h : ∀ y ∈ scope.names, y.2 = .free → ∃ c, env.cells.lookup y.1 = some c) : closureFor scope env = pure (clOf env scope.names) := by
  simp only [closureFor]
  rw [forIn_fold (g := clStep env) (fun x hx c => by
    obtain ⟨n, k⟩ := x
    by_cases hk : k = .free
    · subst hk
      obtain ⟨a, ha⟩ := h _ hx rfl
      have e : cellOf env n = pure a := by unfold cellOf; rw [show env.cells.lookup n = some a from ha]
      simp only [clStep, beq_self_eq_true, if_true, e, show env.cells.lookup n = some a from ha, Option.getD_some]
      rfl
    · have hb : (k == NameKind.free) = false := by simpa using hk
      simp only [clStep, hb, Bool.false_eq_true, if_false])]
  rfl
theorem cl_lookup (env : Env) {y : Str} {c : Addr} : ∀ (l : List (Str × NameKind)) (a : List (Str × Addr)), (l.foldl (clStep env) a).lookup y = some c → a.lookup y = some c ∨ ((y, NameKind.free) ∈ l ∧ c = (env.cells.lookup y).getD 0)
  | [], a, h => .inl h
  | (n, k) :: r, a, h => by
    rw [List.foldl_cons] at h
    rcases cl_lookup env r _ h with z | ⟨z, e⟩
    · unfold clStep at z
      split at z
      · rename_i hk
        have hk' : k = .free := by simpa using hk
        rw [List.lookup_cons] at z
        split at z
        · rename_i hy
          have hy' : y = n := by simpa using hy
          subst hy' hk'
          exact .inr ⟨List.mem_cons_self, (Option.some.inj z).symm⟩
        · exact .inl z
      · exact .inl z
    · exact .inr ⟨List.mem_cons_of_mem _ z, e⟩
theorem cl_stays (env : Env) {y : Str} : ∀ (l : List (Str × NameKind)) (a : List (Str × Addr)), (∃ c, a.lookup y = some c) → ∃ c, (l.foldl (clStep env) a).lookup y = some c
  | [], _, h => h
  | (n, k) :: r, a, h => by
    rw [List.foldl_cons]
    refine cl_stays env r _ ?_
    unfold clStep
    split
    · rw [List.lookup_cons]
      split
      · exact ⟨_, rfl⟩
      · exact h
    · exact h
theorem cl_has (env : Env) {y : Str} : ∀ (l : List (Str × NameKind)) (a : List (Str × Addr)), (y, NameKind.free) ∈ l → ∃ c, (l.foldl (clStep env) a).lookup y = some c
  | [], _, h => by simp at h
  | (n, k) :: r, a, h => by
    rw [List.foldl_cons]
    rcases List.mem_cons.mp h with e | h
    · cases e
      refine cl_stays env r _ ⟨(env.cells.lookup y).getD 0, ?_⟩
      unfold clStep
      simp only [beq_self_eq_true, if_true, List.lookup_cons]
    · exact cl_has env r _ h
/-- a name of the block that is no own local -/
theorem relabel_of {env : Env} {y : Str} : ∀ {names : List (Str × NameKind)}, (∀ z ∈ names, z.2 ≠ .cell) →
    ((names.map fun (n, k) => if (k == NameKind.free && env.scope.kind == .function && env.kindOf n == some .cell) then (n, NameKind.cell) else (n, k)).lookup y = some .cell ∨
      (names.map fun (n, k) => if (k == NameKind.free && env.scope.kind == .function && env.kindOf n == some .cell) then (n, NameKind.cell) else (n, k)).lookup y = some .free) → (y, NameKind.free) ∈ names
  | [], _, h => by simp at h
  | (n, k) :: r, hc, h => by
    have ih := @relabel_of env y r (fun z hz => hc z (List.mem_cons_of_mem _ hz))
    have h' : List.lookup y ((if (k == NameKind.free && env.scope.kind == .function && env.kindOf n == some .cell) = true then (n, NameKind.cell) else (n, k)) :: (r.map fun (n, k) => if (k == NameKind.free && env.scope.kind == .function && env.kindOf n == some .cell) then (n, NameKind.cell) else (n, k))) = some .cell ∨
      List.lookup y ((if (k == NameKind.free && env.scope.kind == .function && env.kindOf n == some .cell) = true then (n, NameKind.cell) else (n, k)) :: (r.map fun (n, k) => if (k == NameKind.free && env.scope.kind == .function && env.kindOf n == some .cell) then (n, NameKind.cell) else (n, k))) = some .free := h
    clear h
    by_cases hb : (k == NameKind.free && env.scope.kind == .function && env.kindOf n == some .cell) = true
    · rw [if_pos hb] at h'
      have hk : k = .free := by
        simp only [Bool.and_eq_true, beq_iff_eq] at hb
        exact hb.1.1
      simp only [List.lookup_cons] at h'
      cases hy : y == n with
      | true =>
        have : y = n := by simpa using hy
        subst this hk
        exact List.mem_cons_self
      | false =>
        rw [hy] at h'
        exact List.mem_cons_of_mem _ (ih h')
    · rw [if_neg hb] at h'
      simp only [List.lookup_cons] at h'
      cases hy : y == n with
      | true =>
        rw [hy] at h'
        have : y = n := by simpa using hy
        subst this
        rcases h' with z | z
        · exact absurd (Option.some.inj z) (hc (y, k) List.mem_cons_self)
        · cases Option.some.inj z
          exact List.mem_cons_self
      | false =>
        rw [hy] at h'
        exact List.mem_cons_of_mem _ (ih h')
theorem relabel_free {env : Env} {y : Str} : ∀ {names : List (Str × NameKind)}, names.lookup y = some .free →
    ((names.map fun (n, k) => if (k == NameKind.free && env.scope.kind == .function && env.kindOf n == some .cell) then (n, NameKind.cell) else (n, k)).lookup y = some .cell ∨
      (names.map fun (n, k) => if (k == NameKind.free && env.scope.kind == .function && env.kindOf n == some .cell) then (n, NameKind.cell) else (n, k)).lookup y = some .free)
  | [], h => by simp at h
  | (n, k) :: r, h => by
    have ih := @relabel_free env y r
    show List.lookup y ((if (k == NameKind.free && env.scope.kind == .function && env.kindOf n == some .cell) = true then (n, NameKind.cell) else (n, k)) :: (r.map fun (n, k) => if (k == NameKind.free && env.scope.kind == .function && env.kindOf n == some .cell) then (n, NameKind.cell) else (n, k))) = some .cell ∨
      List.lookup y ((if (k == NameKind.free && env.scope.kind == .function && env.kindOf n == some .cell) = true then (n, NameKind.cell) else (n, k)) :: (r.map fun (n, k) => if (k == NameKind.free && env.scope.kind == .function && env.kindOf n == some .cell) then (n, NameKind.cell) else (n, k))) = some .free
    rw [List.lookup_cons] at h
    by_cases hb : (k == NameKind.free && env.scope.kind == .function && env.kindOf n == some .cell) = true
    · rw [if_pos hb]
      simp only [List.lookup_cons]
      cases hy : y == n with
      | true => exact .inl rfl
      | false => rw [hy] at h; exact ih h
    · rw [if_neg hb]
      simp only [List.lookup_cons]
      cases hy : y == n with
      | true => rw [hy] at h; exact .inr h
      | false => rw [hy] at h; exact ih h

/-! ### a block's loop, with the step ahead of the store -/
section
variable {prog : Program} {w : World} {A : Around} {R : Result → Shared → Prop} {s : Shared}
abbrev testsOf (ifs : List Expr) (env : Env) : Sem Bool := forIn ifs true fun c r => if r = true then do let ok ← isTrue c env (eval c env); pure (ForInStep.yield ok) else pure (ForInStep.yield r)
theorem compLoop_go {elt target iter : Expr} {ifs : List Expr} {scope : Scope} {pos : Pos} {it acc : Value} {env : Env} (I : Nat → Shared → Prop)
    (turn : ∀ n s, I n s → wpAny (model prog w) A (pyNext it) (fun r s₁ => match r with
      | none => R (.ok .next) s₁
      | some v => wpAny (model prog w) A (letOwnedTupleGo target it v) (fun _ s₀ => wpAny (model prog w) A (assign target env v) (fun _ s₂ =>
          wpAny (model prog w) A (testsOf ifs env) (fun ok s₃ =>
            if ok = true then wpAny (model prog w) A (eval elt env) (fun x s₄ =>
              wpAny (model prog w) A (call (.builtin "list.append") [acc, x]) (fun _ s₅ => ∃ m, m < n ∧ I m s₅) (fun _ _ => False) s₄) (fun _ _ => False) s₃
            else ∃ m, m < n ∧ I m s₃) (fun _ _ => False) s₂) (fun _ _ => False) s₀) (fun _ _ => False) s₁) (fun _ _ => False) s)
    (n : Nat) (h : I n s) : codeAny (model prog w) A (.compLoop (.ListComp elt [⟨target, iter, ifs, 0⟩] scope pos) 0 it acc env) R s := by
  refine codeAny_loop rfl I (fun n s hI => ?_) n h
  show wpAny _ A ((compTurn (.ListComp elt [⟨target, iter, ifs, 0⟩] scope pos) 0 it acc env).onRaise (fun x => do noteFrame x env; theTreesLotGoes x)) _ _ s
  refine wpAny_noted ?_
  rw [compTurn_list]
  refine wpAny_bind (wpAny_standAt (wpAny_bind (wpAny_mono (turn n s hI) (fun r s₁ h₁ => ?_) fun _ _ h' => h'.elim)))
  cases r with
  | none => exact wpAny_pure h₁
  | some v =>
    refine wpAny_bind (wpAny_mono h₁ (fun _ s₀ h₀ => ?_) fun _ _ h' => h'.elim)
    refine wpAny_bind (wpAny_mono h₀ (fun _ s₂ h₂ => wpAny_bind (wpAny_mono h₂ (fun ok s₃ h₃ => ?_) fun _ _ h' => h'.elim)) fun _ _ h' => h'.elim)
    cases ok with
    | false => exact wpAny_pure ⟨rfl, h₃⟩
    | true =>
      exact wpAny_bind (wpAny_bind (wpAny_mono h₃ (fun x s₄ h₄ => wpAny_bind (wpAny_mono h₄ (fun _ s₅ h₅ => wpAny_pure (wpAny_pure ⟨rfl, h₅⟩)) fun _ _ h' => h'.elim)) fun _ _ h' => h'.elim))
end

/-! ### the block's context -/
/-- the names that the block takes along stand behind its own: cs are their slots outside -/
def caps (cs : List Nat) (σ : St) : St := cs.map fun j => (σ[j]?).getD none
def cxC (X : Cx) (scope : Scope) (N : List Str) (s : Shared) (H : Hp) (ex : List Addr) : Cx :=
  { X with N := N, s₀ := s, H₀ := H, env := compEnvC scope (clOf X.env scope.names) s.heap.objs.size X.env, outer := X.stack, stack := X.stack, ex := ex, fn := fun _ => false, pn := [], xe := fun _ _ => False }
def PTs (X : Cx) (ifs : List Expr) (t : TT) : Prop :=
  ∀ (pins : List (Addr × Obj)) (s : Shared) (σ : St) (H : Hp) (Q : Bool → Hp → Prop), Inv X pins σ H s → t σ H Q → wpAny (model X.prog X.w) X.A (testsOf ifs X.env) (TP X pins σ Q) X.xe s
def tYes : TT := fun _ H Q => Q true H
theorem pts_nil {X : Cx} : PTs X [] tYes := fun _ _ _ H _ I h => wpAny_tests_nil ⟨H, I, h⟩
theorem pts_one {X : Cx} {c : Expr} {t : TT} (h : PT X c t) : PTs X [c] t := fun pins s σ H Q I q => wpAny_tests_one (h pins s σ H Q I q)
/-- what a block's scope keeps to -/
structure CScope (X : Cx) (scope : Scope) (N : List Str) (k : Nat) (cs : List Nat) : Prop where
  cell : ∀ y ∈ scope.names, y.2 ≠ .cell
  kind : scope.kind = .function
  names : ∀ y ∈ scope.names, y.2 = .local → scope.names.lookup y.1 = some .local
  free : ∀ y ∈ scope.names, y.2 = .free → X.env.scope.names.lookup y.1 = some .cell ∨ X.env.scope.names.lookup y.1 = some .free
  len : N.length = k + cs.length
  cap : ∀ j, j < cs.length → ∃ x, N[k + j]? = some x ∧ X.N[cs.getD j 0]? = some x ∧ scope.names.lookup x = some .free

/-- W: the invariant by the turn, a measure, what has been put into the list -/
def tBlock (k : Nat) (cs : List Nat) (g : TG) (tc : TT) (te : TE) (J : It) (σ : St) (H1 : Hp) (fin : List V → Hp → Prop) : Prop :=
  ∃ W : Nat → Nat → List V → Hp → Prop, (∃ m, W 0 m [] H1) ∧ ∀ i m acc H, W i m acc H →
    (J.stop i H ∧ fin acc H) ∨ (J.go i H ∧ ∃ Nx : List V → Hp → Prop, (∀ acc' H', Nx acc' H' → ∃ m', m' < m ∧ W (i + 1) m' acc' H') ∧ ∀ x H', J.yld i H x H' → g x (List.replicate k none ++ caps cs σ) H' fun σ2 H2 => (∃ ts : St, ts.length = k ∧ σ2 = ts ++ caps cs σ) ∧ acc.length < sizeLine ∧
      tc σ2 H2 fun b H3 => if b = true then te σ2 H3 fun v H4 => Nx (acc ++ [v]) H4 else Nx acc H3)
def tComp (k : Nat) (cs : List Nat) (wi : TI) (g : TG) (tc : TT) (te : TE) : TE := fun σ H Q => wi σ H fun J H1 => tBlock k cs g tc te J σ H1 fun acc H2 => ∀ p, H2 p = none → Q (.ref p) (upd H2 p (.lst acc))

section
variable {X : Cx} {tg iter elt : Expr} {ifs : List Expr} {scope : Scope} {pos : Pos} {wi : TI} {g : TG} {tc : TT} {te : TE} {N : List Str} {k : Nat} {cs : List Nat}
theorem Inv.block {pins : List (Addr × Obj)} {σ : St} {H : Hp} {s s' : Shared} {ex : List Addr} (hc : X.calm = true) (S : CScope X scope N k cs) (I : Inv X pins σ H s)
    (hex : ∀ b ∈ ex, FpOk X pins H b ∧ ∃ o, s.heap.get? b = some o) (hos : s'.os = s.os) (hg : AllBare s'.gens) (hk : ∀ b o, s.heap.get? b = some o → s'.heap.get? b = some o) (hn : ∃ m, s'.heap.Ns s.heap.objs.size m) :
    Inv (cxC X scope N s H ex) [] (List.replicate k none ++ caps cs σ) H s' := by
  have lk : ∀ {x c}, (clOf X.env scope.names).lookup x = some c → X.env.cells.lookup x = some c := fun {x c} h => by
    rcases cl_lookup X.env _ _ h with z | ⟨z, e⟩
    · simp at z
    · obtain ⟨a, ha⟩ := I.ok.has x (S.free _ z rfl)
      rw [e, ha]; rfl
  have nex : ∀ b, b ∈ ex → b ≠ s.heap.objs.size := fun b hb z => by
    obtain ⟨_, o, ho⟩ := hex b hb
    exact absurd (Heap.lt_size ho) (by rw [z]; exact Nat.lt_irrefl _)
  refine ⟨⟨I.ok.mod, S.kind, I.ok.glob, I.ok.blt, Nat.le_refl _, fun x y c h1 h2 => I.ok.inj x y c (lk h1) (lk h2), fun x hx => ?_, fun x c h _ => (nomatch h), I.ok.hd, I.ok.frames, .inl rfl, fun b hb => ⟨nex b hb, fun x c h => ?_⟩, I.bs, ?_, fun b o e hb => ?_, fun b hb hf => ?_, I.stack, I.stkFree⟩,
    hos, hg, Un.kept hk, ?_, fun x c h => ?_, I.hok.fresh (Nat.le_refl _), fun x c h => I.freeC x c (lk h), fun p hp => absurd (show p ∈ ([] : List (Addr × Obj)) from hp) (by simp), I.hok.kept hk, ?_⟩
  · exact cl_has X.env _ _ (relabel_of S.cell hx)
  · exact (hex b hb).1.2.2.2.2.1 x c (lk h)
  · exact Nat.le_trans I.ok.bsz I.sz
  · rcases (hex b hb).1.2.2.2.1 with z | z
    · exact I.ok.noex b o e z
    · exact absurd (Nat.lt_of_lt_of_le (Heap.lt_size e) (Nat.le_trans I.ok.bsz z)) (Nat.lt_irrefl _)
  · rcases List.mem_cons.mp (I.stkSub b hf) with z | z
    · exact (hex b hb).1.2.1 z
    · exact (hex b hb).1.2.2.1 z
  · obtain ⟨m, hm⟩ := hn
    obtain ⟨mo, hmo, hlo⟩ := I.loc
    refine ⟨m, hm, fun i x v h1 h2 h3 => ?_⟩
    have hi : k ≤ i := by
      by_cases z : i < k
      · rw [List.getElem?_append_left (by simpa using z), List.getElem?_replicate, if_pos z] at h2
        cases h2
      · lia
    obtain ⟨j, rfl⟩ : ∃ j, i = k + j := ⟨i - k, by lia⟩
    rw [List.getElem?_append_right (by simp), List.length_replicate, Nat.add_sub_cancel_left] at h2
    unfold caps at h2
    rw [List.getElem?_map] at h2
    have hj : j < cs.length := by
      by_cases z : j < cs.length
      · exact z
      · rw [List.getElem?_eq_none (by lia)] at h2
        cases h2
    obtain ⟨x', e1, e2, e3⟩ := S.cap j hj
    rw [show N[k + j]? = some x from h1] at e1
    cases e1
    rw [List.getElem?_eq_getElem hj] at h2
    have h2' : (σ[cs[j]]?).getD none = some v := Option.some.inj h2
    rw [List.getD_eq_getElem?_getD, List.getElem?_eq_getElem hj] at e2
    have h4 : σ[cs[j]]? = some (some v) := by
      cases q : σ[cs[j]]? with
      | none => rw [q] at h2'; cases h2'
      | some w => rw [q] at h2'; rw [show w = some v from h2']
    have kO := S.free (x, .free) (PySem.mem_of_lookup e3) rfl
    obtain ⟨u, ru, l⟩ := hlo _ x v e2 h4 (.inr kO)
    refine ⟨u, ru, ?_⟩
    rcases l with ⟨z, _⟩ | ⟨_, c, hc', z⟩
    · have z' : X.env.scope.names.lookup x = some .local := z
      rcases kO with q | q <;> · rw [z'] at q; cases q
    · obtain ⟨c', h5⟩ := cl_has X.env _ [] (PySem.mem_of_lookup e3)
      have h6 := lk h5
      rw [hc'] at h6
      cases h6
      obtain ⟨o, ho, hd⟩ := z
      exact .inr ⟨relabel_free e3, c, h5, o, hk _ _ ho, hd⟩
  · obtain ⟨v, o, ho, hd⟩ := I.cell x c (lk h)
    exact ⟨v, o, hk _ _ ho, hd⟩
  · show (List.replicate k none ++ caps cs σ).length = N.length
    rw [List.length_append, List.length_replicate, S.len]
    unfold caps
    rw [List.length_map]
end
end L2

set_option Elab.async false
set_option linter.all false
set_option maxRecDepth 100000
namespace L2
open PySem PySem.Spec PyProof.Rows
section
variable {X : Cx} {tg iter elt : Expr} {ifs : List Expr} {scope : Scope} {pos : Pos} {wi : TI} {g : TG} {tc : TT} {te : TE} {N : List Str} {k : Nat} {cs : List Nat} {fin : List V → Hp → Prop}
theorem comp_loop {pins : List (Addr × Obj)} {σ : St} {H2 : Hp} {sD s1 : Shared} {it D : Addr} {fp : List Addr} {tn : Nat → Heap → Prop} {J : It} {n0 : Nat} {RR : Result → Shared → Prop} (hc : X.calm = true) (S : CScope X scope N k cs)
    (hg : ∀ s H ex, PG (cxC X scope N s H ex) tg g) (ht : ∀ s H ex, PTs (cxC X scope N s H ex) ifs tc) (he : ∀ s H ex, PE (cxC X scope N s H ex) elt te)
    (ID : Inv X pins σ H2 sD) (hD : sD.heap.get? D = some { cls := .type "list", data := .seq ([] : List Value).toArray n0 }) (hD0 : X.s₀.heap.objs.size ≤ D) (fD : FpOk X pins H2 D) (nfp : D ∉ fp)
    (T : Turn X.prog X.w X.K tg J fp it tn) (st : tn 0 sD.heap) (f2 : ∀ b ∈ fp, FpOk X pins H2 b) (hb : tBlock k cs g tc te J σ H2 fin)
    (hos : s1.os = sD.os) (hgn : AllBare s1.gens) (hk : ∀ b o, sD.heap.get? b = some o → s1.heap.get? b = some o) (hn : ∃ m, s1.heap.Ns sD.heap.objs.size m)
    (hRR : ∀ (H' : Hp) (acc : List V) (s4 : Shared), fin acc H' → H' D = none → Inv X pins σ (upd H' D (.lst acc)) s4 → (∃ m, s4.heap.Ns sD.heap.objs.size m) → FpOk X pins (upd H' D (.lst acc)) sD.heap.objs.size → RR (.ok .next) s4) :
    codeAny (model X.prog X.w) X.A (.compLoop (.ListComp elt [⟨tg, iter, ifs, 0⟩] scope pos) 0 (.ref it) (.ref D) (compEnvC scope (clOf X.env scope.names) sD.heap.objs.size X.env)) RR s1 := by
  obtain ⟨W, ⟨m0, w0⟩, turn⟩ := hb
  have hobj : ∀ b, b ∈ D :: fp → ∃ o, sD.heap.get? b = some o := fun b hb => by
    rcases List.mem_cons.mp hb with rfl | z
    · exact ⟨_, hD⟩
    · obtain ⟨o, e, _⟩ := T.obj _ _ st b z
      exact ⟨o, e⟩
  have hexx : ∀ b ∈ D :: fp, FpOk X pins H2 b ∧ ∃ o, sD.heap.get? b = some o := fun b hb => ⟨by
    rcases List.mem_cons.mp hb with rfl | z
    · exact fD
    · exact f2 b z, hobj b hb⟩
  have neC : ∀ b, b ∈ D :: fp → b ≠ sD.heap.objs.size := fun b hb z => by
    obtain ⟨o, e⟩ := hobj b hb
    exact absurd (Heap.lt_size e) (by rw [z]; exact Nat.lt_irrefl _)
  have nfr : ∀ b, b ∈ D :: fp → b ∉ frs X.stack := fun b hb hf => by
    rcases List.mem_cons.mp (ID.stkSub b hf) with z | z
    · exact (hexx b hb).1.2.1 z
    · exact (hexx b hb).1.2.2.1 z
  have I0 := ID.block hc S hexx hos hgn hk hn
  have I0ok := I0.ok
  have cells : ∀ b, b ∈ D :: fp → ∀ x c, (clOf X.env scope.names).lookup x = some c → c ≠ b := fun b hb x c h => (I0ok.exf b hb).2 x c h
  have fpok : ∀ {H' : Hp} {pl : List (Addr × Obj)}, (∀ b ∈ fp, H' b = none) → (∀ p ∈ pl, p.1 = D) → ∀ b ∈ fp, FpOk (cxC X scope N sD H2 (D :: fp)) pl H' b := fun hn hp b hb =>
    ⟨hn b hb, neC b (.tail _ hb), nfr b (.tail _ hb), .inl (.tail _ hb), cells b (.tail _ hb), fun p hp' z => nfp (by
      have := hp p hp'
      rw [← this, z]; exact hb)⟩
  refine compLoop_go (fun n s' => ∃ (i : Nat) (acc : List V) (its : List Value) (nn : Nat) (H' : Hp), Inv (cxC X scope N sD H2 (D :: fp)) [] (List.replicate k none ++ caps cs σ) H' s' ∧ tn i s'.heap ∧ (∀ b ∈ fp, H' b = none) ∧ H' D = none ∧ acc.length ≤ sizeLine ∧ Vals acc its ∧
    s'.heap.get? D = some { cls := .type "list", data := .seq its.toArray nn } ∧ W i n acc H') ?_ m0
    ⟨0, [], [], n0, H2, I0, T.keep _ _ _ st (fun b _ o e => hk b o e), fun b hb => (f2 b hb).1, fD.1, Nat.zero_le _, .nil, hk _ _ hD, w0⟩
  rintro n s3 ⟨i, acc, its, nn, H3, I3, st3, fr3, nD3, hl3, v3, e3, w3⟩
  have I3p : Inv (cxC X scope N sD H2 (D :: fp)) [(D, { cls := .type "list", data := .seq its.toArray nn })] (List.replicate k none ++ caps cs σ) H3 s3 := I3.pins_of fun p hp => by
    rw [List.mem_singleton] at hp
    subst hp
    exact ⟨e3, nD3, neC D (.head _), nfr D (.head _), fun v z => by cases z⟩
  have one : ∀ p ∈ [((D, { cls := .type "list", data := .seq its.toArray nn }) : Addr × Obj)], p.1 = D := fun p hp => by
    rw [List.mem_singleton] at hp
    subst hp
    rfl
  rcases turn i n acc H3 w3 with ⟨stop, qf⟩ | ⟨go, Nx, hNx, step⟩
  · refine thn (T.done (cxC X scope N sD H2 (D :: fp)) rfl rfl rfl hc i _ s3 _ H3 _ I3p (fpok fr3 one) st3 stop) fun r s4 ⟨hr, I4⟩ => ?_
    subst hr
    have IX : Inv X pins σ H3 s4 := ID.call' (ch := D :: fp) I4.os I4.base I4.hok I4.bare fun b hb => ⟨(hexx b hb).1.2.2.2.1, (hexx b hb).1.2.1, (hexx b hb).1.2.2.2.2.1, (hexx b hb).1.2.2.2.2.2⟩
    have p4 := (I4.pin (D, { cls := .type "list", data := .seq its.toArray nn }) (by show _ ∈ [] ++ [_]; simp)).1
    have IY : Inv X pins σ (upd H3 D (.lst acc)) s4 := by
      refine IX.track nD3 (Heap.get?_none_of_le hD0) (Heap.get?_none_of_le (Nat.le_trans ID.ok.bsz hD0)) (Ne.symm fD.2.1) fD.2.2.2.2.1 fD.2.2.2.2.2 (fun b hb z => fD.2.2.1 (z ▸ hb)) ?_
      exact ⟨hl3, its, nn, v3, p4⟩
    refine hRR H3 acc s4 qf nD3 IY ?_ (ID.fpOk (Nat.le_refl _) ?_)
    · obtain ⟨m, hm, _⟩ := I4.loc
      exact ⟨m, hm⟩
    · rw [upd_ne (Ne.symm (neC D (.head _)))]
      exact I4.free
  · refine thn (T.item (cxC X scope N sD H2 (D :: fp)) rfl rfl rfl hc i _ s3 _ H3 (fun _ _ => False) I3p (fpok fr3 one) st3 go) fun r s4 ⟨u, hr, h4⟩ => ?_
    subst hr
    refine thn h4 fun _ s5 ⟨x, H5, I5, r5, y5, st5, fr5⟩ => ?_
    have I5' := I5.pinned (fpok fr5 one) (T.obj _ _ st5)
    refine thn (hg sD H2 (D :: fp) _ s5 _ H5 x u _ I5' r5 (step x H5 y5)) fun _ s6 ⟨σ6, H6, I6, ⟨ts, tl, eσ⟩, hz6, q6⟩ => ?_
    refine thn (ht sD H2 (D :: fp) _ s6 σ6 H6 _ I6 q6) fun b s7 ⟨H7, I7, q7⟩ => ?_
    have weak : ∀ {pl : List (Addr × Obj)} {H' : Hp} {s' : Shared}, Inv (cxC X scope N sD H2 (D :: fp)) pl σ6 H' s' → Inv (cxC X scope N sD H2 (D :: fp)) [] (List.replicate k none ++ caps cs σ) H' s' := fun {pl H' s'} J => by
      refine (J.weak (σ' := List.replicate k none ++ caps cs σ) ?_ fun j v e => ?_).pins_of fun p hp => absurd hp (by simp)
      · rw [eσ, List.length_append, List.length_append, List.length_replicate, tl]
      · by_cases z : j < k
        · rw [List.getElem?_append_left (by simpa using z), List.getElem?_replicate, if_pos z] at e
          cases e
        · rw [List.getElem?_append_right (by rw [List.length_replicate]; lia), List.length_replicate] at e
          rw [eσ, List.getElem?_append_right (by lia), tl]
          exact e
    -- the walked records stand since s5
    have later : ∀ {pl : List (Addr × Obj)} {σ' : St} {H' : Hp} {s' : Shared}, Inv (cxC X scope N sD H2 (D :: fp)) (pl ++ pinsAt fp s5.heap) σ' H' s' → tn (i + 1) s'.heap ∧ ∀ b ∈ fp, H' b = none := fun {pl σ' H' s'} J =>
      ⟨T.keep _ _ _ st5 fun b hb o e => (J.pin (b, o) (List.mem_append_right _ (List.mem_append_right _ (mem_pinsAt hb e)))).1, fun b hb => by
        obtain ⟨o, e, _⟩ := T.obj _ _ st5 b hb
        exact (J.pin (b, o) (List.mem_append_right _ (List.mem_append_right _ (mem_pinsAt hb e)))).2.1⟩
    cases b with
    | false =>
      have q7' : Nx acc H7 := by simpa using q7
      obtain ⟨m', hm, w7⟩ := hNx _ _ q7'
      rw [if_neg Bool.false_ne_true]
      have p7 := I7.pin (D, { cls := .type "list", data := .seq its.toArray nn }) (List.mem_append_right _ (List.mem_append_left _ (List.mem_singleton.mpr rfl)))
      exact ⟨m', hm, i + 1, acc, its, nn, H7, weak I7, (later I7).1, (later I7).2, p7.2.1, hl3, v3, p7.1, w7⟩
    | true =>
      rw [if_pos rfl] at q7
      rw [if_pos rfl]
      refine thn (he sD H2 (D :: fp) _ s7 σ6 H7 _ I7 q7) fun y s8 ⟨v, H8, I8, r8, q8⟩ => ?_
      obtain ⟨m', hm, w8⟩ := hNx _ _ q8
      have p8 := I8.pin (D, { cls := .type "list", data := .seq its.toArray nn }) (List.mem_append_right _ (List.mem_append_left _ (List.mem_singleton.mpr rfl)))
      have hlen := v3.length
      refine call_meets F.slot_list_append ⟨_, p8.1, rfl⟩ F.entry_list_append (F.args_list_append_2 _ _) (PySem.list_append D its.toArray nn y (by rw [List.size_toArray]; lia)) ⟨p8.1, ?_⟩
      have q := PySem.IsL.update p8.1 (·.push y)
      have eq : its.toArray.push y = (its ++ [y]).toArray := by simp
      dsimp only at q
      rw [eq] at q
      have I8' : Inv (cxC X scope N sD H2 (D :: fp)) ([] ++ pinsAt fp s5.heap) σ6 H8 s8 := I8.pins_of fun p hp => I8.pin p (List.mem_append_right _ (List.mem_append_right _ hp))
      have I9 := I8'.turned (t' := s8.toks) (it := D) (h' := s8.heap.update D (Obj.mapSeq (·.push y))) (fun b o hb e => (Heap.get?_update_other s8.heap (Obj.mapSeq (·.push y)) (Ne.symm hb)).trans e) p8.2.1 (neC D (.head _)) (.inl (.head _)) (cells D (.head _))
        (fun p hp z => nfp (by
          have := (of_pinsAt (fp := fp) (h := s5.heap) (p := p) (by simpa [cxC] using hp)).1
          rw [z] at this
          exact this))
      refine ⟨m', hm, i + 1, acc ++ [v], its ++ [y], _, H8, weak I9, (later I9).1, (later I9).2, p8.2.1, ?_, v3.append (.cons r8 .nil), q, w8⟩
      rw [List.length_append, List.length_singleton]
      lia
/-- from the iterator on: the new list, the block, its loop -/
theorem comp_block {pins : List (Addr × Obj)} {σ : St} {H2 : Hp} {s2 : Shared} {it : Addr} {fp : List Addr} {tn : Nat → Heap → Prop} {J : It} {RR : Value → Addr → Result → Shared → Prop} {E : Value → Shared → Prop} (hc : X.calm = true) (S : CScope X scope N k cs)
    (hg : ∀ s H ex, PG (cxC X scope N s H ex) tg g) (ht : ∀ s H ex, PTs (cxC X scope N s H ex) ifs tc) (he : ∀ s H ex, PE (cxC X scope N s H ex) elt te)
    (I2 : Inv X pins σ H2 s2) (T : Turn X.prog X.w X.K tg J fp it tn) (st : tn 0 s2.heap) (f2 : ∀ b ∈ fp, FpOk X pins H2 b) (hb : tBlock k cs g tc te J σ H2 fin)
    (hRR : ∀ (D C : Addr) (H' : Hp) (acc : List V) (s4 : Shared), fin acc H' → H' D = none → Inv X pins σ (upd H' D (.lst acc)) s4 → (∃ m, s4.heap.Ns C m) → FpOk X pins (upd H' D (.lst acc)) C → RR (.ref D) C (.ok .next) s4) :
    wpAny (model X.prog X.w) X.A (newList []) (fun acc s₃ => wpAny (model X.prog X.w) X.A (newFunctionEnv scope X.env.globals (clOf X.env scope.names) [] X.env.qual none .none (some X.env)) (fun cenv s₄ =>
      codeAny (model X.prog X.w) X.A (.compStart (.ListComp elt [⟨tg, iter, ifs, 0⟩] scope pos) 0 (.ref it) acc { cenv with scope := relabel scope X.env }) (RR acc cenv.locals) s₄) E s₃) E s2 := by
  refine wpAny_newObj_type (wpAny_newFunctionEnv S.cell (by intro y hy; simp at hy) (fun h₁ hns₁ hsb₁ => ?_) S.kind)
  dsimp only at hns₁ hsb₁ ⊢
  have keepD : ∀ b o, s2.heap.get? b = some o → (s2.heap.push { cls := .type "list", dict := none, data := .seq ([] : List Value).toArray }).get? b = some o := fun b o e => Heap.get?_push_of_some _ e
  have ID : Inv X pins σ H2 { s2 with heap := s2.heap.push { cls := .type "list", dict := none, data := .seq ([] : List Value).toArray } } := I2.kept (t' := s2.toks) keepD
  have hD : (s2.heap.push { cls := .type "list", dict := none, data := .seq ([] : List Value).toArray }).get? s2.heap.objs.size = some { cls := .type "list", data := .seq ([] : List Value).toArray } := Heap.get?_push_size _ rfl
  have nfp : s2.heap.objs.size ∉ fp := fun z => by
    obtain ⟨o, e, _⟩ := T.obj _ _ st _ z
    exact absurd (Heap.lt_size e) (Nat.lt_irrefl _)
  have stD : tn 0 (s2.heap.push { cls := .type "list", dict := none, data := .seq ([] : List Value).toArray }) := T.keep _ _ _ st fun b _ o e => keepD b o e
  have hk : ∀ b o, (s2.heap.push { cls := .type "list", dict := none, data := .seq ([] : List Value).toArray }).get? b = some o → h₁.get? b = some o := fun b o e => hsb₁.extBut b o (Nat.ne_of_lt (Heap.lt_size e)) (Heap.get?_push_of_some _ e)
  have loop : ∀ s₃ : Shared, s₃ = { s2 with heap := h₁, toks := s2.toks + ([] : List (Str × Value)).length } →
      codeAny (model X.prog X.w) X.A (.compLoop (.ListComp elt [⟨tg, iter, ifs, 0⟩] scope pos) 0 (.ref it) (.ref s2.heap.objs.size) (compEnvC scope (clOf X.env scope.names) (s2.heap.push { cls := .type "list", dict := none, data := .seq ([] : List Value).toArray }).objs.size X.env))
        (RR (.ref s2.heap.objs.size) (s2.heap.push { cls := .type "list", dict := none, data := .seq ([] : List Value).toArray }).objs.size) s₃ := by
    rintro s₃ rfl
    exact comp_loop (sD := { s2 with heap := s2.heap.push { cls := .type "list", dict := none, data := .seq ([] : List Value).toArray } }) hc S hg ht he ID hD I2.sz (I2.fpOk (Nat.le_refl _) I2.fresh) nfp T stD f2 hb rfl I2.bare hk ⟨_, hns₁⟩ fun H' acc s4 => hRR _ _ H' acc s4
  exact codeAny_compStart_list (loop _ rfl) (T.self _ 0 _ _ _ (T.keep _ _ _ stD fun b _ o e => hk b o e) (loop _ rfl))
theorem pe_comp (hc : X.calm = true) (S : CScope X scope N k cs) (hi : PI X tg iter wi) (hg : ∀ s H ex, PG (cxC X scope N s H ex) tg g) (ht : ∀ s H ex, PTs (cxC X scope N s H ex) ifs tc) (he : ∀ s H ex, PE (cxC X scope N s H ex) elt te)
    (hs : ∀ x, foldedSetIterable iter X.env x = pure x := by intro _; rfl) : PE X (.ListComp elt [⟨tg, iter, ifs, 0⟩] scope pos) (tComp k cs wi g tc te) := by
  intro pins s σ H Q I h
  rw [eval_ListComp]
  refine wpAny_comprehension_free (use := none) rfl hs (closure_of fun y hy hf => I.ok.has _ (S.free y hy hf)) S.kind S.names (thn (hi pins s σ H _ I h) fun v s1 h1 => thn h1 fun itv s2 h2 => ?_)
  obtain ⟨it, fp, tn, J, H2, rfl, I2, T, st2, f2, hb⟩ := h2
  refine comp_block (RR := fun acc C => compPost (model X.prog X.w) X.A X.xe none (EP X pins σ Q) acc C) hc S hg ht he I2 T st2 f2 hb fun D C H' acc s4 qf nD J4 hn fC => ?_
  obtain ⟨m, hm⟩ := hn
  refine ⟨m, hm, fun h' sb => ⟨.ref D, upd H' D (.lst acc), ?_, rfl, qf D nD⟩⟩
  exact J4.turned (t' := s4.toks) (it := C) (fun b o hb e => (sb.2 b hb).trans e) fC.1 fC.2.1 fC.2.2.2.1 fC.2.2.2.2.1 fC.2.2.2.2.2
/-- name = [..]: stored ahead of the block's end -/
def tSetComp (i k : Nat) (cs : List Nat) (wi : TI) (g : TG) (tc : TT) (te : TE) : TS := fun D σ H => wi σ H fun J H1 => tBlock k cs g tc te J σ H1 fun acc H2 => ∀ p, H2 p = none → D.nx (σ.set i (some (.ref p))) (upd H2 p (.lst acc))
theorem ps_setComp {i : Nat} {y : Str} {py spos : Pos} (hc : X.calm = true) (hN : X.N.Nodup) (hi' : X.N[i]? = some y) (hy : X.env.scope.names.lookup y = some .local) (S : CScope X scope N k cs) (hi : PI X tg iter wi)
    (hg : ∀ s H ex, PG (cxC X scope N s H ex) tg g) (ht : ∀ s H ex, PTs (cxC X scope N s H ex) ifs tc) (he : ∀ s H ex, PE (cxC X scope N s H ex) elt te)
    (hsw : swapsWith (.ListComp elt [⟨tg, iter, ifs, 0⟩] scope pos) (some (.Name y py)) spos.line X.env = pure true := by rfl) (hs : ∀ x, foldedSetIterable iter X.env x = pure x := by intro _; rfl) :
    PS X (.Assign [.Name y py] (.ListComp elt [⟨tg, iter, ifs, 0⟩] scope pos) spos) (tSetComp i k cs wi g tc te) := by
  intro pins s σ H D I h
  rw [exec_Assign_Name_used _ _ _ _ hsw]
  refine wpAny_bind (wpAny_standAt (wpAny_bind ?_))
  show wpAny _ X.A (do let _ ← comprehension (.ListComp elt [⟨tg, iter, ifs, 0⟩] scope pos) scope X.env _ (newList []) false (eval iter X.env) (some (assign (.Name y py) X.env))) _ _ s
  refine wpAny_bind (wpAny_mono (wpAny_comprehension_free (use := some (assign (.Name y py) X.env)) (Q := fun _ s' => SP X pins D .next s') rfl hs (closure_of fun y hy hf => I.ok.has _ (S.free y hy hf)) S.kind S.names
    (thn (hi pins s σ H _ I h) fun v s1 h1 => thn h1 fun itv s2 h2 => ?_)) (fun _ s' hq => wpAny_pure (wpAny_pure hq)) fun _ _ e => e)
  obtain ⟨it, fp, tn, J, H2, rfl, I2, T, st2, f2, hb⟩ := h2
  refine comp_block (RR := fun acc C => compPost (model X.prog X.w) X.A X.xe (some (assign (.Name y py) X.env)) (fun _ s' => SP X pins D .next s') acc C) hc S hg ht he I2 T st2 f2 hb fun L C H' acc s4 qf nD J4 hn fC => ?_
  obtain ⟨m, hm⟩ := hn
  show wpAny _ X.A (assign (.Name y py) X.env (.ref L)) _ _ _
  refine wpAny_assign_Name (store_ok2 J4 hN hi' (.inl hy) (v := .ref L) rfl (fun s5 J5 hsb => ?_) (.inr hy))
  obtain ⟨a, sb, ha⟩ := hsb
  have nCa : C ≠ a := by
    rcases ha with z | z
    · rw [z]; exact fC.2.1
    · exact fun q => fC.2.2.2.2.1 y a z q.symm
  refine ⟨m, hm.sameBut sb nCa, fun h' sb' => ⟨σ.set i (some (.ref L)), upd H' L (.lst acc), ?_, qf L nD⟩⟩
  exact J5.turned (t' := s5.toks) (it := C) (fun b o hb e => (sb'.2 b hb).trans e) fC.1 fC.2.1 fC.2.2.2.1 fC.2.2.2.2.1 fC.2.2.2.2.2
end

/-! ### the forms one uses -/
section
variable {K : PySem.W.Frag} {k : Nat} {cs : List Nat} {g : TG} {tc : TT} {te : TE} {σ : St} {H : Hp} {fin : List V → Hp → Prop}
/-- what a turn is to do -/
abbrev Bt (k : Nat) (cs : List Nat) (g : TG) (tc : TT) (te : TE) (σ : St) (x : V) (acc : List V) (H : Hp) (Nx : List V → Hp → Prop) : Prop :=
  g x (List.replicate k none ++ caps cs σ) H fun σ2 H2 => (∃ ts : St, ts.length = k ∧ σ2 = ts ++ caps cs σ) ∧ acc.length < sizeLine ∧ tc σ2 H2 fun b H3 => if b = true then te σ2 H3 fun v H4 => Nx (acc ++ [v]) H4 else Nx acc H3
theorem blk_list {a : Addr} {xs : List V} (Pv : Nat → List V → Hp → Prop) (h0 : Pv 0 [] H) (hl : ∀ i acc H, i ≤ xs.length → Pv i acc H → SqL K H a xs)
    (hs : ∀ i x acc H, xs[i]? = some x → Pv i acc H → Bt k cs g tc te σ x acc H (Pv (i + 1))) (hd : ∀ acc H, Pv xs.length acc H → fin acc H) : tBlock k cs g tc te (Itl K a) σ H fin := by
  refine ⟨fun i m acc H => m = xs.length - i ∧ i ≤ xs.length ∧ Pv i acc H, ⟨xs.length, by simp, Nat.zero_le _, h0⟩, ?_⟩
  rintro i m acc H ⟨rfl, hi, p⟩
  have q := hl i acc H hi p
  by_cases hlt : i < xs.length
  · refine .inr ⟨⟨xs, xs[i], q, by simp [hlt]⟩, Pv (i + 1), fun acc' H' p' => ⟨xs.length - (i + 1), by lia, rfl, hlt, p'⟩, fun x H' y => ?_⟩
    obtain ⟨e, y⟩ := y
    subst e
    exact hs i x acc _ (y xs q) p
  · have e : i = xs.length := by lia
    subst e
    exact .inl ⟨⟨xs, q, Nat.le_refl _⟩, hd acc H p⟩
theorem blk_tup {a : Addr} {xs : List V} (Pv : Nat → List V → Hp → Prop) (h0 : Pv 0 [] H) (hl : ∀ i acc H, i ≤ xs.length → Pv i acc H → SqT K H a xs)
    (hs : ∀ i x acc H, xs[i]? = some x → Pv i acc H → Bt k cs g tc te σ x acc H (Pv (i + 1))) (hd : ∀ acc H, Pv xs.length acc H → fin acc H) : tBlock k cs g tc te (Itt K a) σ H fin := by
  refine ⟨fun i m acc H => m = xs.length - i ∧ i ≤ xs.length ∧ Pv i acc H, ⟨xs.length, by simp, Nat.zero_le _, h0⟩, ?_⟩
  rintro i m acc H ⟨rfl, hi, p⟩
  have q := hl i acc H hi p
  by_cases hlt : i < xs.length
  · refine .inr ⟨⟨xs, xs[i], q, by simp [hlt]⟩, Pv (i + 1), fun acc' H' p' => ⟨xs.length - (i + 1), by lia, rfl, hlt, p'⟩, fun x H' y => ?_⟩
    obtain ⟨e, y⟩ := y
    subst e
    exact hs i x acc _ (y xs q) p
  · have e : i = xs.length := by lia
    subst e
    exact .inl ⟨⟨xs, q, Nat.le_refl _⟩, hd acc H p⟩
end
end L2

set_option Elab.async false
set_option linter.all false
set_option maxRecDepth 100000
/-! enumerate and zip over lists and tuples. -/
namespace L2
open PySem PySem.Spec PyProof.Rows
section
variable {prog : Program} {w : World} {A : Around} {E : Value → Shared → Prop} {s : Shared}
theorem nextOf_tuple_item {I t : Addr} {k : Nat} {vs : Array Value} {v : Value} {Q : Value → Shared → Prop} (hI : s.heap.IsTupleIter I t k) (hV : s.heap.IsTuple t vs) (hv : vs[k]? = some v)
    (q : ∀ g, g.IsTupleIter I t (k + 1) → Heap.SameBut I s.heap g → Q v { s with heap := g }) : wpAny (model prog w) A (Builtin.SmallTypes.nextOf (.ref I)) Q E s := by
  obtain ⟨oI, eI, cI, dI⟩ := id hI
  obtain ⟨oV, eV, _, nV, dV⟩ := hV
  unfold Builtin.SmallTypes.nextOf
  refine wpAny_bind (wpAny_callSpecial?_slot (name := Str.ofString "__next__") hI.typeIs F.slot_tuple_iterator_next (wpAny_call_entry F.slot_tuple_iterator_next hI.typeIs F.entry_tuple_iterator_next ?_ (F.args_tuple_iterator_next_1 _)))
  show wpAny _ _ (field (.ref I) 0 >>= _) _ _ s
  refine wpAny_bind (wpAny_field eI dI (x := .ref t) rfl ?_)
  show wpAny _ _ (if (Value.ref t == Value.none) = true then _ else _) _ _ s
  rw [if_neg (fun z : (Value.ref t == Value.none) = true => Bool.false_ne_true z)]
  show wpAny _ _ (field (.ref I) 1 >>= _) _ _ s
  refine wpAny_bind (wpAny_field eI dI (x := .int k 0) rfl ?_)
  show wpAny _ _ (seqItems? (.ref t) >>= _) _ _ s
  refine wpAny_bind (wpAny_seqItems eV dV ?_)
  simp only [Int.toNat_natCast, hv]
  refine wpAny_bind (wpAny_setField eI dI (by simp) (wpAny_pure ⟨v, rfl, wpAny_pure (q _ ?_ (Heap.SameBut.update ..))⟩))
  exact ⟨_, Heap.get?_update_self _ eI (Obj.isFreed_of_fields (Obj.data_mapFields dI _)), (Obj.cls_mapFields ..).trans cI, by rw [Obj.data_mapFields dI]; simp [rawInt]⟩
theorem nextOf_tuple_end {I t : Addr} {k : Nat} {vs : Array Value} {Q : Value → Shared → Prop} (hA : A.handled = none) (hI : s.heap.IsTupleIter I t k) (hV : s.heap.IsTuple t vs) (hv : vs[k]? = none)
    (q : ∀ g e, Heap.ExtBut I s.heap g → (∃ o, g.get? e = some o ∧ o.cls = .type "StopIteration") → E (.ref e) { s with heap := g }) : wpAny (model prog w) A (Builtin.SmallTypes.nextOf (.ref I)) Q E s := by
  obtain ⟨oI, eI, cI, dI⟩ := id hI
  obtain ⟨oV, eV, _, nV, dV⟩ := hV
  unfold Builtin.SmallTypes.nextOf
  refine wpAny_bind (wpAny_callSpecial?_slot (name := Str.ofString "__next__") hI.typeIs F.slot_tuple_iterator_next (wpAny_call_entry F.slot_tuple_iterator_next hI.typeIs F.entry_tuple_iterator_next ?_ (F.args_tuple_iterator_next_1 _)))
  show wpAny _ _ (field (.ref I) 0 >>= _) _ _ s
  refine wpAny_bind (wpAny_field eI dI (x := .ref t) rfl ?_)
  show wpAny _ _ (if (Value.ref t == Value.none) = true then _ else _) _ _ s
  rw [if_neg (fun z : (Value.ref t == Value.none) = true => Bool.false_ne_true z)]
  show wpAny _ _ (field (.ref I) 1 >>= _) _ _ s
  refine wpAny_bind (wpAny_field eI dI (x := .int k 0) rfl ?_)
  show wpAny _ _ (seqItems? (.ref t) >>= _) _ _ s
  refine wpAny_bind (wpAny_seqItems eV dV ?_)
  simp only [Int.toNat_natCast, hv]
  refine wpAny_bind (wpAny_rule (wpAny_bind (wpAny_setField eI dI (by simp) ?_)))
  show wpAny _ _ (newExc (.type "StopIteration") [] >>= _) _ _ _
  refine wpAny_bind ?_
  simp only [newExc, newTuple]
  refine wpAny_bind (wpAny_newObj_type ?_ (by size_fits))
  refine wpAny_bind (m := firstArgMember _ _) (wpAny_of_eq (a := Value.none) (by first | rfl | (simp only [firstArgMember]; rfl)) (wpAny_newObj_type ?_ (by size_fits)))
  simp only [raiseNew]
  refine wpAny_bind (wpAny_handled ?_)
  first | rw [show A.in1.handled = none from hA] | rw [hA]
  refine wpAny_bind (wpAny_pure (wpAny_throw (q _ _ (((Heap.SameBut.update ..).extBut.push _).push _) ⟨_, Heap.get?_push_size _ rfl, rfl⟩)))
/-- the iterator of a list (false) or of a tuple (true) -/
def SeqIt : Bool → Heap → Addr → Addr → Nat → Prop
  | true, h, I, l, k => h.IsTupleIter I l k
  | false, h, I, l, k => h.IsListIter I l k
def SeqOb : Bool → Heap → Addr → Array Value → Prop
  | true, h, l, vs => h.IsTuple l vs
  | false, h, l, vs => h.IsList l vs
def SqX (K : PySem.W.Frag) : Bool → Hp → Addr → List V → Prop
  | true, H, a, xs => SqT K H a xs
  | false, H, a, xs => SqL K H a xs
theorem SeqIt.move {b : Bool} {h g : Heap} {I l : Addr} {k : Nat} (x : SeqIt b h I l k) (e : ∀ o, h.get? I = some o → g.get? I = some o) : SeqIt b g I l k := by
  cases b with
  | true => obtain ⟨o, ho, r⟩ := x; exact ⟨o, e _ ho, r⟩
  | false => obtain ⟨o, ho, r⟩ := x; exact ⟨o, e _ ho, r⟩
theorem SeqIt.there {b : Bool} {h : Heap} {I l : Addr} {k : Nat} (x : SeqIt b h I l k) : ∃ o, h.get? I = some o ∧ ∀ v, o.data ≠ .cell v := by
  cases b with
  | true => obtain ⟨o, ho, _, d⟩ := x; exact ⟨o, ho, fun v z => by rw [d] at z; cases z⟩
  | false => obtain ⟨o, ho, _, d⟩ := x; exact ⟨o, ho, fun v z => by rw [d] at z; cases z⟩
theorem SeqOb.move {b : Bool} {h g : Heap} {l : Addr} {vs : Array Value} (x : SeqOb b h l vs) (e : ∀ o, h.get? l = some o → g.get? l = some o) : SeqOb b g l vs := by
  cases b with
  | true => obtain ⟨o, ho, r⟩ := x; exact ⟨o, e _ ho, r⟩
  | false => obtain ⟨o, ho, r⟩ := x; exact ⟨o, e _ ho, r⟩
theorem nextOf_seq_item {b : Bool} {I l : Addr} {k : Nat} {vs : Array Value} {v : Value} {Q : Value → Shared → Prop} (hI : SeqIt b s.heap I l k) (hV : SeqOb b s.heap l vs) (hv : vs[k]? = some v)
    (q : ∀ g, SeqIt b g I l (k + 1) → Heap.SameBut I s.heap g → Q v { s with heap := g }) : wpAny (model prog w) A (Builtin.SmallTypes.nextOf (.ref I)) Q E s := by
  cases b with
  | true => exact nextOf_tuple_item hI hV hv q
  | false => exact wpAny_nextOf_list_item hI hV hv q
theorem nextOf_seq_end {b : Bool} {I l : Addr} {k : Nat} {vs : Array Value} {Q : Value → Shared → Prop} (hA : A.handled = none) (hI : SeqIt b s.heap I l k) (hV : SeqOb b s.heap l vs) (hv : vs[k]? = none)
    (q : ∀ g e, Heap.ExtBut I s.heap g → (∃ o, g.get? e = some o ∧ o.cls = .type "StopIteration") → E (.ref e) { s with heap := g }) : wpAny (model prog w) A (Builtin.SmallTypes.nextOf (.ref I)) Q E s := by
  cases b with
  | true => exact nextOf_tuple_end hA hI hV hv q
  | false => exact wpAny_nextOf_list_end hA hI hV hv q
theorem pyIter_seq {b : Bool} {l : Addr} {vs : Array Value} {Q : Value → Shared → Prop} (hV : SeqOb b s.heap l vs)
    (q : ∀ g, SeqIt b g s.heap.objs.size l 0 → g.objs.size = s.heap.objs.size + 1 → (∀ c o, s.heap.get? c = some o → g.get? c = some o) → Q (.ref s.heap.objs.size) { s with heap := g }) : wpAny (model prog w) A (pyIter (.ref l)) Q E s := by
  cases b with
  | true => exact wpAny_pyIter_tuple hV (q _ ⟨_, Heap.get?_push_size _ rfl, rfl, rfl⟩ (Heap.size_push ..) fun c o e => Heap.get?_push_of_some _ e)
  | false => exact wpAny_pyIter_list hV (q _ ⟨_, Heap.get?_push_size _ rfl, rfl, rfl⟩ (Heap.size_push ..) fun c o e => Heap.get?_push_of_some _ e)

/-! ### zip's own step -/
/-- its records stand apart from each other and from what is walked -/
structure Apart (z U O i j l m : Addr) : Prop where
  nd : [z, U, O, i, j].Nodup
  l : l ∉ [z, O, i, j]
  m : m ∉ [z, O, i, j]
theorem zip_step {b c : Bool} {z U O i j l m : Addr} {k : Nat} {xs ys : Array Value} {x y p q : Value} {Q : Value → Shared → Prop} (D : Apart z U O i j l m) (hZ : IsZip s.heap z U O .none) (hU : IsPair s.heap U (.ref i) (.ref j)) (hO : IsPair s.heap O p q)
    (hi : SeqIt b s.heap i l k) (hj : SeqIt c s.heap j m k) (hl : SeqOb b s.heap l xs) (hm : SeqOb c s.heap m ys) (hx : xs[k]? = some x) (hy : ys[k]? = some y)
    (fin : ∀ g, IsZip g z U O (rawInt s.heap.objs.size) → IsPair g O x y → SeqIt b g i l (k + 1) → SeqIt c g j m (k + 1) → IsPair g s.heap.objs.size x y → g.objs.size = s.heap.objs.size + 1 →
      (∀ a o, a ∉ [z, O, i, j] → s.heap.get? a = some o → g.get? a = some o) → Q (.ref s.heap.objs.size) { s with heap := g }) :
    wpAny (model prog w) A (Builtin.«zip.__next__» ⟨[.ref z], []⟩) (fun r s' => ∃ v, r = .done (.ret v) ∧ Q v s') E s := by
  obtain ⟨nd, nl, nm⟩ := D
  simp only [List.nodup_cons, List.mem_cons, List.not_mem_nil, or_false, not_or, List.nodup_nil, and_true, not_false_eq_true] at nd nl nm
  obtain ⟨⟨zU, zO, zi, zj⟩, ⟨UO, Ui, Uj⟩, ⟨Oi, Oj⟩, ij⟩ := nd
  obtain ⟨lz, lO, li, lj⟩ := nl
  obtain ⟨mz, mO, mi, mj⟩ := nm
  show wpAny _ _ (field (.ref z) 2 >>= _) _ _ _
  refine wpAny_bind (wpAny_field hZ rfl (x := .bool false) rfl ?_)
  show wpAny _ _ (field (.ref z) 3 >>= _) _ _ _
  refine wpAny_bind (wpAny_field hZ rfl (x := .ref U) rfl (wpAny_bind (wpAny_seqItems hU rfl ?_)))
  show wpAny _ _ (Builtin.SmallTypes.ownedTupleIsFree (.ref z) >>= _) _ _ _
  refine wpAny_bind ?_
  unfold Builtin.SmallTypes.ownedTupleIsFree
  refine wpAny_bind (wpAny_field hZ rfl (x := .none) rfl (wpAny_pure ?_))
  simp only [if_true]
  refine wpAny_bind (wpAny_rule (wpAny_bind (wpAny_field hZ rfl (x := .ref O) rfl (wpAny_bind (wpAny_setField_rec hZ (by simp) fun h1 hZ1 s1 => ?_)))))
  replace hZ1 : IsZip h1 z U O .ellipsis := hZ1
  refine wpAny_bind ?_
  simp only [List.zipIdx_cons, List.zipIdx_nil, List.forIn_cons, List.forIn_nil]
  refine wpAny_bind (wpAny_bind (wpAny_onRaise ?_))
  show wpAny _ _ (Builtin.SmallTypes.nextOf (.ref i) >>= _) _ _ _
  refine wpAny_bind (nextOf_seq_item (hi.move fun o e => s1.extBut _ _ (Ne.symm zi) e) (hl.move fun o e => s1.extBut _ _ lz e) hx fun h2 hi2 s2 => wpAny_pure ?_)
  have hO2 : IsPair h2 O p q := s2.extBut _ _ Oi (s1.extBut _ _ (Ne.symm zO) hO)
  refine wpAny_bind (wpAny_seqItems hO2 rfl (wpAny_bind (wpAny_updateSeq_pair hO2 fun h3 hO3 s3 => ?_)))
  replace hO3 : IsPair h3 O x q := hO3
  refine wpAny_bind (wpAny_letGo (wpAny_pure (wpAny_bind (wpAny_bind (wpAny_onRaise ?_)))))
  show wpAny _ _ (Builtin.SmallTypes.nextOf (.ref j) >>= _) _ _ _
  refine wpAny_bind (nextOf_seq_item (hj.move fun o e => s3.extBut _ _ (Ne.symm Oj) (s2.extBut _ _ (Ne.symm ij) (s1.extBut _ _ (Ne.symm zj) e))) (hm.move fun o e => s3.extBut _ _ mO (s2.extBut _ _ mi (s1.extBut _ _ mz e))) hy fun h4 hj4 s4 => wpAny_pure ?_)
  have hO4 : IsPair h4 O x q := s4.extBut _ _ Oj hO3
  refine wpAny_bind (wpAny_seqItems hO4 rfl (wpAny_bind (wpAny_updateSeq_pair hO4 fun h5 hO5 s5 => ?_)))
  replace hO5 : IsPair h5 O x y := hO5
  refine wpAny_bind (wpAny_letGo (wpAny_pure (wpAny_pure (wpAny_bind (wpAny_seqItems hO5 rfl (wpAny_bind (wpAny_newTuple ?_)))))))
  have sz : h5.objs.size = s.heap.objs.size := by rw [s5.1, s4.1, s3.1, s2.1, s1.1]
  have hZ5 : IsZip h5 z U O .ellipsis := s5.extBut _ _ zO (s4.extBut _ _ zj (s3.extBut _ _ zO (s2.extBut _ _ zi hZ1)))
  have kp : ∀ a o, a ∉ [z, O, i, j] → s.heap.get? a = some o → h5.get? a = some o := fun a o ha e => by
    simp only [List.mem_cons, List.not_mem_nil, or_false, not_or] at ha
    exact s5.extBut _ _ ha.2.1 (s4.extBut _ _ ha.2.2.2 (s3.extBut _ _ ha.2.1 (s2.extBut _ _ ha.2.2.1 (s1.extBut _ _ ha.1 e))))
  have hi5 : SeqIt b h5 i l (k + 1) := hi2.move fun o e => s5.extBut _ _ (Ne.symm Oi) (s4.extBut _ _ ij (s3.extBut _ _ (Ne.symm Oi) e))
  have hj5 : SeqIt c h5 j m (k + 1) := hj4.move fun o e => s5.extBut _ _ (Ne.symm Oj) e
  have zlt : z < h5.objs.size := Heap.lt_size hZ5
  show wpAny _ _ (Builtin.SmallTypes.ownedTupleHandOut (.ref z) (.ref h5.objs.size) >>= _) _ _ _
  refine wpAny_bind ?_
  unfold Builtin.SmallTypes.ownedTupleHandOut
  have hZ6 : IsZip (h5.push { cls := .type "tuple", data := .seq #[x, y] }) z U O .ellipsis := Heap.get?_push_of_some _ hZ5
  refine wpAny_bind (wpAny_setField_rec hZ6 (by simp) fun h7 hZ7 s7 => ?_)
  replace hZ7 : IsZip h7 z U O (rawInt h5.objs.size) := hZ7
  refine wpAny_setField_rec hZ7 (by simp) fun h8 hZ8 s8 => ?_
  replace hZ8 : IsZip h8 z U O (rawInt h5.objs.size) := hZ8
  have up : ∀ a o, a ≠ z → h5.get? a = some o → h8.get? a = some o := fun a o na e => s8.extBut _ _ na (s7.extBut _ _ na (Heap.get?_push_of_some _ e))
  have hT : IsPair h8 h5.objs.size x y := s8.extBut _ _ (Nat.ne_of_gt zlt) (s7.extBut _ _ (Nat.ne_of_gt zlt) (Heap.get?_push_size _ rfl))
  have sz8 : h8.objs.size = h5.objs.size + 1 := by rw [s8.1, s7.1, Heap.size_push]
  rw [sz] at hZ8 hT sz8
  refine wpAny_pure ⟨_, rfl, ?_⟩
  show Q (.ref h5.objs.size) _
  rw [sz]
  refine fin h8 hZ8 (up _ _ (Ne.symm zO) hO5) (hi5.move fun o e => up _ o (Ne.symm zi) e) (hj5.move fun o e => up _ o (Ne.symm zj) e) hT sz8 fun a o ha e => up a o ?_ (kp a o ha e)
  simp only [List.mem_cons, List.not_mem_nil, or_false, not_or] at ha
  exact ha.1
theorem zip_stop {b c : Bool} {z U O i j l m : Addr} {k : Nat} {xs ys : Array Value} {p q : Value} {Q : Fin → Shared → Prop} (hA : A.handled = none) (D : Apart z U O i j l m) (hZ : IsZip s.heap z U O .none) (hU : IsPair s.heap U (.ref i) (.ref j)) (hO : IsPair s.heap O p q)
    (hi : SeqIt b s.heap i l k) (hj : SeqIt c s.heap j m k) (hl : SeqOb b s.heap l xs) (hm : SeqOb c s.heap m ys) (hend : xs[k]? = none ∨ ys[k]? = none)
    (fin : ∀ g e, (∀ a o, a ∉ [z, O, i, j] → s.heap.get? a = some o → g.get? a = some o) → (∃ o, g.get? e = some o ∧ o.cls = .type "StopIteration") → E (.ref e) { s with heap := g }) :
    wpAny (model prog w) A (Builtin.«zip.__next__» ⟨[.ref z], []⟩) Q E s := by
  obtain ⟨nd, nl, nm⟩ := D
  simp only [List.nodup_cons, List.mem_cons, List.not_mem_nil, or_false, not_or, List.nodup_nil, and_true, not_false_eq_true] at nd nl nm
  obtain ⟨⟨zU, zO, zi, zj⟩, ⟨UO, Ui, Uj⟩, ⟨Oi, Oj⟩, ij⟩ := nd
  obtain ⟨lz, lO, li, lj⟩ := nl
  obtain ⟨mz, mO, mi, mj⟩ := nm
  show wpAny _ _ (field (.ref z) 2 >>= _) _ _ _
  refine wpAny_bind (wpAny_field hZ rfl (x := .bool false) rfl ?_)
  show wpAny _ _ (field (.ref z) 3 >>= _) _ _ _
  refine wpAny_bind (wpAny_field hZ rfl (x := .ref U) rfl (wpAny_bind (wpAny_seqItems hU rfl ?_)))
  show wpAny _ _ (Builtin.SmallTypes.ownedTupleIsFree (.ref z) >>= _) _ _ _
  refine wpAny_bind ?_
  unfold Builtin.SmallTypes.ownedTupleIsFree
  refine wpAny_bind (wpAny_field hZ rfl (x := .none) rfl (wpAny_pure ?_))
  simp only [if_true]
  refine wpAny_bind (wpAny_rule (wpAny_bind (wpAny_field hZ rfl (x := .ref O) rfl (wpAny_bind (wpAny_setField_rec hZ (by simp) fun h1 hZ1 s1 => ?_)))))
  replace hZ1 : IsZip h1 z U O .ellipsis := hZ1
  refine wpAny_bind ?_
  simp only [List.zipIdx_cons, List.zipIdx_nil, List.forIn_cons, List.forIn_nil]
  refine wpAny_bind (wpAny_bind (wpAny_onRaise ?_))
  show wpAny _ _ (Builtin.SmallTypes.nextOf (.ref i) >>= _) _ _ _
  have out : ∀ {a : Addr}, a ∉ [z, O, i, j] → a ≠ z ∧ a ≠ O ∧ a ≠ i ∧ a ≠ j := fun ha => by simpa only [List.mem_cons, List.not_mem_nil, or_false, not_or] using ha
  cases hx : xs[k]? with
  | none =>
    refine wpAny_bind (nextOf_seq_end hA (hi.move fun o e => s1.extBut _ _ (Ne.symm zi) e) (hl.move fun o e => s1.extBut _ _ lz e) hx fun h2 e s2 he => ?_)
    obtain ⟨oe, hoe, hce⟩ := he
    have hZ2 : IsZip h2 z U O .ellipsis := s2 _ _ zi hZ1
    have ez : e ≠ z := fun t => by subst t; rw [hZ2] at hoe; cases hoe; simp at hce
    exact wpAny_setField_rec hZ2 (by simp) fun h3 _ s3 => fin h3 e (fun a o ha t => s3.extBut _ _ (out ha).1 (s2 _ _ (out ha).2.2.1 (s1.extBut _ _ (out ha).1 t))) ⟨oe, s3.extBut _ _ ez hoe, hce⟩
  | some x =>
    have hy : ys[k]? = none := by
      rcases hend with t | t
      · rw [hx] at t; cases t
      · exact t
    refine wpAny_bind (nextOf_seq_item (hi.move fun o e => s1.extBut _ _ (Ne.symm zi) e) (hl.move fun o e => s1.extBut _ _ lz e) hx fun h2 hi2 s2 => wpAny_pure ?_)
    have hO2 : IsPair h2 O p q := s2.extBut _ _ Oi (s1.extBut _ _ (Ne.symm zO) hO)
    refine wpAny_bind (wpAny_seqItems hO2 rfl (wpAny_bind (wpAny_updateSeq_pair hO2 fun h3 hO3 s3 => ?_)))
    refine wpAny_bind (wpAny_letGo (wpAny_pure (wpAny_bind (wpAny_bind (wpAny_onRaise ?_)))))
    show wpAny _ _ (Builtin.SmallTypes.nextOf (.ref j) >>= _) _ _ _
    refine wpAny_bind (nextOf_seq_end hA (hj.move fun o e => s3.extBut _ _ (Ne.symm Oj) (s2.extBut _ _ (Ne.symm ij) (s1.extBut _ _ (Ne.symm zj) e))) (hm.move fun o e => s3.extBut _ _ mO (s2.extBut _ _ mi (s1.extBut _ _ mz e))) hy fun h4 e s4 he => ?_)
    obtain ⟨oe, hoe, hce⟩ := he
    have hZ4 : IsZip h4 z U O .ellipsis := s4 _ _ zj (s3.extBut _ _ zO (s2.extBut _ _ zi hZ1))
    have ez : e ≠ z := fun t => by subst t; rw [hZ4] at hoe; cases hoe; simp at hce
    exact wpAny_setField_rec hZ4 (by simp) fun h5 _ s5 => fin h5 e (fun a o ha t => s5.extBut _ _ (out ha).1 (s4 _ _ (out ha).2.2.2 (s3.extBut _ _ (out ha).2.1 (s2.extBut _ _ (out ha).2.2.1 (s1.extBut _ _ (out ha).1 t))))) ⟨oe, s5.extBut _ _ ez hoe, hce⟩
theorem zip_laid (g2 : Heap) (n : Nat) (e2 : g2.objs.size = n + 2) (i j : Value) : ∃ g5, g5 = ((g2.push { cls := .type "tuple", data := .seq #[i, j] }).push { cls := .type "tuple", data := .seq #[.none, .none] }).push
      { cls := .type "zip", data := .fields #[.none, .bool false, .bool false, .ref g2.objs.size, .ref (g2.push { cls := .type "tuple", data := .seq #[i, j] }).objs.size] } ∧
    IsZip g5 (n + 4) (n + 2) (n + 3) .none ∧ IsPair g5 (n + 2) i j ∧ IsPair g5 (n + 3) .none .none ∧ (∀ a o, g2.get? a = some o → g5.get? a = some o) ∧
    ((g2.push { cls := .type "tuple", data := .seq #[i, j] }).push { cls := .type "tuple", data := .seq #[.none, .none] }).objs.size = n + 4 := by
  have e3 : (g2.push { cls := .type "tuple", data := .seq #[i, j] }).objs.size = n + 3 := by rw [Heap.size_push, e2]
  have e4 : ((g2.push { cls := .type "tuple", data := .seq #[i, j] }).push { cls := .type "tuple", data := .seq #[.none, .none] }).objs.size = n + 4 := by rw [Heap.size_push, e3]
  refine ⟨_, rfl, ?_, ?_, ?_, fun a o e => Heap.get?_push_of_some _ (Heap.get?_push_of_some _ (Heap.get?_push_of_some _ e)), e4⟩
  · have q := Heap.get?_push_size ((g2.push { cls := .type "tuple", data := .seq #[i, j] }).push { cls := .type "tuple", data := .seq #[.none, .none] }) (o := { cls := .type "zip", data := .fields #[.none, .bool false, .bool false, .ref g2.objs.size, .ref (g2.push { cls := .type "tuple", data := .seq #[i, j] }).objs.size] }) rfl
    rw [e4] at q
    show _ = some _
    rw [q, e2, e3]
  · have q := Heap.get?_push_of_some { cls := .type "zip", data := .fields #[.none, .bool false, .bool false, .ref g2.objs.size, .ref (g2.push { cls := .type "tuple", data := .seq #[i, j] }).objs.size] } (Heap.get?_push_of_some { cls := .type "tuple", data := .seq #[.none, .none] } (Heap.get?_push_size g2 (o := { cls := .type "tuple", data := .seq #[i, j] }) rfl))
    rw [← e2]
    exact q
  · have q := Heap.get?_push_of_some { cls := .type "zip", data := .fields #[.none, .bool false, .bool false, .ref g2.objs.size, .ref (g2.push { cls := .type "tuple", data := .seq #[i, j] }).objs.size] } (Heap.get?_push_size (g2.push { cls := .type "tuple", data := .seq #[i, j] }) (o := { cls := .type "tuple", data := .seq #[.none, .none] }) rfl)
    rw [← e3]
    exact q
/-- what zip makes of two of them -/
theorem meets_zip {b c : Bool} (l m : Addr) (xs ys : Array Value) : Meets (Builtin.«zip.__new__» ⟨[.type "zip", .ref l, .ref m], []⟩) (fun _ R s => SeqOb b s.heap l xs ∧ SeqOb c s.heap m ys ∧
      ∀ g, IsZip g (s.heap.objs.size + 4) (s.heap.objs.size + 2) (s.heap.objs.size + 3) .none → IsPair g (s.heap.objs.size + 2) (.ref s.heap.objs.size) (.ref (s.heap.objs.size + 1)) → IsPair g (s.heap.objs.size + 3) .none .none →
        SeqIt b g s.heap.objs.size l 0 → SeqIt c g (s.heap.objs.size + 1) m 0 → (∀ a o, s.heap.get? a = some o → g.get? a = some o) → R (.ok (.ret (.ref (s.heap.objs.size + 4)))) { s with heap := g }) :=
  .of_wp fun prog w A R s h => by
    obtain ⟨hp, g, d, tk, os⟩ := s
    obtain ⟨hl, hm, h⟩ := h
    have hsub := sub_zip
    wp_walk using pyIter_seq hl
    intro g1 i1 z1 k1
    have hm1 : SeqOb c (Shared.heap ⟨g1, g, d, tk, os⟩) m ys := hm.move fun o e => k1 _ o e
    wp_walk using pyIter_seq hm1
    intro g2 i2 z2 k2
    wp_walk
    refine ⟨_, rfl, ?_⟩
    have e1 : g1.objs.size = hp.objs.size + 1 := z1
    have e2 : g2.objs.size = hp.objs.size + 2 := by rw [show g2.objs.size = g1.objs.size + 1 from z2, e1]
    obtain ⟨g5, e5, a1, a2, a3, k5, s5⟩ := zip_laid g2 hp.objs.size e2 (.ref hp.objs.size) (.ref g1.objs.size)
    have a2' : IsPair g5 (hp.objs.size + 2) (.ref hp.objs.size) (.ref (hp.objs.size + 1)) := by rw [← e1]; exact a2
    have i2' : SeqIt c g2 (hp.objs.size + 1) m 0 := by rw [← e1]; exact i2
    have key := h g5 a1 a2' a3 ((i1.move fun o e => k2 _ o e).move fun o e => k5 _ o e) (i2'.move fun o e => k5 _ o e) fun a o e => k5 _ _ (k2 _ _ (k1 _ _ e))
    dsimp only at key
    rw [e5, ← s5] at key
    exact key
/-! ### several untracked records have turned -/
theorem Inv.turnedL {X : Cx} {pins : List (Addr × Obj)} {σ : St} {H : Hp} {s : Shared} {g : Heap} {tk : Nat} {ch : List Addr} (I : Inv X pins σ H s) (k : ∀ b o, b ∉ ch → s.heap.get? b = some o → g.get? b = some o) (hch : ∀ b ∈ ch, FpOk X pins H b) : Inv X pins σ H { s with heap := g, toks := tk } := by
  have nch : ∀ b u, H b = some u → b ∉ ch := fun b u e z => by rw [(hch b z).1] at e; cases e
  refine I.step (g' := s.gens) (d' := s.drawn) (ch := ch) (fun b hb => ⟨(hch b hb).2.2.2.1, (hch b hb).2.1, (hch b hb).2.2.2.2.1, (hch b hb).2.2.2.2.2⟩) (fun b o _ _ hc e _ => k b o hc e) (fun b o _ _ hc e _ => ⟨o.slots, k b o hc e⟩) (fun _ _ _ _ n => n)
    (fun b o hc e => ⟨o, k b o hc e⟩) (fun _ _ e => e) (fun _ _ _ e => e) (fun b ps e => ⟨#[], by rw [e]; simp⟩) (fun m hm => ?_) (fun b u e => ?_) I.bare
  · obtain ⟨o, es, ep, ho, r⟩ := hm
    exact ⟨o, es, ep, k _ o (fun z => (hch _ z).2.1 rfl) ho, r⟩
  · refine (I.hok b u e).stay (fun c v hc q => k c v ?_ q) (fun _ q => q) fun _ _ q => q
    rcases hc with z | z
    · rw [z]; exact nch b u e
    · exact nch c _ z
/-- .. and a new tuple of two lies at T -/
theorem Inv.pair {X : Cx} {pins : List (Addr × Obj)} {σ : St} {H : Hp} {s : Shared} {g : Heap} {tk n : Nat} {ch : List Addr} {x y : V} {u v : Value} (I : Inv X pins σ H s) (k : ∀ b o, b ∉ ch → s.heap.get? b = some o → g.get? b = some o) (hch : ∀ b ∈ ch, FpOk X pins H b)
    (rx : RelV x u) (ry : RelV y v) (e : g.get? s.heap.objs.size = some { cls := .type "tuple", data := .seq #[u, v] n }) : H s.heap.objs.size = none ∧ Inv X pins σ (upd H s.heap.objs.size (.tup [x, y])) { s with heap := g, toks := tk } := by
  have f := I.fpOk (Nat.le_refl _) I.fresh
  refine ⟨f.1, (I.turnedL (tk := tk) k hch).track f.1 (Heap.get?_none_of_le I.sz) (Heap.get?_none_of_le (Nat.le_trans I.ok.bsz I.sz)) (Ne.symm f.2.1) f.2.2.2.2.1 f.2.2.2.2.2 (fun b hb z => f.2.2.1 (z ▸ hb)) ?_⟩
  exact ⟨by show 2 ≤ sizeLine; decide, [u, v], .cons rx (.cons ry .nil), _, e, rfl, n, rfl⟩
theorem Inv.sq {X : Cx} {pins : List (Addr × Obj)} {σ : St} {H : Hp} {s : Shared} {b : Bool} {a : Addr} {xs : List V} (I : Inv X pins σ H s) (h : SqX X.K b H a xs) : ∃ its : List Value, Vals xs its ∧ SeqOb b s.heap a its.toArray := by
  cases b with
  | true =>
    obtain ⟨its, r, p, _⟩ := I.tuple h
    exact ⟨its, r, p⟩
  | false =>
    obtain ⟨its, r, p, _⟩ := I.list h
    exact ⟨its, r, p.isList⟩
theorem Inv.sq_inj {X : Cx} {pins : List (Addr × Obj)} {σ : St} {H : Hp} {s : Shared} {b : Bool} {a : Addr} {xs ys : List V} (I : Inv X pins σ H s) (h : SqX X.K b H a xs) (h' : SqX X.K b H a ys) : xs = ys := by
  cases b with
  | true => exact I.tuple_inj h h'
  | false => exact I.list_inj h h'

/-! ### zip, walked -/
def Itz (K : PySem.W.Frag) (b c : Bool) (l m : Addr) : It :=
  ⟨fun i H => ∃ xs ys x y, SqX K b H l xs ∧ SqX K c H m ys ∧ xs[i]? = some x ∧ ys[i]? = some y,
    fun i H v H' => ∃ (T : Addr) (x y : V), v = .ref T ∧ H T = none ∧ H' = upd H T (.tup [x, y]) ∧ (∀ xs, SqX K b H l xs → xs[i]? = some x) ∧ ∀ ys, SqX K c H m ys → ys[i]? = some y,
    fun i H => ∃ xs ys, SqX K b H l xs ∧ SqX K c H m ys ∧ (xs.length ≤ i ∨ ys.length ≤ i)⟩
def ZipTn (b c : Bool) (z U O i j l m : Addr) (k : Nat) (h : Heap) : Prop := IsZip h z U O .none ∧ IsPair h U (.ref i) (.ref j) ∧ (∃ p q, IsPair h O p q) ∧ SeqIt b h i l k ∧ SeqIt c h j m k
theorem turn_zip {P : Program} {w : World} {K : PySem.W.Frag} {es : List Expr} {n : Nat} {tpos : Pos} {b c : Bool} {z U O i j l m : Addr} (D : Apart z U O i j l m) : Turn P w K (.Tuple es n tpos) (Itz K b c l m) [z, U, O, i, j] z (ZipTn b c z U O i j l m) where
  mem := by simp
  obj := fun k h st a ha => by
    obtain ⟨hZ, hU, ⟨p, q, hO⟩, hi, hj⟩ := st
    simp only [List.mem_cons, List.not_mem_nil, or_false] at ha
    rcases ha with rfl | rfl | rfl | rfl | rfl
    · exact ⟨_, hZ, fun v t => by cases t⟩
    · exact ⟨_, hU, fun v t => by cases t⟩
    · exact ⟨_, hO, fun v t => by cases t⟩
    · exact hi.there
    · exact hj.there
  keep := fun k h h' st kp => by
    obtain ⟨hZ, hU, ⟨p, q, hO⟩, hi, hj⟩ := st
    exact ⟨kp z (by simp) _ hZ, kp U (by simp) _ hU, ⟨p, q, kp O (by simp) _ hO⟩, hi.move fun o e => kp i (by simp) o e, hj.move fun o e => kp j (by simp) o e⟩
  item := by
    intro X hP hw hK hc k pins s σ H E I hf st hg
    subst hP hw hK
    obtain ⟨hZ, hU, ⟨p, q, hO⟩, hi, hj⟩ := st
    obtain ⟨xs, ys, x, y, sx, sy, hx, hy⟩ := hg
    obtain ⟨us, ru, ou⟩ := I.sq sx
    obtain ⟨vs, rv, ov⟩ := I.sq sy
    obtain ⟨u, hu, rxu⟩ := ru.get hx
    obtain ⟨v, hv, ryv⟩ := rv.get hy
    have hT : s.TypeIs (.ref z) "zip" := ⟨_, hZ, rfl⟩
    unfold pyNext
    refine wpAny_bind (wpAny_attempt (wpAny_callSpecial?_slot (name := Str.ofString "__next__") hT F.slot_zip_next (wpAny_call_entry F.slot_zip_next hT F.entry_zip_next (zip_step D hZ hU hO hi hj ou ov (by simpa using hu) (by simpa using hv) fun g gZ gO gi gj gT gs gk => wpAny_pure ⟨_, rfl, ?_⟩) (F.args_zip_next_1 _))))
    refine wpAny_letOwnedTupleGo_zip (s := { s with heap := g }) gZ fun g2 gZ2 sb => ?_
    obtain ⟨nd, nl, nm⟩ := D
    simp only [List.nodup_cons, List.mem_cons, List.not_mem_nil, or_false, not_or, List.nodup_nil, and_true, not_false_eq_true] at nd
    obtain ⟨⟨zU, zO, zi, zj⟩, ⟨UO, Ui, Uj⟩, ⟨Oi, Oj⟩, ij⟩ := nd
    have zlt : z < s.heap.objs.size := Heap.lt_size hZ
    have kk : ∀ a o, a ∉ [z, O, i, j] → s.heap.get? a = some o → g2.get? a = some o := fun a o ha e => (sb.2 a (fun t => ha (by simp [t]))).trans (gk a o ha e)
    have fch : ∀ a ∈ [z, O, i, j], FpOk X pins H a := fun a ha => hf a (by
      simp only [List.mem_cons, List.not_mem_nil, or_false] at ha ⊢
      rcases ha with t | t | t | t <;> simp [t])
    obtain ⟨nT, J⟩ := I.pair (tk := s.toks) kk fch rxu ryv ((sb.2 _ (Nat.ne_of_gt zlt)).trans gT)
    refine ⟨.ref s.heap.objs.size, _, J, rfl, ⟨_, x, y, rfl, nT, rfl, fun xs' q' => by rw [I.sq_inj q' sx]; exact hx, fun ys' q' => by rw [I.sq_inj q' sy]; exact hy⟩, ⟨gZ2, kk U _ ?_ hU, ⟨u, v, (sb.2 O (Ne.symm zO)).trans gO⟩, gi.move fun o e => (sb.2 i (Ne.symm zi)).trans e, gj.move fun o e => (sb.2 j (Ne.symm zj)).trans e⟩, fun a ha => ?_⟩
    · simp only [List.mem_cons, List.not_mem_nil, or_false, not_or]
      exact ⟨Ne.symm zU, UO, Ui, Uj⟩
    · have e := (hf a ha).1
      have lt : a ≠ s.heap.objs.size := by
        simp only [List.mem_cons, List.not_mem_nil, or_false] at ha
        rcases ha with t | t | t | t | t <;> subst t
        · exact Nat.ne_of_lt zlt
        · exact Nat.ne_of_lt (Heap.lt_size hU)
        · exact Nat.ne_of_lt (Heap.lt_size hO)
        · obtain ⟨o, e, _⟩ := hi.there; exact Nat.ne_of_lt (Heap.lt_size e)
        · obtain ⟨o, e, _⟩ := hj.there; exact Nat.ne_of_lt (Heap.lt_size e)
      rw [upd_ne lt]
      exact e
  done := by
    intro X hP hw hK hc k pins s σ H E I hf st hg
    subst hP hw hK
    obtain ⟨hZ, hU, ⟨p, q, hO⟩, hi, hj⟩ := st
    obtain ⟨xs, ys, sx, sy, hend⟩ := hg
    obtain ⟨us, ru, ou⟩ := I.sq sx
    obtain ⟨vs, rv, ov⟩ := I.sq sy
    have lu := ru.length
    have lv := rv.length
    have hT : s.TypeIs (.ref z) "zip" := ⟨_, hZ, rfl⟩
    have he : us.toArray[k]? = none ∨ vs.toArray[k]? = none := hend.imp (fun t => by simp; lia) (fun t => by simp; lia)
    unfold pyNext
    refine wpAny_bind (wpAny_attempt (wpAny_callSpecial?_slot (name := Str.ofString "__next__") hT F.slot_zip_next (wpAny_call_entry F.slot_zip_next hT F.entry_zip_next (zip_stop (I.ok.hd hc) D hZ hU hO hi hj ou ov he fun g e gk ge => ?_) (F.args_zip_next_1 _))))
    obtain ⟨o, ho, hcl⟩ := ge
    refine wpAny_bind (wpAny_isInstance (T := "StopIteration") (b := true) ⟨o, ho, hcl⟩ isSubtype_stop (wpAny_pure ⟨rfl, ?_⟩))
    exact I.turnedL (tk := s.toks) gk fun a ha => hf a (by
      simp only [List.mem_cons, List.not_mem_nil, or_false] at ha ⊢
      rcases ha with t | t | t | t <;> simp [t])
  self := fun _ _ _ _ _ st h => wpAny_pyIter_zip st.1 h
end
end L2

set_option Elab.async false
set_option linter.all false
set_option maxRecDepth 100000
namespace L2
open PySem PySem.Spec PyProof.Rows
/-! ### enumerate, walked -/
section
variable {X : Cx} {es : List Expr} {n : Nat} {tpos p pos : Pos} {e1 e2 : Expr} {t : TA}
def iZip (b c : Bool) (K : PySem.W.Frag) (t : TA) : TI := fun σ H R => t σ H fun vs H1 => ∃ (l m : Addr), vs = [.ref l, .ref m] ∧ (∃ xs, SqX K b H1 l xs) ∧ (∃ ys, SqX K c H1 m ys) ∧ R (Itz K b c l m) H1
theorem SeqOb.lt {b : Bool} {h : Heap} {l : Addr} {vs : Array Value} (x : SeqOb b h l vs) : l < h.objs.size := by
  cases b with
  | true => obtain ⟨o, e, _⟩ := x; exact Heap.lt_size e
  | false => obtain ⟨o, e, _⟩ := x; exact Heap.lt_size e
theorem apart5 (n l m : Nat) (hl : l < n) (hm : m < n) : Apart (n + 4) (n + 2) (n + 3) n (n + 1) l m := by
  refine ⟨(show ([n + 4, n + 2, n + 3, n, n + 1] : List Nat).Nodup from ?_), (show l ∉ ([n + 4, n + 3, n, n + 1] : List Nat) from ?_), (show m ∉ ([n + 4, n + 3, n, n + 1] : List Nat) from ?_)⟩
  · simp only [List.nodup_cons, List.mem_cons, List.not_mem_nil, or_false, not_or, List.nodup_nil, and_true, not_false_eq_true]
    lia
  · simp only [List.mem_cons, List.not_mem_nil, or_false, not_or]
    lia
  · simp only [List.mem_cons, List.not_mem_nil, or_false, not_or]
    lia
theorem pi_zip (b c : Bool) (hg : Gl X "zip") (hm : X.mg "zip" = none) (ha : PA X [e1, e2] t) (hs : starEach [e1, e2] X.env = [(false, eval e1 X.env), (false, eval e2 X.env)] := by rfl) (hs2 : starEach [e2] X.env = [(false, eval e2 X.env)] := by rfl) :
    PI X (.Tuple es n tpos) (.Call (.Name "zip" p) [e1, e2] [] pos) (iZip b c X.K t) := by
  intro pins s σ H R I h
  refine Call_ (ld_blt I hg hm PyProof.Rows.boot_zip (PyProof.Rows.callWith_type1 (thn (ha pos pins s σ H _ I h) fun us s1 ⟨vs, H1, I1, r1, q1⟩ => ?_) (by rw [hs, hs2]) (by rw [hs2]; rfl)))
  obtain ⟨l, m, rfl, ⟨xs, sx⟩, ⟨ys, sy⟩, q⟩ := q1
  obtain ⟨u, v, rfl, ru, rv⟩ := r1.two
  cases (show u = Value.ref l from ru)
  cases (show v = Value.ref m from rv)
  obtain ⟨ul, _, ol⟩ := I1.sq sx
  obtain ⟨um, _, om⟩ := I1.sq sy
  refine callType_new F.called_zip (by decide) (F.typeCall_zip_2 _ _) (F.newCall_zip_2 _ _) (fun obj => F.args_object_init_3 obj _ _) F.entry_zip_new (meets_zip (b := b) (c := c) l m ul.toArray um.toArray) ⟨ol, om, fun g gZ gU gO gi gj gk => ?_⟩
  refine ⟨⟨_, gZ, rfl⟩, wpAny_pyIter_zip (s := { s1 with heap := g }) gZ ?_⟩
  have ll := ol.lt
  have lm := om.lt
  have hA := apart5 s1.heap.objs.size l m ll lm
  refine ⟨s1.heap.objs.size + 4, _, _, _, H1, rfl, I1.kept (t' := s1.toks) gk, turn_zip hA, ⟨gZ, gU, ⟨_, _, gO⟩, gi, gj⟩, fun a ha => ?_, q⟩
  have le : s1.heap.objs.size ≤ a := by
    simp only [List.mem_cons, List.not_mem_nil, or_false] at ha
    rcases ha with t | t | t | t | t <;> rw [t] <;> first | exact Nat.le_refl _ | exact Nat.le_add_right _ _
  exact I1.fpOk le (I1.hok.fresh le)
end
/-! ### the forms one uses -/
section
variable {K : PySem.W.Frag} {b c : Bool} {l m : Addr} {xs ys : List V} {σ : St} {H : Hp}
theorem gpair {K : PySem.W.Frag} {i j : Nat} {T : Addr} {x y : V} {σ : St} {H : Hp} {Q : St → Hp → Prop} (h : H T = some (.tup [x, y])) (q : Q ((σ.set i (some x)).set j (some y)) H) : gTup K 2 (gCons (gName i) (gCons (gName j) gNil)) (.ref T) σ H Q :=
  ⟨T, _, rfl, SqT.of h, rfl, x, _, rfl, y, _, rfl, rfl, q⟩
theorem for_zip {g : TG} {tb : TS} {D : Ends} (Pv : Nat → St → Hp → Prop) (h0 : Pv 0 σ H) (hl : ∀ i σ H, Pv i σ H → SqX K b H l xs ∧ SqX K c H m ys)
    (hs : ∀ i x y σ H T, xs[i]? = some x → ys[i]? = some y → Pv i σ H → H T = none → g (.ref T) σ (upd H T (.tup [x, y])) fun σ2 H2 => tb { D with nx := Pv (i + 1), ct := Pv (i + 1), bk := D.nx } σ2 H2) (hd : ∀ σ H, Pv (min xs.length ys.length) σ H → D.nx σ H) :
    ∃ W : Nat → Nat → St → Hp → Prop, (∃ m, W 0 m σ H) ∧ ∀ i n σ H, W i n σ H →
      ((Itz K b c l m).stop i H ∧ D.nx σ H) ∨ ((Itz K b c l m).go i H ∧ ∃ N : St → Hp → Prop, (∀ σ' H', N σ' H' → ∃ m', m' < n ∧ W (i + 1) m' σ' H') ∧ ∀ x H', (Itz K b c l m).yld i H x H' → g x σ H' fun σ2 H2 => tb { D with nx := N, ct := N, bk := D.nx } σ2 H2) := by
  refine ⟨fun i n σ H => n = min xs.length ys.length - i ∧ i ≤ min xs.length ys.length ∧ Pv i σ H, ⟨min xs.length ys.length, by simp, Nat.zero_le _, h0⟩, ?_⟩
  rintro i n σ H ⟨rfl, hi, p⟩
  obtain ⟨qx, qy⟩ := hl i σ H p
  by_cases hlt : i < min xs.length ys.length
  · have lx : i < xs.length := by lia
    have ly : i < ys.length := by lia
    refine .inr ⟨⟨xs, ys, xs[i], ys[i], qx, qy, by simp [lx], by simp [ly]⟩, Pv (i + 1), fun σ' H' p' => ⟨min xs.length ys.length - (i + 1), by lia, rfl, hlt, p'⟩, fun x H' y => ?_⟩
    obtain ⟨T, z, z', rfl, nT, rfl, hz, hz'⟩ := y
    exact hs i z z' σ _ T (hz xs qx) (hz' ys qy) p nT
  · have e : i = min xs.length ys.length := by lia
    subst e
    exact .inl ⟨⟨xs, ys, qx, qy, by lia⟩, hd σ H p⟩
variable {k : Nat} {cs : List Nat} {g : TG} {tc : TT} {te : TE} {fin : List V → Hp → Prop}
end
end L2

set_option Elab.async false
set_option linter.all false
set_option maxRecDepth 100000
namespace L2
open PySem PySem.Spec PyProof.Rows
/-! ### an expression by either of two readings -/
theorem rm {a b : Nat} {A : Around} (h : Room b A) (hle : a ≤ b := by first | decide | lia) : Room a A := h.mono hle

/-! ### what is called, in short -/
structure Cal (P : Program) (w : World) (K : PySem.W.Frag) (mg : Str → Option Value) (base : Heap) (CX : CXT) (k : Nat) (x : Str) (ps : List Str) (sp : Sp) : Prop where
  ex : ∃ (f : Addr) (fd : FuncData), FnOk P w K mg base CX k f fd ps sp ∧ mg x = some (.ref f) ∧ PySem.W.keepIn K (.ref f) = true ∧ Binds K fd ps []
structure CalM (P : Program) (w : World) (K : PySem.W.Frag) (mg : Str → Option Value) (base : Heap) (CX : CXT) (k : Nat) (C : Addr) (m : Str) (ps : List Str) (sp : Sp) : Prop where
  ex : ∃ (f : Addr) (fd : FuncData), FnOk P w K mg base CX k f fd ps sp ∧ Meth K C m f ∧ Binds K fd ps []
  cl : Cls K C
structure CalC (P : Program) (w : World) (K : PySem.W.Frag) (mg : Str → Option Value) (base : Heap) (CX : CXT) (k : Nat) (x : Str) (C : Addr) (ps : List Str) (sp : Sp) : Prop where
  ex : ∃ (f : Addr) (fd : FuncData), FnOk P w K mg base CX k f fd ps sp ∧ Mk K C f ∧ mg x = some (.ref C) ∧ Binds K fd ps []
section
variable {X : Cx} {CX : CXT} {k : Nat} {C : Addr} {ps : List Str} {sp : Sp} {E : XK} {x m : Str} {p pos apos : Pos} {e o : Expr} {es : List Expr} {ta : TE} {t : TA}
theorem pe_cal (c : Cal X.prog X.w X.K X.mg X.base CX k x ps sp) (hr : Room k X.A) (hg : Gl X x) (hx : Passes CX X E) (ha : PA X (e :: es) t) (hdb : (x == ("__debug__" : Str)) = false := by decide)
    (he : starEach (e :: es) X.env = (false, eval e X.env) :: starEach es X.env := by rfl) (hpl : (backTo pos (starEach es X.env)).any (·.1) = false := by rfl) : PE X (.Call (.Name x p) (e :: es) [] pos) (tCall sp [] E t) := by
  obtain ⟨f, fd, F, hm, hk, hb⟩ := c.ex
  exact pe_call F hr hg hm hk hb .nil hx ha hdb he hpl
theorem pe_calm {pl : Sem Bool} (he : PE X o ta) (c : CalM X.prog X.w X.K X.mg X.base CX k C m ps sp) (hr : Room k X.A) (hx : Passes CX X E) (ha : PA X (e :: es) t)
    (hst : starEach (e :: es) X.env = (false, eval e X.env) :: starEach es X.env := by rfl) (hpl : (backTo pos (starEach es X.env)).any (·.1) = false := by rfl)
    (ht : eval (.Call (.Attribute o m apos) (e :: es) [] pos) X.env = (do
      let ov ← eval o X.env; standAt apos.atName
      let (f, first) ← holding [ov] (getMethod ov m pl); callWith pos f first (backTo pos (starEach (e :: es) X.env)) (backToKw pos (keywordEach [] X.env))) := by rfl) : PE X (.Call (.Attribute o m apos) (e :: es) [] pos) (tMeth C m sp [] E ta t) := by
  obtain ⟨f, fd, F, hm, hb⟩ := c.ex
  exact pe_meth he c.cl hm F hr hb .nil hx ha hst hpl ht
theorem pe_calC0 (c : CalC X.prog X.w X.K X.mg X.base CX k x C ps sp) (hr : Room (k + 1) X.A) (hg : Gl X x) (hx : Passes CX X E) (hdb : (x == ("__debug__" : Str)) = false := by decide) : PE X (.Call (.Name x p) [] [] pos) (tMake C sp [] E tNil) := by
  obtain ⟨f, fd, F, M, hm, hb⟩ := c.ex
  exact pe_make0 M F hr hg hm hb .nil hx hdb
theorem pe_gint {i : Int} (hg : Gl X x) (hm : ∃ tk, X.mg x = some (.int i tk)) (hd : (x == ("__debug__" : Str)) = false := by decide) : PE X (.Name x pos) (tC (.int i)) := by
  obtain ⟨tk, hm⟩ := hm
  exact pe_glob hg hm ⟨tk, rfl⟩ hd
end
/-! ### a block's scope, by one look -/
def cOk (So : Scope) (No : List Str) (scope : Scope) (N : List Str) (k : Nat) (cs : List Nat) : Bool :=
  scope.names.all (fun y => y.2 != .cell) && (scope.kind == .function && (scope.names.all (fun y => y.2 != .local || scope.names.lookup y.1 == some .local) && (scope.names.all (fun y => y.2 != .free || (So.names.lookup y.1 == some .cell || So.names.lookup y.1 == some .free)) &&
    (N.length == k + cs.length && (List.range cs.length).all fun j => match N[k + j]?, No[cs.getD j 0]? with
      | some x, some y => x == y && scope.names.lookup x == some .free
      | _, _ => false))))
theorem CScope.of {X : Cx} {So : Scope} {No : List Str} {scope : Scope} {N : List Str} {k : Nat} {cs : List Nat} (hS : X.env.scope = So) (hN : X.N = No) (h : cOk So No scope N k cs = true) : CScope X scope N k cs := by
  subst hS hN
  unfold cOk at h
  simp only [Bool.and_eq_true, List.all_eq_true, bne_iff_ne, ne_eq, Bool.or_eq_true, beq_iff_eq, List.mem_range] at h
  obtain ⟨h1, h2, h3, h4, h5, h6⟩ := h
  refine ⟨h1, h2, fun y hy e => ?_, fun y hy e => ?_, h5, fun j hj => ?_⟩
  · rcases h3 y hy with z | z
    · exact absurd e z
    · exact z
  · rcases h4 y hy with z | z
    · exact absurd e z
    · exact z
  · have z := h6 j hj
    split at z
    · rename_i x y e1 e2
      simp only [Bool.and_eq_true, beq_iff_eq] at z
      obtain ⟨z1, z2⟩ := z
      subst z1
      exact ⟨x, e1, e2, z2⟩
    · cases z

/-- no test -/
theorem tyes {σ : St} {H : Hp} {A B : Hp → Prop} (h : A H) : tYes σ H fun b H3 => if b = true then A H3 else B H3 := by
  show if true = true then A H else B H
  exact iteT h
/-! ### and, or: what stands behind both ways -/
/-! ### a block's targets -/
section
variable {X : Cx} {scope : Scope} {N : List Str} {s : Shared} {H : Hp} {ex : List Addr} {x y : Str} {px py pos : Pos} {k : Nat}
theorem pgc_name {i : Nat} (hN : N.Nodup) (hi : N[i]? = some x) (hl : (relabel scope X.env).names.lookup x = some .local) : PG (cxC X scope N s H ex) (.Name x pos) (gName i) := pg_name (X := cxC X scope N s H ex) hN hi (.inl hl) (.inr hl)
end
/-! ### texts: split, partition, join; how often in a list -/
section
variable {X : Cx}
end
end L2

set_option Elab.async false
set_option linter.all false
set_option maxRecDepth 100000
namespace L2
open PySem
section
variable {X : Cx} {es es' : List Expr} {t t' : TA} {pos : Pos}
theorem pa_int {i : Int} {j} (hr : PA X es t) : PA X (.Constant (.int i) j pos :: es) (tCons (tC (.int i)) t) := pa_cons pe_int hr
theorem pa_str {z : Str} {j} (hr : PA X es t) : PA X (.Constant (.str z) j pos :: es) (tCons (tC (.str z)) t) := pa_cons pe_str hr
theorem pa_tup {x1} (h : PA X es' t') (hr : PA X es t) : PA X (.Tuple es' x1 pos :: es) (tCons (tTup t') t) := pa_cons (pe_tup h) hr
theorem pa_op {op : Operator} {r : R2} {a b : Expr} {ta tb : TE} (ho : OpR X (binaryOp op) r) (ha : PE X a ta) (hb : PE X b tb) (hr : PA X es t) : PA X (.BinOp a op b pos :: es) (tCons (tOp r ta tb) t) := pa_cons (pe_op ho ha hb) hr
theorem ixc_tup {K : PySem.W.Frag} (h : X.K = K) : IxR X (rIxT K) := h ▸ ix_tup
theorem ixc_list {K : PySem.W.Frag} (h : X.K = K) : IxR X (rIxL K) := h ▸ ix_list
end
end L2

set_option Elab.async false
set_option linter.all false
/-! The texts of whole numbers, over the codes of their signs. -/
namespace Nu
open PySem PySem.NumText PyProof.Rows
end Nu

set_option Elab.async false
set_option linter.all false
set_option maxRecDepth 100000
namespace L2
open PySem PySem.Spec PyProof.Rows
section
variable {X : Cx}
/-- any(xs), xs a list of bools -/
theorem call_any (hc : X.calm = true) : CallR X (.builtin "any") (fun xs H Q => ∃ (p : Addr) (bs : List Bool), xs = [.ref p] ∧ SqL X.K H p (bs.map V.bl) ∧ Q (.bl (bs.any id)) H) := by
  intro pins s σ H xs us Q I r h
  obtain ⟨p, bs, rfl, hq, q⟩ := h
  cases r with
  | cons r1 r2 =>
    cases r2
    cases (show _ = Value.ref p from r1)
    obtain ⟨its, rv, pl, hz⟩ := I.list hq
    have hne : p ≠ s.heap.objs.size := Nat.ne_of_lt (by obtain ⟨o, n, e, _⟩ := pl; exact Heap.lt_size e)
    refine call_any_walk (wpAny_pyIter_list pl.isList ?_)
    have vals : ∀ (i : Nat) v, its[i]? = some v → ∃ b, bs[i]? = some b ∧ v = .bool b := fun i v e => by
      cases eb : bs[i]? with
      | none =>
        have : its[i]? = none := rv.none_of (by rw [List.getElem?_map, eb]; rfl)
        rw [e] at this
        cases this
      | some b =>
        obtain ⟨u, hu, ru⟩ := rv.get (i := i) (x := V.bl b) (by rw [List.getElem?_map, eb]; rfl)
        rw [e] at hu
        cases hu
        exact ⟨b, rfl, ru⟩
    refine ⟨s.heap.objs.size, _, _, _, _, _, fun i => bs.getD i false, rfl, Walks.list (A := X.A.in1) (I.ok.hd hc) s.heap.objs.size p hne its.toArray, ⟨⟨_, Heap.get?_push_size _ rfl, rfl, rfl⟩, ?_⟩, ?_, ?_⟩
    · exact pl.isList.at fun o e => Heap.get?_push_of_some _ e
    · intro i v s2 Q2 E2 hP hQ
      obtain ⟨b, eb, rfl⟩ := vals i v (by simpa using hP)
      have e2 : bs.getD i false = b := by rw [List.getD_eq_getElem?_getD, eb]; rfl
      have hQ : Q2 (bs.getD i false) s2 := hQ
      rw [e2] at hQ
      exact wpAny_truthy_bool hQ
    · intro h' tk kk
      have I2 : Inv X pins σ H { s with heap := h', toks := tk } := I.kept fun b o e => kk b o (by intro z; exact Nat.ne_of_lt (Heap.lt_size e) (by simpa using z)) (Heap.get?_push_of_some _ e)
      have len : its.toArray.size = bs.length := by rw [List.size_toArray, ← rv.length, List.length_map]
      have e3 : (List.range its.toArray.size).any (fun i => bs.getD i false) = bs.any id := by
        rw [len, Bool.eq_iff_iff, List.any_eq_true, List.any_eq_true]
        constructor
        · rintro ⟨i, hi, e⟩
          have hi' := List.mem_range.mp hi
          rw [List.getD_eq_getElem?_getD, List.getElem?_eq_getElem hi'] at e
          exact ⟨_, List.getElem_mem hi', e⟩
        · rintro ⟨b, hb, e⟩
          obtain ⟨i, hi, e2⟩ := List.mem_iff_getElem.mp hb
          refine ⟨i, List.mem_range.mpr hi, ?_⟩
          rw [List.getD_eq_getElem?_getD, List.getElem?_eq_getElem hi, e2]
          exact e
      rw [e3]
      exact ⟨.bl _, H, I2, rfl, q⟩

/-- an attribute of an own object, within a block too -/
theorem pe_fldK {K : PySem.W.Frag} {e : Expr} {f : Str} {ta : TE} {pos : Pos} (hK : X.K = K) (he : PE X e ta) (hb : attributeBase e f X.env (eval e X.env) = eval e X.env) : PE X (.Attribute e f pos) (tFld K ta f) := hK ▸ pe_fld he hb
end
end L2

set_option Elab.async false
set_option linter.all false
set_option maxRecDepth 100000
namespace L2
open PySem PySem.Spec PyProof.Rows
section
variable {X : Cx}
theorem preSum_list (ns : List Int) : ∀ k, k ≤ ns.length → preSum (fun i => ns.getD i 0) k = (ns.take k).sum
  | 0, _ => by simp [preSum]
  | k + 1, h => by
    have h' : k < ns.length := h
    show preSum _ k + ns.getD k 0 = _
    rw [preSum_list ns k (Nat.le_of_lt h'), List.take_add_one, List.getElem?_eq_getElem h', List.getD_eq_getElem?_getD, List.getElem?_eq_getElem h', List.sum_append]
    show _ + ns[k] = _ + (ns[k] + 0)
    rw [Int.add_zero]
theorem int_vals {ns : List Int} {its : List Value} (rv : Vals (ns.map V.int) its) : ∀ (i : Nat) v, its.toArray[i]? = some v → ∃ t, v = .int (ns.getD i 0) t := fun i v e => by
  have e : its[i]? = some v := by simpa using e
  cases eb : ns[i]? with
  | none =>
    have : its[i]? = none := rv.none_of (by rw [List.getElem?_map, eb]; rfl)
    rw [e] at this
    cases this
  | some b =>
    obtain ⟨u, hu, ru⟩ := rv.get (i := i) (x := V.int b) (by rw [List.getElem?_map, eb]; rfl)
    rw [e] at hu
    cases hu
    rw [List.getD_eq_getElem?_getD, eb]
    obtain ⟨t, rfl⟩ := ru
    exact ⟨t, rfl⟩
/-- sum(xs), xs a list of ints -/
theorem call_sum (hc : X.calm = true) : CallR X (.builtin "sum") (fun xs H Q => ∃ (p : Addr) (ns : List Int), xs = [.ref p] ∧ SqL X.K H p (ns.map V.int) ∧ Q (.int ns.sum) H) := by
  intro pins s σ H xs us Q I r h
  obtain ⟨p, ns, rfl, hq, q⟩ := h
  cases r with
  | cons r1 r2 =>
    cases r2
    cases (show _ = Value.ref p from r1)
    obtain ⟨its, rv, pl, hz⟩ := I.list hq
    have hlt : p < s.heap.objs.size := by obtain ⟨o, n, e, _⟩ := pl; exact Heap.lt_size e
    have hne : p ≠ s.heap.objs.size := Nat.ne_of_lt hlt
    have len : its.toArray.size = ns.length := by rw [List.size_toArray, ← rv.length, List.length_map]
    refine call_sum_walkAnyS (wpAny_pyIter_list pl.isList ?_)
    refine ⟨s.heap.objs.size, _, _, _, _, _, _, fun i => ns.getD i 0, rfl, (Walks.list (A := X.A.in1) (I.ok.hd hc) s.heap.objs.size p hne its.toArray).toS, ⟨⟨_, Heap.get?_push_size _ rfl, rfl, rfl⟩, ?_⟩, ?_, int_vals rv, ?_⟩
    · exact pl.isList.at fun o e => Heap.get?_push_of_some _ e
    · intro b hb
      show b < (s.heap.push _).objs.size
      rw [Heap.size_push]
      rcases List.mem_cons.mp hb with rfl | hb
      · exact Nat.lt_succ_self _
      · rcases List.mem_cons.mp hb with rfl | hb
        · exact Nat.lt_succ_of_lt hlt
        · cases hb
    · intro s' t' mv
      have I2 : Inv X pins σ H { s with heap := s'.heap, toks := s'.toks } := I.kept fun b o e => mv.heap b o (by intro z; exact Nat.ne_of_lt (Heap.lt_size e) (by simpa using z)) (Heap.get?_push_of_some _ e)
      have es : s' = { s with heap := s'.heap, toks := s'.toks } := by
        obtain ⟨m1, m2, m3, m4, m5⟩ := mv
        cases s'
        simp only at m2 m3 m4
        subst m2
        subst m3
        subst m4
        rfl
      rw [es, len, preSum_list ns _ (Nat.le_refl _), List.take_length]
      exact ⟨.int ns.sum, H, I2, ⟨t', rfl⟩, q⟩
end
end L2

set_option Elab.async false
set_option linter.all false
set_option maxRecDepth 100000
namespace L2
open PySem PySem.Spec PyProof.Rows
section
variable {X : Cx}
end
/-! ### d.setdefault(k, v) -/
section
variable {prog : Program} {w : World} {κ : Type} [DecidableEq κ] {knd : HeapKind prog w κ} {A : Around} {E : Value → Shared → Prop} {s : Shared}
theorem sdef_find {d a : Addr} {xs : List (κ × Addr × Value)} {k : κ} {dflt : Value} {Q : Value → Shared → Prop} (hu : knd.room A) (hk : knd.is s.heap k a) (hm : s.heap.DictOfH knd d xs) (sz : xs.length ≤ sizeLine)
    (h1 : ∀ p, atKey xs k = some p → Q p.2 { s with toks := s.toks + knd.draws k })
    (h2 : atKey xs k = none → ∀ h', h'.DictOfH knd d (storedH xs k a dflt) → Heap.SameBut d s.heap h' → Q dflt { s with heap := h', toks := s.toks + knd.draws k }) :
    wpAny (model prog w) A (dictSetDefault d (.ref a) dflt) Q E s := by
  obtain ⟨ob, es, ep, go, ex, da, el, ks, nd⟩ := hm
  unfold dictSetDefault
  try with_reducible refine wpAny_holding ?_
  refine wpAny_bind (knd.pyHash hu hk (wpAny_bind (wpAny_dictFind_heap (s := { s with toks := s.toks + knd.draws k }) hu hk go da el ks nd (fun no => ?_) (fun j p hj => ?_))))
  · have hno := atKey_none_of_get no
    have fresh : k ∉ xs.map (·.1) := not_mem_keys_of_get no
    refine wpAny_bind (wpAny_rule (wpAny_bind (wpAny_updateDictKeys (hz := by have e := size_of_entries el; lia) (s := { s with toks := s.toks + knd.draws k }) go da (wpAny_pure (h2 hno _ ⟨_, _, ep + 1, Heap.get?_update_self _ go (Obj.isFreed_of_dict (Obj.data_mapDictKeys da _)), ex.mapDictKeys _, Obj.data_mapDictKeys da _, ?_, ?_, ?_⟩ (Heap.SameBut.update ..))))))
    · rw [storedH_new hno]
      simp [el, entryOfKey]
    · rw [storedH_new hno]
      intro x hx
      rcases List.mem_append.mp hx with z | z
      · exact knd.keeps (ks x z) go da (Heap.SameBut.update ..)
      · rw [List.mem_singleton.mp z]
        exact knd.keeps hk go da (Heap.SameBut.update ..)
    · rw [storedH_new hno, List.map_append, List.nodup_append]
      refine ⟨nd, by simp, fun x hx y hy z => fresh ?_⟩
      have : y = k := by simpa using hy
      rw [← this, ← z]
      exact hx
  · have hat := atKey_of_get nd hj
    refine wpAny_bind (wpAny_dictEntries (s := { s with toks := s.toks + knd.draws k }) go da ?_)
    rw [entry_at el j, hj]
    exact wpAny_bind (wpAny_rule (wpAny_pure (h1 p hat)))
theorem meetsH_sdef (d a : Addr) (hd : (d == sysModules) = false) (dflt : Value) :
    MeetsIn prog w (Builtin.«dict.setdefault» ⟨[.ref d, .ref a, dflt], []⟩) (fun A R s => knd.room A.in1 ∧ ∃ k xs, knd.is s.heap k a ∧ s.heap.DictOfH knd d xs ∧ xs.length ≤ sizeLine ∧
      (∀ p, atKey xs k = some p → R (.ok (.ret p.2)) { s with toks := s.toks + knd.draws k }) ∧ (atKey xs k = none → ∀ h', h'.DictOfH knd d (storedH xs k a dflt) → Heap.SameBut d s.heap h' → R (.ok (.ret dflt)) { s with heap := h', toks := s.toks + knd.draws k })) :=
  .of_wp fun A R s ⟨hu, k, xs, hk, hm, sz, h1, h2⟩ => by
    unfold Builtin.«dict.setdefault»; refine wpAny_bind ?_; unfold Builtin.Dict.keyAndDefault; refine wpAny_bind (wpAny_notOrdered_dict hm.typeIs ?_); refine wpAny_pure ?_
    show wpAny _ _ (if (d == sysModules) = true then _ else (dictSetDefault d (.ref a) dflt >>= _)) _ _ s; rw [if_neg (by rw [hd]; exact Bool.false_ne_true)]
    exact wpAny_bind (sdef_find hu hk hm sz (fun p hp => wpAny_pure ⟨p.2, rfl, h1 p hp⟩) fun hn h' hm' hs' => wpAny_pure ⟨dflt, rfl, h2 hn h' hm' hs'⟩)
end
theorem RelO.inv {o : Option V} {u : Value} (r : RelO o (some u)) : ∃ v, o = some v ∧ RelV v u := by
  cases o with
  | none => exact r.elim
  | some v => exact ⟨v, rfl, r⟩
theorem RelO.inn {o : Option V} (r : RelO o none) : o = none := by
  cases o with
  | none => rfl
  | some v => exact r.elim
section
variable {X : Cx} {pins : List (Addr × Obj)} {σ : St} {H : Hp} {s : Shared} {a : Addr} {y v : V} {u r : Value} {o : Option V} {A : Around} {E : Value → Shared → Prop}
theorem d_sdef {H' : Hp} {Q : Value → Shared → Prop} (hu : A.units + 1 < cLine) (I : Inv X pins σ H s) (g : DGet H a y o) (p : DPut H a y v H') (ry : RelV y u) (rv : RelV v r) (h1 : ∀ x w' s', o = some x → Inv X pins σ H s' → RelV x w' → Q w' s') (h2 : o = none → ∀ s', Inv X pins σ H' s' → Q r s') :
    wpAny (model X.prog X.w) A (call (.builtin "dict.setdefault") [.ref a, u, r]) Q E s := by
  rcases p with ⟨kvs, k, e, ey, l, eH⟩ | ⟨kvs, k, b, e, ey, eb, l, eH⟩
  · subst ey eH
    have eo : o = valV kvs k := by
      rcases g with ⟨kvs', k', e', ey', l'⟩ | ⟨kvs', k', b', e', ey', eb', l'⟩
      · have : k' = k := by
          cases k <;> cases k' <;> cases ey' <;> rfl
        subst this
        rcases e' with e' | ⟨_, e'⟩
        · rw [e] at e'
          cases e'
          exact l'
        · rw [e] at e'
          cases e'
      · cases k <;> cases ey'
    subst eo
    obtain ⟨z, hd, vs, rel, dd⟩ := dk_of I.hok e
    have hl : (putK kvs k v).length ≤ sizeLine := by have := length_putK kvs k v; lia
    refine call_meetsIn PySem.F.slot_dict_setdefault dd.typeIs PySem.F.entry_dict_setdefault (PySem.F.args_dict_setdefault_3 _ _ _) (kt_meets_setdefault (mixKind X.prog X.w) a (kV_is ry) hd r) ⟨vs, dd, by rw [← rel.length]; exact z, fun w' hw => ?_, fun hn h' dd' hs => ?_⟩
    · have q := rel.val k
      rw [hw] at q
      obtain ⟨x, e1, e2⟩ := RelO.inv q
      exact h1 x w' _ e1 (I.tok _) e2
    · have q := rel.val k
      rw [hn] at q
      have he : ∃ q, h'.get? a = some q := let ⟨q, _, _, hq, _⟩ := dd'; ⟨q, hq⟩
      exact h2 (RelO.inn q) _ (d_write I (by rw [e]; exact True.intro) hs he (dk_new hl hd (rel.put k rv) dd'))
  · subst ey eH
    have eo : o = valV kvs k := by
      rcases g with ⟨kvs', k', e', ey', l'⟩ | ⟨kvs', k', b', e', ey', eb', l'⟩
      · cases k' <;> cases ey'
      · cases ey'
        rw [eb] at eb'
        have : k' = k := by
          have inj : ∀ {p q : List Key}, p.map kV = q.map kV → p = q := by
            intro p
            induction p with
            | nil => intro q h; cases q with | nil => rfl | cons _ _ => cases h
            | cons x r ih =>
              intro q h
              cases q with
              | nil => cases h
              | cons y t =>
                rw [List.map_cons, List.map_cons] at h
                injection h with h1 h2
                rw [ih h2]
                cases x <;> cases y <;> cases h1 <;> rfl
          injection eb' with eb'
          injection eb' with eb'
          exact (inj eb').symm
        subst this
        rcases e' with e' | ⟨_, e'⟩
        · rw [e] at e'
          cases e'
          exact l'
        · rw [e] at e'
          cases e'
    subst eo
    cases (show u = Value.ref b from ry)
    obtain ⟨z, hd, xs, rel, dd⟩ := dt_of I.hok e
    have hz : xs.length ≤ sizeLine := by rw [← Paired.length rel]; exact z
    have hl : (putK kvs k v).length ≤ sizeLine := by have := length_putK kvs k v; lia
    refine call_meetsIn PySem.F.slot_dict_setdefault dd.typeIs PySem.F.entry_dict_setdefault (PySem.F.args_dict_setdefault_3 _ _ _) (meetsH_sdef (knd := tupleKind (mixKind X.prog X.w)) a b hd r) ⟨tupleKind_room_in1 hu, k, xs, key_of I.hok eb, dd, hz, fun p hp => ?_, fun hn h' dd' hs => ?_⟩
    · have q := rel.val k
      rw [hp] at q
      obtain ⟨x, e1, e2⟩ := RelO.inv q
      exact h1 x p.2 _ e1 (I.tok _) e2
    · have q := rel.val k
      rw [hn] at q
      obtain ⟨q', es, ep, hq, g2, g3, g4, _, g5⟩ := dd'
      refine h2 (RelO.inn q) _ (d_write I (by rw [e]; exact True.intro) hs ⟨q', hq⟩ ⟨hl, hd, _, (rel.put k eb rv).keeps fun c ys ec => ?_, q', es, ep, hq, g2, g3, g4, g5⟩)
      rw [upd_ne (ne_of ec e (fun z => nomatch z))]
      exact ec
end
def tDSet (td ty tx : TE) : TE := fun σ H Q => td σ H fun x H1 => ∃ a, x = .ref a ∧ IsD H1 a ∧ ty σ H1 fun y H2 => tx σ H2 fun z H3 => ∃ o H4, DGet H3 a y o ∧ DPut H3 a y z H4 ∧ (∀ v, o = some v → Q v H3) ∧ (o = none → Q z H4)
section
variable {X : Cx} {o e f : Expr} {apos cpos : Pos} {td ty tx : TE}
theorem pe_dsdef (hu : X.A.units + 1 < cLine) (ho : PE X o td) (he : PE X e ty) (hf : PE X f tx) (m : M2 X o "setdefault" apos e f cpos) : PE X (.Call (.Attribute o "setdefault" apos) [e, f] [] cpos) (tDSet td ty tx) := by
  intro pins s σ H Q I h
  refine wpAny_Call_method m.base m.few m.line PySem.F.plainAttrs_dict PySem.F.slot_dict_setdefault PySem.F.type_dict_setdefault (thn (ho pins s σ H _ I h) fun u s1 ⟨x, H1, I1, rx, a, ex, d, q1⟩ => ?_)
  subst ex
  obtain rfl : u = Value.ref a := rx
  obtain ⟨t1, t2, _⟩ := isD_at I1 d
  refine ⟨t1, t2, ?_⟩
  rw [m.trees]
  refine Calls.callWith_builtin rfl (Calls.evalArgs_plain (Calls.spliced_cons (thn (he pins s1 σ H1 _ I1 q1) fun iv s2 ⟨y, H2, I2, ry, q2⟩ => Calls.spliced_cons (thn (hf pins s2 σ H2 _ I2 q2) fun fv s3 ⟨z, H3, I3, rz, ov, H4, g, p, k1, k2⟩ => Calls.spliced_nil ?_))))
  exact d_sdef hu I3 g p ry rz (fun v w' s4 e I4 rw' => ⟨v, H3, I4, rw', k1 v e⟩) fun e s4 I4 => ⟨z, H4, I4, rz, k2 e⟩
end
end L2

set_option Elab.async false
set_option linter.all false
set_option maxRecDepth 100000
namespace L2
open PySem PySem.Spec PyProof.Rows
/-! ### a walk over a dict whatever its keys: the dict stays as it is meanwhile -/
section
variable {prog : Program} {w : World} {A : Around} {E : Value → Shared → Prop} {s : Shared} {d it : Addr} {o : Obj} {es : Array DictEntry} {ep i : Nat}
end
end L2

set_option Elab.async false
set_option linter.all false
set_option maxRecDepth 100000
namespace L2
open PySem PySem.Spec PyProof.Rows
section
variable {X : Cx}
end
end L2

set_option Elab.async false
set_option linter.all false
set_option maxRecDepth 100000
/-! list(d), the keys ints or texts. -/
namespace L2
open PySem PySem.W PySem.Spec PyProof.Rows
theorem keyIs_rel {P : Program} {w : World} {k : Key} {v : Value} (h : (mixKind P w).is k v = true) : RelV (kV k) v := by
  rcases keyIs_shape h with ⟨i, t, rfl, rfl⟩ | ⟨x, t, rfl, rfl⟩
  · exact ⟨t, rfl⟩
  · exact ⟨t, rfl⟩
section
variable {X : Cx}
theorem call_list_d (hc : X.calm = true) : CallR X (.type "list") (fun xs H Q => ∃ (d : Addr) (kvs : List (Key × V)), xs = [.ref d] ∧ H d = some (.dK kvs) ∧ ∀ l, H l = none → Q (.ref l) (upd H l (.lst (kvs.map fun q => kV q.1)))) := by
  intro pins s σ H xs us Q I r h
  obtain ⟨d, kvs, rfl, hd, q⟩ := h
  obtain ⟨u, rfl, rx⟩ := vals1 r
  cases rx
  obtain ⟨z, lo, vs, rel, dd⟩ := dk_of I.hok hd
  obtain ⟨ep, da⟩ := dd.dictAt
  have ln := rel.length
  refine kdl_call (kdl_dict (knd := mixKind X.prog X.w) (kvs := vs) (ep := ep) lo) (I.ok.hd hc) da (by rw [← ln]; exact z) fun h' tk acc c kp at1 it => ?_
  refine ⟨.ref s.heap.objs.size, _, I.laid (t' := tk) kp (Nat.le_refl _) (show ObjOk X.prog X.w _ h' _ (.lst _) from ⟨by rw [List.length_map]; exact z, acc.toList, c, ?_, at1⟩), rfl, q _ (I.hok.fresh (Nat.le_refl _))⟩
  have l2 : acc.toList.length = kvs.length := by rw [Array.length_toList, it.1, ln]
  have ks := rel.keys
  have go : ∀ (xs : List V) (us : List Value), xs.length = us.length → (∀ (j : Nat) (v : Value) (x : V), us[j]? = some v → xs[j]? = some x → RelV x v) → Vals xs us := by
    intro xs
    induction xs with
    | nil => intro us h1 _; cases us with | nil => exact .nil | cons _ _ => cases h1
    | cons x xs ih =>
      intro us h1 h2
      cases us with
      | nil => cases h1
      | cons u us => exact .cons (h2 0 u x rfl rfl) (ih us (by simpa using h1) fun j v y e1 e2 => h2 (j + 1) v y e1 e2)
  refine go _ _ (by rw [List.length_map, l2]) fun j v x e1 e2 => ?_
  rw [Array.getElem?_toList] at e1
  obtain ⟨k, y, e3, e4⟩ := it.2 j v e1
  have e5 : (vs.map (·.1))[j]? = some k := by rw [List.getElem?_map, e3]; rfl
  rw [← ks, List.getElem?_map] at e5
  rw [List.getElem?_map] at e2
  cases e6 : kvs[j]? with
  | none => rw [e6] at e5; cases e5
  | some kv =>
    rw [e6] at e5 e2
    simp only [Option.map_some, Option.some.injEq] at e5 e2
    rw [← e2, e5]
    exact keyIs_rel e4
end
end L2

set_option Elab.async false
set_option linter.all false
set_option maxRecDepth 100000
namespace J
open PySem L2
def top (i : Nat) : Stmt := PySem.Challenge.pw_jumpfield_k15_whole_alike_parts_are_one.main.body.getD i (.Pass ⟨0, 0, 0, 0⟩)
abbrev s_is_whole : Stmt := top 7
abbrev n_is_whole : List Str := ["thing"]
abbrev p_is_whole : List Str := ["thing"]
theorem sc_is_whole : FnScope n_is_whole p_is_whole (defScope s_is_whole) := ⟨rfl, rfl, rfl, by decide +kernel, rfl, by decide +kernel, by decide +kernel⟩
abbrev s_is_state : Stmt := top 10
abbrev n_is_state : List Str := ["thing"]
abbrev p_is_state : List Str := ["thing"]
theorem sc_is_state : FnScope n_is_state p_is_state (defScope s_is_state) := ⟨rfl, rfl, rfl, by decide +kernel, rfl, by decide +kernel, by decide +kernel⟩
abbrev s__law_number : Stmt := top 15
abbrev n__law_number : List Str := ["_law_found"]
abbrev p__law_number : List Str := ["_law_found"]
theorem sc__law_number : FnScope n__law_number p__law_number (defScope s__law_number) := ⟨rfl, rfl, rfl, by decide +kernel, rfl, by decide +kernel, by decide +kernel⟩
abbrev s__law_same : Stmt := top 16
abbrev n__law_same : List Str := ["_law_found", "_law_due"]
abbrev p__law_same : List Str := ["_law_found", "_law_due"]
theorem sc__law_same : FnScope n__law_same p__law_same (defScope s__law_same) := ⟨rfl, rfl, rfl, by decide +kernel, rfl, by decide +kernel, by decide +kernel⟩
abbrev s__law_stir : Stmt := top 17
abbrev n__law_stir : List Str := ["_law_cell", "_law_k", "_law_value"]
abbrev p__law_stir : List Str := ["_law_cell", "_law_k"]
theorem sc__law_stir : FnScope n__law_stir p__law_stir (defScope s__law_stir) := ⟨rfl, rfl, rfl, by decide +kernel, rfl, by decide +kernel, by decide +kernel⟩
abbrev s__law_own : Stmt := top 18
abbrev n__law_own : List Str := ["_law_ids", "_law_rows", "_law_level", "_law_parts", "_law_lives"]
abbrev p__law_own : List Str := ["_law_ids", "_law_rows", "_law_level", "_law_parts"]
theorem sc__law_own : FnScope n__law_own p__law_own (defScope s__law_own) := ⟨rfl, rfl, rfl, by decide +kernel, rfl, by decide +kernel, by decide +kernel⟩
abbrev s__law_even : Stmt := top 19
abbrev n__law_even : List Str := ["_law_ids", "_law_rows", "_law_level", "_law_state", "_law_own_here", "_law_k"]
abbrev p__law_even : List Str := ["_law_ids", "_law_rows", "_law_level", "_law_state"]
theorem sc__law_even : FnScope n__law_even p__law_even (defScope s__law_even) := ⟨rfl, rfl, rfl, by decide +kernel, rfl, by decide +kernel, by decide +kernel⟩
abbrev s__law_deed : Stmt := top 20
abbrev n__law_deed : List Str := ["_law_cell", "_law_ids", "_law_rows", "_law_pool", "_law_way", "_law_pick", "_law_base", "_law_level", "_law_same_here", "_law_four", "_law_k", "_law_parts"]
abbrev p__law_deed : List Str := ["_law_cell", "_law_ids", "_law_rows", "_law_pool"]
theorem sc__law_deed : FnScope n__law_deed p__law_deed (defScope s__law_deed) := ⟨rfl, rfl, rfl, by decide +kernel, rfl, by decide +kernel, by decide +kernel⟩
abbrev s__law_done : Stmt := top 21
abbrev n__law_done : List Str := ["_law_grove", "_law_deed_here", "_law_known", "_law_four"]
abbrev p__law_done : List Str := ["_law_grove", "_law_deed_here", "_law_known"]
theorem sc__law_done : FnScope n__law_done p__law_done (defScope s__law_done) := ⟨rfl, rfl, rfl, by decide +kernel, rfl, by decide +kernel, by decide +kernel⟩
abbrev s__law_agreed : Stmt := top 22
abbrev n__law_agreed : List Str := ["_law_known", "_law_back", "_law_own_here", "_law_found"]
abbrev p__law_agreed : List Str := ["_law_known", "_law_back", "_law_own_here", "_law_found"]
theorem sc__law_agreed : FnScope n__law_agreed p__law_agreed (defScope s__law_agreed) := ⟨rfl, rfl, rfl, by decide +kernel, rfl, by decide +kernel, by decide +kernel⟩
abbrev s__law_looked : Stmt := top 23
abbrev n__law_looked : List Str := ["_law_grove", "_law_known", "_law_back", "_law_rows", "_law_own_here", "_law_level", "_law_number_here", "_law_four", "_law_part", "_law_found"]
abbrev p__law_looked : List Str := ["_law_grove", "_law_known", "_law_back", "_law_rows"]
theorem sc__law_looked : FnScope n__law_looked p__law_looked (defScope s__law_looked) := ⟨rfl, rfl, rfl, by decide +kernel, rfl, by decide +kernel, by decide +kernel⟩
abbrev s_law : Stmt := top 24
abbrev n_law : List Str := ["_law_script", "_law_groves", "_law_known", "_law_back", "_law_ids", "_law_rows", "_law_pool", "_law_deeds", "_law_cell", "_law_deed_here", "_law_k"]
abbrev p_law : List Str := ["_law_script"]
theorem sc_law : FnScope n_law p_law (defScope s_law) := ⟨rfl, rfl, rfl, by decide +kernel, rfl, by decide +kernel, by decide +kernel⟩
abbrev s_Grove_init : Stmt := inClass (top 13) 0
abbrev n_Grove_init : List Str := ["self", "state", "level", "bare"]
abbrev p_Grove_init : List Str := ["self"]
theorem sc_Grove_init : FnScope n_Grove_init p_Grove_init (defScope s_Grove_init) := ⟨rfl, rfl, rfl, by decide +kernel, rfl, by decide +kernel, by decide +kernel⟩
abbrev s_Grove_kept : Stmt := inClass (top 13) 1
abbrev n_Grove_kept : List Str := ["self", "parts", "level", "number"]
abbrev p_Grove_kept : List Str := ["self", "parts", "level"]
theorem sc_Grove_kept : FnScope n_Grove_kept p_Grove_kept (defScope s_Grove_kept) := ⟨rfl, rfl, rfl, by decide +kernel, rfl, by decide +kernel, by decide +kernel⟩
abbrev s_Grove_linked : Stmt := inClass (top 13) 2
abbrev n_Grove_linked : List Str := ["self", "parts", "number"]
abbrev p_Grove_linked : List Str := ["self", "parts"]
theorem sc_Grove_linked : FnScope n_Grove_linked p_Grove_linked (defScope s_Grove_linked) := ⟨rfl, rfl, rfl, by decide +kernel, rfl, by decide +kernel, by decide +kernel⟩
abbrev s_Grove_check_square : Stmt := inClass (top 13) 3
abbrev n_Grove_check_square : List Str := ["self", "square"]
abbrev p_Grove_check_square : List Str := ["self", "square"]
theorem sc_Grove_check_square : FnScope n_Grove_check_square p_Grove_check_square (defScope s_Grove_check_square) := ⟨rfl, rfl, rfl, by decide +kernel, rfl, by decide +kernel, by decide +kernel⟩
abbrev s_Grove_leaf : Stmt := inClass (top 13) 4
abbrev n_Grove_leaf : List Str := ["self", "state"]
abbrev p_Grove_leaf : List Str := ["self", "state"]
theorem sc_Grove_leaf : FnScope n_Grove_leaf p_Grove_leaf (defScope s_Grove_leaf) := ⟨rfl, rfl, rfl, by decide +kernel, rfl, by decide +kernel, by decide +kernel⟩
abbrev s_Grove_joined : Stmt := inClass (top 13) 5
abbrev n_Grove_joined : List Str := ["self", "a", "b", "c", "d", "square", "level"]
abbrev p_Grove_joined : List Str := ["self", "a", "b", "c", "d"]
theorem sc_Grove_joined : FnScope n_Grove_joined p_Grove_joined (defScope s_Grove_joined) := ⟨rfl, rfl, rfl, by decide +kernel, rfl, by decide +kernel, by decide +kernel⟩
abbrev s_Grove_solid : Stmt := inClass (top 13) 6
abbrev n_Grove_solid : List Str := ["self", "level", "state", "square", "below"]
abbrev p_Grove_solid : List Str := ["self", "level", "state"]
theorem sc_Grove_solid : FnScope n_Grove_solid p_Grove_solid (defScope s_Grove_solid) := ⟨rfl, rfl, rfl, by decide +kernel, rfl, by decide +kernel, by decide +kernel⟩
abbrev s_Grove_level_of : Stmt := inClass (top 13) 7
abbrev n_Grove_level_of : List Str := ["self", "square"]
abbrev p_Grove_level_of : List Str := ["self", "square"]
theorem sc_Grove_level_of : FnScope n_Grove_level_of p_Grove_level_of (defScope s_Grove_level_of) := ⟨rfl, rfl, rfl, by decide +kernel, rfl, by decide +kernel, by decide +kernel⟩
abbrev s_Grove_quarters : Stmt := inClass (top 13) 8
abbrev n_Grove_quarters : List Str := ["self", "square"]
abbrev p_Grove_quarters : List Str := ["self", "square"]
theorem sc_Grove_quarters : FnScope n_Grove_quarters p_Grove_quarters (defScope s_Grove_quarters) := ⟨rfl, rfl, rfl, by decide +kernel, rfl, by decide +kernel, by decide +kernel⟩
abbrev s_Grove_state_of : Stmt := inClass (top 13) 9
abbrev n_Grove_state_of : List Str := ["self", "square"]
abbrev p_Grove_state_of : List Str := ["self", "square"]
theorem sc_Grove_state_of : FnScope n_Grove_state_of p_Grove_state_of (defScope s_Grove_state_of) := ⟨rfl, rfl, rfl, by decide +kernel, rfl, by decide +kernel, by decide +kernel⟩
abbrev s_Grove_living : Stmt := inClass (top 13) 10
abbrev n_Grove_living : List Str := ["self", "square"]
abbrev p_Grove_living : List Str := ["self", "square"]
theorem sc_Grove_living : FnScope n_Grove_living p_Grove_living (defScope s_Grove_living) := ⟨rfl, rfl, rfl, by decide +kernel, rfl, by decide +kernel, by decide +kernel⟩
abbrev s_Grove_counted : Stmt := inClass (top 13) 11
abbrev n_Grove_counted : List Str := ["self", "square", "amount"]
abbrev p_Grove_counted : List Str := ["self", "square"]
theorem sc_Grove_counted : FnScope n_Grove_counted p_Grove_counted (defScope s_Grove_counted) := ⟨rfl, rfl, rfl, by decide +kernel, rfl, by decide +kernel, by decide +kernel⟩
/-- where the classes stand -/
structure Ad where
  c_Grove : Addr
/-- what the top has written -/
structure Top (K : PySem.W.Frag) (mg : Str → Option Value) (a : Ad) : Prop where
  b_any : mg "any" = none
  b_bool : mg "bool" = none
  b_int : mg "int" = none
  b_isinstance : mg "isinstance" = none
  b_len : mg "len" = none
  b_list : mg "list" = none
  b_min : mg "min" = none
  b_range : mg "range" = none
  b_sum : mg "sum" = none
  b_tuple : mg "tuple" = none
  b_zip : mg "zip" = none
  k_STATES : ∃ t, mg "STATES" = some (.int 8 t)
  k_TOP_LEVEL : ∃ t, mg "TOP_LEVEL" = some (.int 48 t)
  m_Grove : mg "Grove" = some (.ref a.c_Grove)
  cl_Grove : Cls K a.c_Grove
  na_Grove_levels : NoAttr K a.c_Grove "levels"
  na_Grove_parts : NoAttr K a.c_Grove "parts"
  na_Grove_numbers : NoAttr K a.c_Grove "numbers"
  na_Grove_bares : NoAttr K a.c_Grove "bares"
  na_Grove_amounts : NoAttr K a.c_Grove "amounts"
  na_Grove_boxes : NoAttr K a.c_Grove "boxes"
end J

set_option Elab.async false
set_option linter.all false
set_option maxRecDepth 100000
set_option maxHeartbeats 1000000
/-! The grove: squares by their numbers. -/
namespace J
open PySem L2
/-- a square: what it is made of, its level -/
structure Sq where
  parts : List Int
  lev : Int
abbrev Gv := List Sq
/-- where a grove lies -/
structure GA where
  p : Addr
  dx : Addr
  lv : Addr
  pt : Addr
  nm : Addr
  br : Addr
  am : Addr
  bx : Addr
def fl6 (g : GA) : List (Str × V) := putF "boxes" (.ref g.bx) (putF "amounts" (.ref g.am) (putF "bares" (.ref g.br) (putF "numbers" (.ref g.nm) (putF "parts" (.ref g.pt) (putF "levels" (.ref g.lv) [])))))
theorem fl6_lv (g : GA) : (fl6 g).lookup ("levels" : Str) = some (V.ref g.lv) := by
  unfold fl6
  rw [lookup_putF, if_neg (by decide +kernel), lookup_putF, if_neg (by decide +kernel), lookup_putF, if_neg (by decide +kernel), lookup_putF, if_neg (by decide +kernel), lookup_putF, if_neg (by decide +kernel), lookup_putF, if_pos rfl]
theorem fl6_pt (g : GA) : (fl6 g).lookup ("parts" : Str) = some (V.ref g.pt) := by
  unfold fl6
  rw [lookup_putF, if_neg (by decide +kernel), lookup_putF, if_neg (by decide +kernel), lookup_putF, if_neg (by decide +kernel), lookup_putF, if_neg (by decide +kernel), lookup_putF, if_pos rfl]
theorem fl6_nm (g : GA) : (fl6 g).lookup ("numbers" : Str) = some (V.ref g.nm) := by
  unfold fl6
  rw [lookup_putF, if_neg (by decide +kernel), lookup_putF, if_neg (by decide +kernel), lookup_putF, if_neg (by decide +kernel), lookup_putF, if_pos rfl]
theorem fl6_br (g : GA) : (fl6 g).lookup ("bares" : Str) = some (V.ref g.br) := by
  unfold fl6
  rw [lookup_putF, if_neg (by decide +kernel), lookup_putF, if_neg (by decide +kernel), lookup_putF, if_pos rfl]
theorem fl6_am (g : GA) : (fl6 g).lookup ("amounts" : Str) = some (V.ref g.am) := by
  unfold fl6
  rw [lookup_putF, if_neg (by decide +kernel), lookup_putF, if_pos rfl]
theorem fl6_no (g : GA) {m : Str} (h1 : ¬ m = ("boxes" : Str)) (h2 : ¬ m = ("amounts" : Str)) (h3 : ¬ m = ("bares" : Str)) (h4 : ¬ m = ("numbers" : Str)) (h5 : ¬ m = ("parts" : Str)) (h6 : ¬ m = ("levels" : Str)) : (fl6 g).lookup m = none := by
  unfold fl6
  rw [lookup_putF, if_neg h1, lookup_putF, if_neg h2, lookup_putF, if_neg h3, lookup_putF, if_neg h4, lookup_putF, if_neg h5, lookup_putF, if_neg h6]
  rfl
theorem no_kept (g : GA) : (fl6 g).lookup ("kept" : Str) = none := fl6_no g (by decide +kernel) (by decide +kernel) (by decide +kernel) (by decide +kernel) (by decide +kernel) (by decide +kernel)
theorem no_linked (g : GA) : (fl6 g).lookup ("linked" : Str) = none := fl6_no g (by decide +kernel) (by decide +kernel) (by decide +kernel) (by decide +kernel) (by decide +kernel) (by decide +kernel)
theorem no_check (g : GA) : (fl6 g).lookup ("check_square" : Str) = none := fl6_no g (by decide +kernel) (by decide +kernel) (by decide +kernel) (by decide +kernel) (by decide +kernel) (by decide +kernel)
theorem no_leaf (g : GA) : (fl6 g).lookup ("leaf" : Str) = none := fl6_no g (by decide +kernel) (by decide +kernel) (by decide +kernel) (by decide +kernel) (by decide +kernel) (by decide +kernel)
theorem no_levelOf (g : GA) : (fl6 g).lookup ("level_of" : Str) = none := fl6_no g (by decide +kernel) (by decide +kernel) (by decide +kernel) (by decide +kernel) (by decide +kernel) (by decide +kernel)
theorem no_joined (g : GA) : (fl6 g).lookup ("joined" : Str) = none := fl6_no g (by decide +kernel) (by decide +kernel) (by decide +kernel) (by decide +kernel) (by decide +kernel) (by decide +kernel)
theorem no_solid (g : GA) : (fl6 g).lookup ("solid" : Str) = none := fl6_no g (by decide +kernel) (by decide +kernel) (by decide +kernel) (by decide +kernel) (by decide +kernel) (by decide +kernel)
theorem no_quarters (g : GA) : (fl6 g).lookup ("quarters" : Str) = none := fl6_no g (by decide +kernel) (by decide +kernel) (by decide +kernel) (by decide +kernel) (by decide +kernel) (by decide +kernel)
theorem no_stateOf (g : GA) : (fl6 g).lookup ("state_of" : Str) = none := fl6_no g (by decide +kernel) (by decide +kernel) (by decide +kernel) (by decide +kernel) (by decide +kernel) (by decide +kernel)
/-! ### numbers by what a square is made of -/
def kOf (ps : List Int) : List Key := ps.map Sum.inl
theorem kOf_v (ps : List Int) : (kOf ps).map kV = ps.map V.int := by unfold kOf; rw [List.map_map]; rfl
theorem kOf_inj : ∀ {ps qs : List Int}, kOf ps = kOf qs → ps = qs
  | [], [], _ => rfl
  | [], _ :: _, h => by cases h
  | _ :: _, [], h => by cases h
  | x :: r, y :: t, h => by
    have h : Sum.inl x :: kOf r = (Sum.inl y : Key) :: kOf t := h
    injection h with h1 h2
    injection h1 with h1
    rw [h1, kOf_inj h2]
def kvOf : Nat → Gv → List (List Key × V)
  | _, [] => []
  | n, q :: r => (kOf q.parts, .int (n : Int)) :: kvOf (n + 1) r
theorem kvOf_len : ∀ (G : Gv) (n : Nat), (kvOf n G).length = G.length
  | [], _ => rfl
  | q :: r, n => by show (kvOf (n + 1) r).length + 1 = r.length + 1; rw [kvOf_len r]
theorem kvOf_snoc (q : Sq) : ∀ (G : Gv) (n : Nat), kvOf n (G ++ [q]) = kvOf n G ++ [(kOf q.parts, .int ((n + G.length : Nat) : Int))]
  | [], _ => rfl
  | p :: r, n => by
    show (kOf p.parts, V.int (n : Int)) :: kvOf (n + 1) (r ++ [q]) = _
    rw [kvOf_snoc q r (n + 1)]
    show _ = (kOf p.parts, V.int (n : Int)) :: (kvOf (n + 1) r ++ [(kOf q.parts, V.int ((n + (r.length + 1) : Nat) : Int))])
    rw [show n + 1 + r.length = n + (r.length + 1) by lia]
theorem kv_look (ps : List Int) : ∀ (G : Gv) (n : Nat), (∃ (i : Nat) (q : Sq), G[i]? = some q ∧ q.parts = ps ∧ valV (kvOf n G) (kOf ps) = some (.int ((n + i : Nat) : Int))) ∨ (valV (kvOf n G) (kOf ps) = none ∧ ∀ q ∈ G, q.parts ≠ ps)
  | [], n => .inr ⟨rfl, fun q hq => by simp at hq⟩
  | p :: r, n => by
    by_cases e : p.parts = ps
    · exact .inl ⟨0, p, rfl, e, valV_pos (by rw [e])⟩
    · have ne : ¬ (kOf p.parts, V.int (n : Int)).1 = kOf ps := fun z => e (kOf_inj z)
      rcases kv_look ps r (n + 1) with ⟨i, q, h1, h2, h3⟩ | ⟨h1, h2⟩
      · refine .inl ⟨i + 1, q, h1, h2, ?_⟩
        show valV ((kOf p.parts, V.int (n : Int)) :: kvOf (n + 1) r) (kOf ps) = _
        rw [valV_neg ne, h3, show n + 1 + i = n + (i + 1) by lia]
      · refine .inr ⟨?_, fun q hq => ?_⟩
        · show valV ((kOf p.parts, V.int (n : Int)) :: kvOf (n + 1) r) (kOf ps) = _
          rw [valV_neg ne, h1]
        · rcases List.mem_cons.mp hq with rfl | hq
          · exact e
          · exact h2 q hq
/-! ### a grove in the heap -/
def TupAt (H : Hp) (t : Addr) (q : Sq) : Prop := H t = some (.tup (q.parts.map V.int))
structure GroveAt (a : Ad) (H : Hp) (g : GA) (G : Gv) : Prop where
  hp : H g.p = some (.ins a.c_Grove g.dx (fl6 g))
  lv : H g.lv = some (.lst (G.map fun q => .int q.lev))
  pt : ∃ ts : List Addr, H g.pt = some (.lst (ts.map V.ref)) ∧ Paired (TupAt H) ts G
  nm : H g.nm = some (.dT (kvOf 0 G))
  ne : g.lv ≠ g.pt
/-- all but the grove's own lists stays -/
def Fr (g : GA) (H H' : Hp) : Prop := ∀ b o, H b = some o → b ≠ g.lv → b ≠ g.pt → b ≠ g.nm → H' b = some o
theorem Fr.refl (g : GA) (H : Hp) : Fr g H H := fun _ _ e _ _ _ => e
theorem Fr.trans {g : GA} {H1 H2 H3 : Hp} (h : Fr g H1 H2) (h2 : Fr g H2 H3) : Fr g H1 H3 := fun b o e n1 n2 n3 => h2 b o (h b o e n1 n2 n3) n1 n2 n3
theorem Same.fr {g : GA} {H1 H2 : Hp} (h : Same H1 H2) : Fr g H1 H2 := fun b o e _ _ _ => h b o e
theorem PairedM.imp {α β : Type} {F G : α → β → Prop} (h : ∀ x y, F x y → G x y) : ∀ {l : List α} {m : List β}, Paired F l m → Paired G l m
  | _, _, .nil => .nil
  | _, _, .cons r t => .cons (h _ _ r) (PairedM.imp h t)
theorem PairedM.get {α β : Type} {F : α → β → Prop} : ∀ {l : List α} {m : List β} {i : Nat} {y : β}, Paired F l m → m[i]? = some y → ∃ x, l[i]? = some x ∧ F x y
  | _, _, _, _, .nil, e => by simp at e
  | _, _, 0, _, .cons r _, e => by simp at e; subst e; exact ⟨_, rfl, r⟩
  | _, _, i + 1, y, .cons _ t, e => by
    obtain ⟨x, h1, h2⟩ := PairedM.get (i := i) (y := y) t (by simpa using e)
    exact ⟨x, by simpa using h1, h2⟩
theorem same_up {H : Hp} {p : Addr} {o : HO} (h : H p = none) : Same H (upd H p o) := fun b u e => by
  rw [upd_ne (ne_of_none e h)]
  exact e
theorem GroveAt.same {a : Ad} {H H' : Hp} {g : GA} {G : Gv} (s : Same H H') (h : GroveAt a H g G) : GroveAt a H' g G := by
  obtain ⟨h1, h2, ⟨ts, h3, h4⟩, h5, h6⟩ := h
  exact ⟨s _ _ h1, s _ _ h2, ⟨ts, s _ _ h3, PairedM.imp (fun t q z => s _ _ z) h4⟩, s _ _ h5, h6⟩
/-- a list that is not the grove's own is written -/
theorem GroveAt.put {a : Ad} {H : Hp} {g : GA} {G : Gv} {l : Addr} {xs : List V} {o : HO} (hl : H l = some (.lst xs)) (n1 : l ≠ g.lv) (n2 : l ≠ g.pt) (h : GroveAt a H g G) : GroveAt a (upd H l o) g G := by
  obtain ⟨h1, h2, ⟨ts, h3, h4⟩, h5, h6⟩ := h
  have other : ∀ {b v}, H b = some v → v ≠ .lst xs → upd H l o b = some v := fun {b v} e n => by rw [upd_ne (ne_of e hl n)]; exact e
  exact ⟨other h1 (by intro z; cases z), by rw [upd_ne (Ne.symm n1)]; exact h2, ⟨ts, by rw [upd_ne (Ne.symm n2)]; exact h3, PairedM.imp (fun t q z => other z (by intro z; cases z)) h4⟩, other h5 (by intro z; cases z), h6⟩
/-! ### what a grove keeps to -/
def LevAt (G : Gv) (x : Nat) (l : Int) : Prop := ∃ q, G[x]? = some q ∧ q.lev = l
structure GOk (G : Gv) : Prop where
  leaf : ∀ s : Nat, s < 8 → G[s]? = some ⟨[(s : Int)], 0⟩
  node : ∀ (i : Nat) q, G[i]? = some q → 8 ≤ i → ∃ x y z w : Nat, q.parts = [(x : Int), (y : Int), (z : Int), (w : Int)] ∧ (LevAt G x (q.lev - 1) ∧ LevAt G y (q.lev - 1) ∧ LevAt G z (q.lev - 1) ∧ LevAt G w (q.lev - 1)) ∧ 1 ≤ q.lev ∧ q.lev ≤ 48
  nd : (G.map Sq.parts).Nodup
theorem LevAt.lt {G : Gv} {x : Nat} {l : Int} (h : LevAt G x l) : x < G.length := by
  obtain ⟨q, h, _⟩ := h
  exact (List.getElem?_eq_some_iff.mp h).1
theorem get_app {G r : Gv} {x : Nat} {q : Sq} (h : G[x]? = some q) : (G ++ r)[x]? = some q := by
  rw [List.getElem?_append_left (List.getElem?_eq_some_iff.mp h).1]
  exact h
theorem LevAt.app {G r : Gv} {x : Nat} {l : Int} (h : LevAt G x l) : LevAt (G ++ r) x l := by
  obtain ⟨q, h, e⟩ := h
  exact ⟨q, get_app h, e⟩
theorem GOk.lev {G : Gv} (h : GOk G) {i : Nat} {q : Sq} (e : G[i]? = some q) : 0 ≤ q.lev ∧ q.lev ≤ 48 := by
  by_cases h8 : i < 8
  · rw [h.leaf i h8] at e
    cases e
    exact ⟨Int.le_refl 0, by show (0 : Int) ≤ 48; decide⟩
  · obtain ⟨x, y, z, w, _, _, h1, h2⟩ := h.node i q e (by lia)
    exact ⟨by lia, h2⟩
theorem GOk.snoc {G : Gv} (h : GOk G) {x y z w : Nat} {l : Int} (hx : LevAt G x l) (hy : LevAt G y l) (hz : LevAt G z l) (hw : LevAt G w l) (h47 : l ≤ 47) (new : ∀ q ∈ G, q.parts ≠ [(x : Int), (y : Int), (z : Int), (w : Int)]) : GOk (G ++ [⟨[(x : Int), (y : Int), (z : Int), (w : Int)], l + 1⟩]) where
  leaf := fun s hs => get_app (h.leaf s hs)
  node := fun i q e hi => by
    by_cases hl : i < G.length
    · rw [List.getElem?_append_left hl] at e
      obtain ⟨x, y, z, w, h1, ⟨a1, a2, a3, a4⟩, h3⟩ := h.node i q e hi
      exact ⟨x, y, z, w, h1, ⟨a1.app, a2.app, a3.app, a4.app⟩, h3⟩
    · rw [List.getElem?_append_right (by lia)] at e
      have : i - G.length = 0 := by
        by_cases z : i - G.length = 0
        · exact z
        · rw [List.getElem?_eq_none (by rw [List.length_singleton]; lia)] at e; cases e
      rw [this] at e
      cases e
      obtain ⟨q0, e0, l0⟩ := hx
      have := (h.lev e0).1
      have el : l + 1 - 1 = l := by lia
      refine ⟨x, y, z, w, rfl, ?_, ?_, ?_⟩
      · show LevAt _ x (l + 1 - 1) ∧ LevAt _ y (l + 1 - 1) ∧ LevAt _ z (l + 1 - 1) ∧ LevAt _ w (l + 1 - 1)
        rw [el]
        exact ⟨LevAt.app ⟨q0, e0, l0⟩, hy.app, hz.app, hw.app⟩
      · show 1 ≤ l + 1; lia
      · show l + 1 ≤ 48; lia
  nd := by
    rw [List.map_append, List.nodup_append]
    refine ⟨h.nd, by simp, fun p hp p' hp' => ?_⟩
    obtain ⟨q, hq, rfl⟩ := List.mem_map.mp hp
    rw [show p' = [(x : Int), (y : Int), (z : Int), (w : Int)] by simpa using hp']
    exact new q hq
/-- two squares of one making are one -/
theorem GOk.one {G : Gv} (h : GOk G) {i j : Nat} {p q : Sq} (hi : G[i]? = some p) (hj : G[j]? = some q) (e : p.parts = q.parts) : i = j := by
  have li := (List.getElem?_eq_some_iff.mp hi).1
  have lj := (List.getElem?_eq_some_iff.mp hj).1
  have h1 : (G.map Sq.parts)[i]'(by rw [List.length_map]; exact li) = (G.map Sq.parts)[j]'(by rw [List.length_map]; exact lj) := by
    rw [List.getElem_map, List.getElem_map, (List.getElem?_eq_some_iff.mp hi).2, (List.getElem?_eq_some_iff.mp hj).2, e]
  exact (List.getElem_inj h.nd).mp h1
end J

set_option maxHeartbeats 200000
set_option Elab.async false
set_option linter.all false
set_option maxRecDepth 100000
set_option maxHeartbeats 1000000
/-! The grove's own defs. -/
namespace J
open PySem L2
theorem le_ln {n : Nat} (h : n ≤ 10000000) : n ≤ sizeLine := Nat.le_trans h (by decide)
theorem lt_ln {n : Nat} (h : n < 10000000) : n < sizeLine := Nat.lt_of_lt_of_le h (by decide)
theorem kit_w (K : PySem.W.Frag) : PySem.W.kitOne K (.type "int") (.type "int") = some true ∧ PySem.W.kitOne K (.type "int") (.type "bool") = some false := ⟨by kernel_rfl, by kernel_rfl⟩
section
variable {P : Program} {w : World} {K : PySem.W.Frag} {mg : Str → Option Value} {base : Heap} {a : Ad}
inductive SpIW (vs : List V) (H : Hp) (Q : VK) : Prop
  | mk (i : Int) (_ : vs = [.int i]) (_ : Q (.bl true) H) : SpIW vs H Q
def spIW : Sp := fun vs H Q _ => SpIW vs H Q
theorem ok_iw {f : Addr} {fd : FuncData} (F : Fun K "is_whole" "is_whole" s_is_whole f fd) (T : Top K mg a) : FnOk P w K mg base CX0 1 f fd p_is_whole spIW := by
  refine F.ok sc_is_whole (fun vs H Q E h => ?_) (fun cdv A outer s H vs Q E hr h => ?_)
  · obtain ⟨i, rfl, _⟩ := h
    rfl
  · obtain ⟨i, rfl, k⟩ := h
    exact ⟨_, (@pss_one _ _ _ (@ps_ret _ _ _ _ (@pe_and _ _ _ _ _ _ _ (@pe_callB _ _ _ _ _ _ _ _ _ (@call_isi _) rfl T.b_isinstance PyProof.Rows.boot_isinstance (@pa_cons _ _ _ _ _ (pv 0) (@pa_cons _ _ _ _ _ (@pe_bltn _ _ ((.ty "int")) _ _ rfl T.b_int PyProof.Rows.boot_int rfl (by decide) (by decide)) (@pa_nil _) rfl) rfl) (by decide) (by decide) rfl rfl) (@pe_one _ _ _ _ _ (@pe_not _ _ _ _ (@pe_callB _ _ _ _ _ _ _ _ _ (@call_isi _) rfl T.b_isinstance PyProof.Rows.boot_isinstance (@pa_cons _ _ _ _ _ (pv 0) (@pa_cons _ _ _ _ _ (@pe_bltn _ _ ((.ty "bool")) _ _ rfl T.b_bool PyProof.Rows.boot_bool rfl (by decide) (by decide)) (@pa_nil _) rfl) rfl) (by decide) (by decide) rfl rfl)))))), _, rfl, _, _, _, .type "int", true, rfl, rfl, .of (.int i), (kit_w K).1, true, rfl, iteT ⟨_, rfl, _, _, _, .type "int", false, rfl, rfl, .of (.int i), (kit_w K).2, false, rfl, k⟩⟩
inductive SpIS (vs : List V) (H : Hp) (Q : VK) : Prop
  | mk (i : Int) (_ : vs = [.int i]) (_ : 0 ≤ i) (_ : i < 8) (_ : Q (.bl true) H) : SpIS vs H Q
def spIS : Sp := fun vs H Q _ => SpIS vs H Q
theorem ok_is {f : Addr} {fd : FuncData} (F : Fun K "is_state" "is_state" s_is_state f fd) (T : Top K mg a) (C_is_whole : Cal P w K mg base CX0 1 "is_whole" p_is_whole spIW) : FnOk P w K mg base CX0 2 f fd p_is_state spIS := by
  refine F.ok sc_is_state (fun vs H Q E h => ?_) (fun cdv A outer s H vs Q E hr h => ?_)
  · obtain ⟨i, rfl, _⟩ := h
    rfl
  · obtain ⟨i, rfl, h0, h1, k⟩ := h
    refine ⟨_, (@pss_one _ _ _ (@ps_ret _ _ _ _ (@pe_and _ _ _ _ _ _ _ (@pe_cal _ _ _ _ _ _ _ _ _ _ _ _ C_is_whole (rm hr) rfl pass0 (@pa_cons _ _ _ _ _ (pv 0) (@pa_nil _) rfl) (by decide) rfl rfl) (@pe_one _ _ _ _ _ (@pe_chain _ _ _ _ _ _ _ _ _ _ _ _ (@op_le _) (@op_lt _) (@pe_int _ _ _ _) (pv 0) (@pe_gint _ _ _ _ rfl T.k_STATES (by decide)) (by with_unfolding_all rfl)))))), ?_⟩
    try dsimp only [cxK]
    refine ⟨_, rfl, i, rfl, true, rfl, iteT ⟨_, rfl, _, _, rfl, rfl, _, rfl, ?_⟩⟩
    rw [decide_eq_true h0]
    refine iteT ⟨_, _, rfl, rfl, ?_⟩
    show Q (.bl (decide (i < 8))) H
    rw [decide_eq_true h1]
    exact k
/-! ### kept, linked -/
inductive SpKept (a : Ad) (vs : List V) (H : Hp) (Q : VK) : Prop
  | mk (g : GA) (G : Gv) (t : Addr) (ps : List Int) (l : Int) (_ : vs = [.ref g.p, .ref t, .int l]) (_ : GroveAt a H g G) (_ : H t = some (.tup (ps.map V.int))) (_ : (∀ q ∈ G, q.parts ≠ ps)) (_ : G.length < 9000000) (_ : ∀ H', Fr g H H' → GroveAt a H' g (G ++ [⟨ps, l⟩]) → Q (.int (G.length : Int)) H') : SpKept a vs H Q
def spKept (a : Ad) : Sp := fun vs H Q _ => SpKept a vs H Q
theorem ok_kept {f : Addr} {fd : FuncData} (F : Fun K "kept" "Grove.kept" s_Grove_kept f fd) (T : Top K mg a) : FnOk P w K mg base CX0 1 f fd p_Grove_kept (spKept a) := by
  refine F.ok sc_Grove_kept (fun vs H Q E h => ?_) (fun cdv A outer s H vs Q E hr h => ?_)
  · obtain ⟨g, G, t, ps, l, rfl, _⟩ := h
    rfl
  · obtain ⟨g, G, t, ps, l, rfl, hg, ht, new, few, k⟩ := h
    obtain ⟨h1, h2, ⟨ts, h3, h4⟩, h5, h6⟩ := hg
    have lt : ts.length = G.length := Paired.length h4
    refine ⟨_, (@pss_cons _ _ _ _ _ (@ps_set _ _ (3) _ _ _ _ sc_Grove_kept.nd rfl (Or.inl rfl) (@pe_callB _ _ _ _ _ _ _ _ _ (@call_len_seq _) rfl T.b_len PySem.boot_len (@pa_cons _ _ _ _ _ (@pe_fld _ _ _ _ _ (pv 0) rfl) (@pa_nil _) rfl) (by decide) (by decide) rfl rfl) rfl (by first | exact .inl rfl | exact .inr rfl | assumption)) (@pss_cons _ _ _ _ _ (@ps_dput _ _ _ _ _ _ _ _ _ (hu_of hr) (@pe_fld _ _ _ _ _ (pv 0) rfl) (pv 1) (pv 3) rfl) (@pss_cons _ _ _ _ _ (@ps_expr _ _ _ _ (@pe_bm _ _ _ _ _ _ _ _ _ _ _ _ PySem.F.plainAttrs_list PySem.F.slot_list_append PySem.F.type_list_append (@mt_append _) (@pe_fld _ _ _ _ _ (pv 0) rfl) (@pa_cons _ _ _ _ _ (pv 2) (@pa_nil _) rfl) rfl rfl rfl rfl rfl) rfl) (@pss_cons _ _ _ _ _ (@ps_expr _ _ _ _ (@pe_bm _ _ _ _ _ _ _ _ _ _ _ _ PySem.F.plainAttrs_list PySem.F.slot_list_append PySem.F.type_list_append (@mt_append _) (@pe_fld _ _ _ _ _ (pv 0) rfl) (@pa_cons _ _ _ _ _ (pv 1) (@pa_nil _) rfl) rfl rfl rfl rfl rfl) rfl) (@pss_one _ _ _ (@ps_ret _ _ _ _ (pv 3))))))), ?_⟩
    try dsimp only [cxK]
    refine ⟨_, rfl, g.p, _, g.dx, _, _, rfl, h1, T.cl_Grove, T.na_Grove_levels, fl6_lv g, g.lv, _, rfl, .inl (SqL.of h2), ?_⟩
    rw [List.length_map]
    have ne1 : g.p ≠ g.nm := ne_of h1 h5 (by intro z; cases z)
    have ne2 : g.lv ≠ g.nm := ne_of h2 h5 (by intro z; cases z)
    have ne3 : g.pt ≠ g.nm := ne_of h3 h5 (by intro z; cases z)
    have ne4 : g.p ≠ g.lv := ne_of h1 h2 (by intro z; cases z)
    have ne5 : g.p ≠ g.pt := ne_of h1 h3 (by intro z; cases z)
    have vn : valV (kvOf 0 G) (kOf ps) = none := by
      rcases kv_look ps G 0 with ⟨i, q, e1, e2, _⟩ | ⟨e, _⟩
      · exact absurd e2 (new q (List.mem_of_getElem? e1))
      · exact e
    refine ⟨_, rfl, _, rfl, g.p, _, g.dx, _, _, rfl, h1, T.cl_Grove, T.na_Grove_numbers, fl6_nm g, _, rfl, g.nm, _, rfl, DPut.t (k := kOf ps) h5 (by rw [kOf_v]; exact ht) (by rw [kvOf_len]; exact lt_ln (by lia)), ?_⟩
    rw [putK_new _ vn]
    have e5 : kvOf 0 G ++ [(kOf ps, V.int (G.length : Int))] = kvOf 0 (G ++ [⟨ps, l⟩]) := by rw [kvOf_snoc, Nat.zero_add]
    rw [e5]
    generalize hH1 : upd H g.nm (.dT (kvOf 0 (G ++ [⟨ps, l⟩]))) = H1
    have k1 : ∀ b o, H b = some o → b ≠ g.nm → H1 b = some o := fun b o e n => by rw [← hH1, upd_ne n]; exact e
    have n1 : H1 g.nm = some (.dT (kvOf 0 (G ++ [⟨ps, l⟩]))) := by rw [← hH1]; exact upd_same
    refine ⟨_, rfl, g.p, _, g.dx, _, _, rfl, k1 _ _ h1 ne1, T.cl_Grove, T.na_Grove_levels, fl6_lv g, .inl ⟨rfl, _, SqL.of (k1 _ _ h2 ne2)⟩, _, rfl, g.lv, _, _, rfl, rfl, k1 _ _ h2 ne2, by rw [List.length_map]; exact lt_ln (by lia), ?_⟩
    generalize hH2 : upd H1 g.lv (.lst ((G.map fun q => V.int q.lev) ++ [.int l])) = H2
    have k2 : ∀ b o, H1 b = some o → b ≠ g.lv → H2 b = some o := fun b o e n => by rw [← hH2, upd_ne n]; exact e
    have n2 : H2 g.lv = some (.lst ((G ++ [(⟨ps, l⟩ : Sq)]).map fun q => V.int q.lev)) := by rw [← hH2, upd_same, List.map_append]; rfl
    have h3' := k2 _ _ (k1 _ _ h3 ne3) (Ne.symm h6)
    refine ⟨_, rfl, g.p, _, g.dx, _, _, rfl, k2 _ _ (k1 _ _ h1 ne1) ne4, T.cl_Grove, T.na_Grove_parts, fl6_pt g, .inl ⟨rfl, _, SqL.of h3'⟩, _, rfl, g.pt, _, _, rfl, rfl, h3', by rw [List.length_map, lt]; exact lt_ln (by lia), ?_⟩
    generalize hH3 : upd H2 g.pt (.lst (ts.map V.ref ++ [.ref t])) = H3
    have k3 : ∀ b o, H2 b = some o → b ≠ g.pt → H3 b = some o := fun b o e n => by rw [← hH3, upd_ne n]; exact e
    have n3 : H3 g.pt = some (.lst ((ts ++ [t]).map V.ref)) := by rw [← hH3, upd_same, List.map_append]; rfl
    have fr : Fr g H H3 := fun b o e m1 m2 m3 => k3 _ _ (k2 _ _ (k1 _ _ e m3) m1) m2
    have tp : ∀ (c : Addr) (xs : List V), H c = some (.tup xs) → H3 c = some (.tup xs) := fun c xs e => fr _ _ e (ne_of e h2 (by intro z; cases z)) (ne_of e h3 (by intro z; cases z)) (ne_of e h5 (by intro z; cases z))
    refine ⟨_, rfl, k H3 fr ⟨fr _ _ h1 ne4 ne5 ne1, k3 _ _ n2 h6, ⟨ts ++ [t], n3, Paired.snoc (PairedM.imp (fun c q z => tp c _ z) h4) (tp t _ ht)⟩, k3 _ _ (k2 _ _ n1 (Ne.symm ne2)) (Ne.symm ne3), h6⟩⟩
/-- G' goes on from G -/
structure Goes (G G' : Gv) (n : Nat) : Prop where
  ok : GOk G'
  pre : ∃ r, G' = G ++ r
  few : G'.length ≤ G.length + n
theorem Goes.refl {G : Gv} (h : GOk G) : Goes G G 0 := ⟨h, ⟨[], by simp⟩, Nat.le_refl _⟩
theorem Goes.trans {G G' G'' : Gv} {n m : Nat} (h : Goes G G' n) (h2 : Goes G' G'' m) : Goes G G'' (n + m) := by
  obtain ⟨r, e⟩ := h.pre
  obtain ⟨t, e2⟩ := h2.pre
  have f1 := h.few
  have f2 := h2.few
  exact ⟨h2.ok, ⟨r ++ t, by rw [e2, e, List.append_assoc]⟩, by lia⟩
theorem Goes.get {G G' : Gv} {n x : Nat} {q : Sq} (h : Goes G G' n) (e : G[x]? = some q) : G'[x]? = some q := by
  obtain ⟨r, e2⟩ := h.pre
  rw [e2]
  exact get_app e
theorem Goes.lev {G G' : Gv} {n x : Nat} {l : Int} (h : Goes G G' n) (e : LevAt G x l) : LevAt G' x l := by
  obtain ⟨q, e, z⟩ := e
  exact ⟨q, h.get e, z⟩
inductive SpLink (a : Ad) (vs : List V) (H : Hp) (Q : VK) : Prop
  | mk (g : GA) (G : Gv) (t : Addr) (x y z w : Nat) (l : Int) (_ : vs = [.ref g.p, .ref t]) (_ : GroveAt a H g G) (_ : GOk G) (_ : H t = some (.tup [.int x, .int y, .int z, .int w])) (_ : (LevAt G x l ∧ LevAt G y l ∧ LevAt G z l ∧ LevAt G w l)) (_ : l ≤ 47) (_ : G.length < 9000000) (_ : ∀ (n : Nat) (G' : Gv) (H' : Hp), Fr g H H' → GroveAt a H' g G' → Goes G G' 1 → G'[n]? = some ⟨[(x : Int), (y : Int), (z : Int), (w : Int)], l + 1⟩ → Q (.int n) H') : SpLink a vs H Q
def spLink (a : Ad) : Sp := fun vs H Q _ => SpLink a vs H Q
theorem ok_link {f : Addr} {fd : FuncData} (F : Fun K "linked" "Grove.linked" s_Grove_linked f fd) (T : Top K mg a) (M_Grove_kept : CalM P w K mg base CX0 1 a.c_Grove "kept" p_Grove_kept (spKept a)) : FnOk P w K mg base CX0 2 f fd p_Grove_linked (spLink a) := by
  refine F.ok sc_Grove_linked (fun vs H Q E h => ?_) (fun cdv A outer s H vs Q E hr h => ?_)
  · obtain ⟨g, G, t, x, y, z, w, l, rfl, _⟩ := h
    rfl
  · obtain ⟨g, G, t, x, y, z, w, l, rfl, hg, ok, ht, ⟨hx, hy, hz, hw⟩, h47, few, k⟩ := h
    have hg0 := hg
    obtain ⟨h1, h2, ⟨ts, h3, h4⟩, h5, h6⟩ := hg
    refine ⟨_, (@pss_cons _ _ _ _ _ (@ps_set _ _ (2) _ _ _ _ sc_Grove_linked.nd rfl (Or.inl rfl) (@pe_dget1 _ _ _ _ _ _ _ (hu_of hr) (@pe_fld _ _ _ _ _ (pv 0) rfl) (pv 1) ⟨rfl, rfl, rfl, rfl⟩) rfl (by first | exact .inl rfl | exact .inr rfl | assumption)) (@pss_cons _ _ _ _ _ (@ps_if _ _ _ _ _ _ _ _ (@pt_cmpR _ _ _ _ _ _ _ _ (@op_isN _) (pv 2) (@pe_non _ _ _) (nomark _)) (@pss_one _ _ _ (@ps_ret _ _ _ _ (@pe_calm _ _ _ _ _ _ _ _ _ _ _ _ _ _ _ _ (pv 0) M_Grove_kept (rm hr) pass0 (@pa_cons _ _ _ _ _ (pv 1) (@pa_op _ _ _ _ _ _ _ _ _ _ (@op_add _) (@pe_ix _ _ _ _ _ _ _ (@ix_list _) (@pe_fld _ _ _ _ _ (pv 0) rfl) (@pe_ix _ _ _ _ _ _ _ (@ix_tup _) (pv 1) (@pe_int _ _ _ _) (fun _ _ => rfl)) (fun _ _ => rfl)) (@pe_int _ _ _ _) (@pa_nil _)) rfl) rfl rfl rfl))) (@pss_nil _)) (@pss_one _ _ _ (@ps_ret _ _ _ _ (pv 2))))), ?_⟩
    try dsimp only [cxK]
    refine ⟨_, rfl, g.p, _, g.dx, _, _, rfl, h1, T.cl_Grove, T.na_Grove_numbers, fl6_nm g, g.nm, rfl, .inr ⟨_, .inl h5⟩, _, rfl, _, DGet.t (k := kOf [(x : Int), (y : Int), (z : Int), (w : Int)]) h5 (by rw [kOf_v]; exact ht), ?_⟩
    rcases kv_look [(x : Int), (y : Int), (z : Int), (w : Int)] G 0 with ⟨i, q, e1, e2, e3⟩ | ⟨e, new⟩
    · rw [e3]
      refine ⟨_, rfl, rfl, _, rfl, iteF ⟨_, rfl, ?_⟩⟩
      rw [Nat.zero_add]
      refine k i G H (Fr.refl g H) hg0 ⟨ok, ⟨[], by simp⟩, by lia⟩ ?_
      have h8 : 8 ≤ i := by
        refine Nat.le_of_not_lt fun z' => ?_
        rw [ok.leaf i z'] at e1
        cases e1
        cases e2
      obtain ⟨x', y', z', w', p1, ⟨lx, _⟩, _⟩ := ok.node i q e1 h8
      have exx : x' = x := by
        rw [p1] at e2
        injection e2 with e2 _
        exact Int.ofNat.inj e2
      rw [exx] at lx
      obtain ⟨qa, a1, a2⟩ := lx
      obtain ⟨qb, b1, b2⟩ := hx
      rw [a1] at b1
      cases b1
      have el : q.lev = l + 1 := by lia
      rw [e1]
      cases q with
      | mk pp ll => cases e2; cases el; rfl
    · rw [e]
      refine ⟨_, rfl, rfl, _, rfl, iteT ?_⟩
      obtain ⟨q, e1, e2⟩ := id hx
      refine ⟨_, rfl, g.p, g.dx, _, rfl, h1, no_kept g, _, rfl, _, rfl, g.p, _, g.dx, _, _, rfl, h1, T.cl_Grove, T.na_Grove_levels, fl6_lv g, _, rfl, t, _, 0, .int x, rfl, rfl, SqT.of ht, atI_nat (j := 0) rfl, g.lv, _, (x : Int), .int q.lev, rfl, rfl, SqL.of h2, atI_nat (by rw [List.getElem?_map, e1]; rfl), _, _, rfl, rfl, ?_⟩
      refine ⟨g, G, t, [(x : Int), (y : Int), (z : Int), (w : Int)], l + 1, by rw [← e2]; rfl, hg0, ht, new, few, fun H' fr hg' => ?_⟩
      refine k G.length _ H' fr hg' ⟨ok.snoc hx hy hz hw h47 new, ⟨_, rfl⟩, by rw [List.length_append]; exact Nat.le_refl _⟩ ?_
      rw [List.getElem?_append_right (Nat.le_refl _), Nat.sub_self]
      rfl
/-! ### questions -/
inductive SpChk (a : Ad) (vs : List V) (H : Hp) (Q : VK) : Prop
  | mk (g : GA) (G : Gv) (i : Nat) (_ : vs = [.ref g.p, .int i]) (_ : GroveAt a H g G) (_ : i < G.length) (_ : Q .non H) : SpChk a vs H Q
def spChk (a : Ad) : Sp := fun vs H Q _ => SpChk a vs H Q
theorem ok_chk {f : Addr} {fd : FuncData} (F : Fun K "check_square" "Grove.check_square" s_Grove_check_square f fd) (T : Top K mg a) (C_is_whole : Cal P w K mg base CX0 1 "is_whole" p_is_whole spIW) : FnOk P w K mg base CX0 2 f fd p_Grove_check_square (spChk a) := by
  refine F.ok sc_Grove_check_square (fun vs H Q E h => ?_) (fun cdv A outer s H vs Q E hr h => ?_)
  · obtain ⟨g, G, i, rfl, _⟩ := h
    rfl
  · obtain ⟨g, G, i, rfl, hg, hi, k⟩ := h
    refine ⟨_, (@pss_one _ _ _ (@ps_if _ _ _ _ _ _ _ _ (@PW.pt _ _ _ (@pw_or _ _ _ _ _ _ _ (@pt_not _ _ _ _ (@pt_val _ _ _ (@pe_cal _ _ _ _ _ _ _ _ _ _ _ _ C_is_whole (rm hr) rfl pass0 (@pa_cons _ _ _ _ _ (pv 1) (@pa_nil _) rfl) (by decide) rfl rfl) (by intro _ ; rfl))) (@pw_or1 _ _ _ _ (@pt_not _ _ _ _ (@pt_chain _ _ _ _ _ _ _ _ _ _ _ _ (@op_le _) (@op_lt _) (@pe_int _ _ _ _) (pv 1) (@pe_callB _ _ _ _ _ _ _ _ _ (@call_len_seq _) rfl T.b_len PySem.boot_len (@pa_cons _ _ _ _ _ (@pe_fld _ _ _ _ _ (pv 0) rfl) (@pa_nil _) rfl) (by decide) (by decide) rfl rfl) (by with_unfolding_all rfl)))))) (@pss_one _ _ _ (@ps_never _ _)) (@pss_nil _))), ?_⟩
    try dsimp only [cxK]
    refine ⟨_, rfl, _, rfl, true, rfl, iteF ⟨_, rfl, _, _, rfl, rfl, _, rfl, ?_⟩⟩
    rw [decide_eq_true (by lia : (0 : Int) ≤ (i : Int))]
    refine iteT ⟨_, rfl, g.p, _, g.dx, _, _, rfl, hg.hp, T.cl_Grove, T.na_Grove_levels, fl6_lv g, g.lv, _, rfl, .inl (SqL.of hg.lv), _, _, rfl, rfl, _, rfl, ?_⟩
    rw [List.length_map, decide_eq_true (by lia : (i : Int) < (G.length : Int))]
    exact iteF k
inductive SpLeaf (a : Ad) (vs : List V) (H : Hp) (Q : VK) : Prop
  | mk (p : Addr) (i : Int) (_ : vs = [.ref p, .int i]) (_ : 0 ≤ i) (_ : i < 8) (_ : Q (.int i) H) : SpLeaf a vs H Q
def spLeaf (a : Ad) : Sp := fun vs H Q _ => SpLeaf a vs H Q
theorem ok_leaf {f : Addr} {fd : FuncData} (F : Fun K "leaf" "Grove.leaf" s_Grove_leaf f fd) (T : Top K mg a) (C_is_state : Cal P w K mg base CX0 2 "is_state" p_is_state spIS) : FnOk P w K mg base CX0 3 f fd p_Grove_leaf (spLeaf a) := by
  refine F.ok sc_Grove_leaf (fun vs H Q E h => ?_) (fun cdv A outer s H vs Q E hr h => ?_)
  · obtain ⟨g, i, rfl, _⟩ := h
    rfl
  · obtain ⟨g, i, rfl, h0, h1, k⟩ := h
    exact ⟨_, (@pss_cons _ _ _ _ _ (@ps_if _ _ _ _ _ _ _ _ (@pt_not _ _ _ _ (@pt_val _ _ _ (@pe_cal _ _ _ _ _ _ _ _ _ _ _ _ C_is_state (rm hr) rfl pass0 (@pa_cons _ _ _ _ _ (pv 1) (@pa_nil _) rfl) (by decide) rfl rfl) (by intro _ ; rfl))) (@pss_one _ _ _ (@ps_never _ _)) (@pss_nil _)) (@pss_one _ _ _ (@ps_ret _ _ _ _ (pv 1)))), _, rfl, i, rfl, h0, h1, true, rfl, iteF ⟨_, rfl, k⟩⟩
inductive SpLev (a : Ad) (vs : List V) (H : Hp) (Q : VK) : Prop
  | mk (g : GA) (G : Gv) (i : Nat) (q : Sq) (_ : vs = [.ref g.p, .int i]) (_ : GroveAt a H g G) (_ : G[i]? = some q) (_ : Q (.int q.lev) H) : SpLev a vs H Q
def spLev (a : Ad) : Sp := fun vs H Q _ => SpLev a vs H Q
theorem ok_lev {f : Addr} {fd : FuncData} (F : Fun K "level_of" "Grove.level_of" s_Grove_level_of f fd) (T : Top K mg a) (M_Grove_check_square : CalM P w K mg base CX0 2 a.c_Grove "check_square" p_Grove_check_square (spChk a)) : FnOk P w K mg base CX0 3 f fd p_Grove_level_of (spLev a) := by
  refine F.ok sc_Grove_level_of (fun vs H Q E h => ?_) (fun cdv A outer s H vs Q E hr h => ?_)
  · obtain ⟨g, G, i, q, rfl, _⟩ := h
    rfl
  · obtain ⟨g, G, i, q, rfl, hg, hi, k⟩ := h
    refine ⟨_, (@pss_cons _ _ _ _ _ (@ps_expr _ _ _ _ (@pe_calm _ _ _ _ _ _ _ _ _ _ _ _ _ _ _ _ (pv 0) M_Grove_check_square (rm hr) pass0 (@pa_cons _ _ _ _ _ (pv 1) (@pa_nil _) rfl) rfl rfl rfl) rfl) (@pss_one _ _ _ (@ps_ret _ _ _ _ (@pe_ix _ _ _ _ _ _ _ (@ix_list _) (@pe_fld _ _ _ _ _ (pv 0) rfl) (pv 1) (fun _ _ => rfl))))), ?_⟩
    try dsimp only [cxK]
    refine ⟨_, rfl, g.p, g.dx, _, rfl, hg.hp, no_check g, _, rfl, g, G, i, rfl, hg, (List.getElem?_eq_some_iff.mp hi).1, ?_⟩
    exact ⟨_, rfl, g.p, _, g.dx, _, _, rfl, hg.hp, T.cl_Grove, T.na_Grove_levels, fl6_lv g, _, rfl, g.lv, _, (i : Int), .int q.lev, rfl, rfl, SqL.of hg.lv, atI_nat (by rw [List.getElem?_map, hi]; rfl), k⟩
inductive SpQua (a : Ad) (vs : List V) (H : Hp) (Q : VK) : Prop
  | mk (g : GA) (G : Gv) (i : Nat) (q : Sq) (_ : vs = [.ref g.p, .int i]) (_ : GroveAt a H g G) (_ : G[i]? = some q) (_ : q.lev ≠ 0) (_ : ∀ t, H t = some (.tup (q.parts.map V.int)) → Q (.ref t) H) : SpQua a vs H Q
def spQua (a : Ad) : Sp := fun vs H Q _ => SpQua a vs H Q
theorem ok_qua {f : Addr} {fd : FuncData} (F : Fun K "quarters" "Grove.quarters" s_Grove_quarters f fd) (T : Top K mg a) (M_Grove_level_of : CalM P w K mg base CX0 3 a.c_Grove "level_of" p_Grove_level_of (spLev a)) : FnOk P w K mg base CX0 4 f fd p_Grove_quarters (spQua a) := by
  refine F.ok sc_Grove_quarters (fun vs H Q E h => ?_) (fun cdv A outer s H vs Q E hr h => ?_)
  · obtain ⟨g, G, i, q, rfl, _⟩ := h
    rfl
  · obtain ⟨g, G, i, q, rfl, hg, hi, h0, k⟩ := h
    refine ⟨_, (@pss_cons _ _ _ _ _ (@ps_if _ _ _ _ _ _ _ _ (@pt_cmpR _ _ _ _ _ _ _ _ (@op_eq _) (@pe_calm _ _ _ _ _ _ _ _ _ _ _ _ _ _ _ _ (pv 0) M_Grove_level_of (rm hr) pass0 (@pa_cons _ _ _ _ _ (pv 1) (@pa_nil _) rfl) rfl rfl rfl) (@pe_int _ _ _ _) (nomark _)) (@pss_one _ _ _ (@ps_never _ _)) (@pss_nil _)) (@pss_one _ _ _ (@ps_ret _ _ _ _ (@pe_ix _ _ _ _ _ _ _ (@ix_list _) (@pe_fld _ _ _ _ _ (pv 0) rfl) (pv 1) (fun _ _ => rfl))))), ?_⟩
    try dsimp only [cxK]
    refine ⟨_, rfl, g.p, g.dx, _, rfl, hg.hp, no_levelOf g, _, rfl, g, G, i, q, rfl, hg, hi, rfl, _, rfl, ?_⟩
    rw [decide_eq_false (by intro z; injection z with z; exact h0 z)]
    obtain ⟨ts, h3, h4⟩ := hg.pt
    obtain ⟨t, et, ht⟩ := PairedM.get h4 hi
    exact iteF ⟨_, rfl, g.p, _, g.dx, _, _, rfl, hg.hp, T.cl_Grove, T.na_Grove_parts, fl6_pt g, _, rfl, g.pt, _, (i : Int), .ref t, rfl, rfl, SqL.of h3, atI_nat (by rw [List.getElem?_map, et]; rfl), k t ht⟩
inductive SpSta (a : Ad) (vs : List V) (H : Hp) (Q : VK) : Prop
  | mk (g : GA) (G : Gv) (i : Nat) (q : Sq) (_ : vs = [.ref g.p, .int i]) (_ : GroveAt a H g G) (_ : G[i]? = some q) (_ : q.lev = 0) (_ : Q (.int i) H) : SpSta a vs H Q
def spSta (a : Ad) : Sp := fun vs H Q _ => SpSta a vs H Q
theorem ok_sta {f : Addr} {fd : FuncData} (F : Fun K "state_of" "Grove.state_of" s_Grove_state_of f fd) (T : Top K mg a) (M_Grove_level_of : CalM P w K mg base CX0 3 a.c_Grove "level_of" p_Grove_level_of (spLev a)) : FnOk P w K mg base CX0 4 f fd p_Grove_state_of (spSta a) := by
  refine F.ok sc_Grove_state_of (fun vs H Q E h => ?_) (fun cdv A outer s H vs Q E hr h => ?_)
  · obtain ⟨g, G, i, q, rfl, _⟩ := h
    rfl
  · obtain ⟨g, G, i, q, rfl, hg, hi, h0, k⟩ := h
    refine ⟨_, (@pss_cons _ _ _ _ _ (@ps_if _ _ _ _ _ _ _ _ (@pt_cmpR _ _ _ _ _ _ _ _ (@op_ne _) (@pe_calm _ _ _ _ _ _ _ _ _ _ _ _ _ _ _ _ (pv 0) M_Grove_level_of (rm hr) pass0 (@pa_cons _ _ _ _ _ (pv 1) (@pa_nil _) rfl) rfl rfl rfl) (@pe_int _ _ _ _) (nomark _)) (@pss_one _ _ _ (@ps_never _ _)) (@pss_nil _)) (@pss_one _ _ _ (@ps_ret _ _ _ _ (pv 1)))), ?_⟩
    try dsimp only [cxK]
    refine ⟨_, rfl, g.p, g.dx, _, rfl, hg.hp, no_levelOf g, _, rfl, g, G, i, q, rfl, hg, hi, rfl, _, rfl, ?_⟩
    rw [h0]
    exact iteNS rfl ⟨_, rfl, k⟩
end
end J

set_option maxHeartbeats 200000
set_option Elab.async false
set_option linter.all false
set_option maxRecDepth 100000
set_option maxHeartbeats 1000000
/-! The grove: four joined, solid squares. -/
namespace J
open PySem L2
/-- the square n is solid: of level l, of state s -/
def Sol (G : Gv) (s : Nat) : Nat → Nat → Prop
  | 0, n => n = s
  | l + 1, n => ∃ m : Nat, Sol G s l m ∧ G[n]? = some ⟨[(m : Int), (m : Int), (m : Int), (m : Int)], (l : Int) + 1⟩
theorem Sol.lev {G : Gv} (h : GOk G) {s : Nat} (hs : s < 8) : ∀ {l n : Nat}, Sol G s l n → LevAt G n l
  | 0, n, e => by
    have e : n = s := e
    subst e
    exact ⟨_, h.leaf n hs, rfl⟩
  | l + 1, n, e => by
    obtain ⟨m, _, e⟩ := e
    exact ⟨_, e, rfl⟩
theorem Sol.goes {G G' : Gv} {k : Nat} (h : Goes G G' k) {s : Nat} : ∀ {l n : Nat}, Sol G s l n → Sol G' s l n
  | 0, n, e => e
  | l + 1, n, e => by
    obtain ⟨m, e1, e2⟩ := e
    exact ⟨m, Sol.goes h e1, h.get e2⟩
section
variable {P : Program} {w : World} {K : PySem.W.Frag} {mg : Str → Option Value} {base : Heap} {a : Ad}
inductive SpJoin (a : Ad) (vs : List V) (H : Hp) (Q : VK) : Prop
  | mk (g : GA) (G : Gv) (x y z w : Nat) (l : Int) (_ : vs = [.ref g.p, .int x, .int y, .int z, .int w]) (_ : GroveAt a H g G) (_ : GOk G) (_ : (LevAt G x l ∧ LevAt G y l ∧ LevAt G z l ∧ LevAt G w l)) (_ : l ≤ 47) (_ : G.length < 9000000) (_ : ∀ (n : Nat) (G' : Gv) (H' : Hp), Fr g H H' → GroveAt a H' g G' → Goes G G' 1 → G'[n]? = some ⟨[(x : Int), (y : Int), (z : Int), (w : Int)], l + 1⟩ → Q (.int n) H') : SpJoin a vs H Q
def spJoin (a : Ad) : Sp := fun vs H Q _ => SpJoin a vs H Q
theorem ok_join {f : Addr} {fd : FuncData} (F : Fun K "joined" "Grove.joined" s_Grove_joined f fd) (T : Top K mg a) (M_Grove_check_square : CalM P w K mg base CX0 2 a.c_Grove "check_square" p_Grove_check_square (spChk a)) (M_Grove_linked : CalM P w K mg base CX0 2 a.c_Grove "linked" p_Grove_linked (spLink a)) : FnOk P w K mg base CX0 4 f fd p_Grove_joined (spJoin a) := by
  refine F.ok sc_Grove_joined (fun vs H Q E h => ?_) (fun cdv A outer s H vs Q E hr h => ?_)
  · obtain ⟨g, G, x, y, z, w, l, rfl, _⟩ := h
    rfl
  · obtain ⟨g, G, x, y, z, w, l, rfl, hg, ok, ⟨hx, hy, hz, hw⟩, h47, few, k⟩ := h
    refine ⟨_, (@pss_cons _ _ _ _ _ (@ps_for _ _ _ _ _ _ _ _ PassesOwn.never rfl (@pi_tup _ _ _ _ (@pe_tup _ _ _ _ _ (@pa_cons _ _ _ _ _ (pv 1) (@pa_cons _ _ _ _ _ (pv 2) (@pa_cons _ _ _ _ _ (pv 3) (@pa_cons _ _ _ _ _ (pv 4) (@pa_nil _) rfl) rfl) rfl) rfl))) (@pg_name _ _ (5) _ sc_Grove_joined.nd rfl (Or.inl rfl) (by first | exact .inl rfl | exact .inr rfl | assumption)) (@pss_one _ _ _ (@ps_expr _ _ _ _ (@pe_calm _ _ _ _ _ _ _ _ _ _ _ _ _ _ _ _ (pv 0) M_Grove_check_square (rm hr) pass0 (@pa_cons _ _ _ _ _ (pv 5) (@pa_nil _) rfl) rfl rfl rfl) rfl)) (by intro _ ; rfl)) (@pss_cons _ _ _ _ _ (@ps_set _ _ (6) _ _ _ _ sc_Grove_joined.nd rfl (Or.inr rfl) (@pe_ix _ _ _ _ _ _ _ (@ix_list _) (@pe_fld _ _ _ _ _ (pv 0) rfl) (pv 1) (fun _ _ => rfl)) rfl (by first | exact .inl rfl | exact .inr rfl | assumption)) (@pss_cons _ _ _ _ _ (@ps_if _ _ _ _ _ _ _ _ (@PW.pt _ _ _ (@pw_or _ _ _ _ _ _ _ (@pt_cmpR _ _ _ _ _ _ _ _ (@op_eq _) (pv 6) (@pe_gint _ _ _ _ rfl T.k_TOP_LEVEL (by decide)) (nomark _)) (@pw_or1 _ _ _ _ (@pt_val _ _ _ (@pe_callB _ _ _ _ _ _ _ _ _ (@call_any _ rfl) rfl T.b_any PyProof.Rows.boot_any (@pa_cons _ _ _ _ _ (@pe_comp _ _ _ _ _ _ _ _ _ _ _ _ _ _ rfl (@CScope.of _ ((defScope s_Grove_joined)) (n_Grove_joined) _ (["square", "self", "level"]) (1) ([0, 6]) rfl rfl (by decide +kernel)) (@pi_tup _ _ _ _ (@pe_tup _ _ _ _ _ (@pa_cons _ _ _ _ _ (pv 2) (@pa_cons _ _ _ _ _ (pv 3) (@pa_cons _ _ _ _ _ (pv 4) (@pa_nil _) rfl) rfl) rfl))) (fun _ _ _ => (@pgc_name _ _ _ _ _ _ _ _ (0) (by decide +kernel) rfl rfl)) (fun _ _ _ => (@pts_nil _)) (fun _ _ _ => (@pe_cmpR _ _ _ _ _ _ _ _ (@op_ne _) (@pe_ix _ _ _ _ _ _ _ (@ixc_list _ (K) rfl) (@pe_fldK _ (K) _ _ _ _ rfl (pv 1) rfl) (pv 0) (fun _ _ => rfl)) (pv 2) (nomark _))) (by intro _ ; rfl)) (@pa_nil _) rfl) (by decide) (by decide) rfl rfl) (by intro _ ; rfl))))) (@pss_one _ _ _ (@ps_never _ _)) (@pss_nil _)) (@pss_one _ _ _ (@ps_ret _ _ _ _ (@pe_calm _ _ _ _ _ _ _ _ _ _ _ _ _ _ _ _ (pv 0) M_Grove_linked (rm hr) pass0 (@pa_tup _ _ _ _ _ _ _ (@pa_cons _ _ _ _ _ (pv 1) (@pa_cons _ _ _ _ _ (pv 2) (@pa_cons _ _ _ _ _ (pv 3) (@pa_cons _ _ _ _ _ (pv 4) (@pa_nil _) rfl) rfl) rfl) rfl) (@pa_nil _)) rfl rfl rfl)))))), ?_⟩
    try dsimp only [cxK]
    refine ⟨_, rfl, _, rfl, _, rfl, _, rfl, (by show 4 ≤ sizeLine; decide), fun t1 ht1 => ⟨t1, rfl, ⟨_, SqT.of upd_same⟩, ?_⟩⟩
    have s1 := same_up (o := .tup [.int x, .int y, .int z, .int w]) ht1
    have ht1' : upd H t1 (.tup [.int x, .int y, .int z, .int w]) t1 = some (.tup [.int x, .int y, .int z, .int w]) := upd_same
    generalize upd H t1 (.tup [.int x, .int y, .int z, .int w]) = H1 at s1 ht1' ⊢
    have hg1 := hg.same s1
    have mem : ∀ (i : Nat) v, [V.int (x : Int), V.int (y : Int), V.int (z : Int), V.int (w : Int)][i]? = some v → ∃ n : Nat, v = .int n ∧ n < G.length := fun i v e => by
      have := List.mem_of_getElem? e
      simp only [List.mem_cons, List.not_mem_nil, or_false] at this
      rcases this with rfl | rfl | rfl | rfl
      · exact ⟨x, rfl, hx.lt⟩
      · exact ⟨y, rfl, hy.lt⟩
      · exact ⟨z, rfl, hz.lt⟩
      · exact ⟨w, rfl, hw.lt⟩
    refine for_tup (xs := [.int x, .int y, .int z, .int w]) (fun i σ H2 => H1 = H2 ∧ ∃ u5 : Option V, σ = [some (.ref g.p), some (.int x), some (.int y), some (.int z), some (.int w), u5, none]) ⟨rfl, none, rfl⟩ (fun i σ H2 _ q => q.1 ▸ SqT.of ht1') ?_ ?_
    · rintro i v σ H2 ev ⟨rfl, u5, rfl⟩
      obtain ⟨n, rfl, hn⟩ := mem i v ev
      exact ⟨_, rfl, g.p, g.dx, _, rfl, hg1.hp, no_check g, _, rfl, g, G, n, rfl, hg1, hn, rfl, _, rfl⟩
    · rintro σ H2 ⟨rfl, u5, rfl⟩
      obtain ⟨qx, ex, lx⟩ := id hx
      refine ⟨_, rfl, g.p, _, g.dx, _, _, rfl, hg1.hp, T.cl_Grove, T.na_Grove_levels, fl6_lv g, _, rfl, g.lv, _, (x : Int), .int qx.lev, rfl, rfl, SqL.of hg1.lv, atI_nat (by rw [List.getElem?_map, ex]; rfl), ?_⟩
      rw [lx]
      refine ⟨_, rfl, rfl, _, rfl, ?_⟩
      rw [decide_eq_false (by intro z; injection z with z; lia)]
      refine iteF ⟨_, rfl, _, rfl, _, rfl, (by show 3 ≤ sizeLine; decide), fun t2 ht2 => ⟨t2, rfl, ⟨_, SqT.of upd_same⟩, ?_⟩⟩
      have s2 := same_up (o := .tup [.int y, .int z, .int w]) ht2
      have ht2' : upd H1 t2 (.tup [.int y, .int z, .int w]) t2 = some (.tup [.int y, .int z, .int w]) := upd_same
      generalize upd H1 t2 (.tup [.int y, .int z, .int w]) = H2 at s2 ht2' ⊢
      have hg2 := hg1.same s2
      have mem2 : ∀ (i : Nat) v, [V.int (y : Int), V.int (z : Int), V.int (w : Int)][i]? = some v → ∃ (n : Nat) (q : Sq), v = .int n ∧ G[n]? = some q ∧ q.lev = l := fun i v e => by
        have := List.mem_of_getElem? e
        simp only [List.mem_cons, List.not_mem_nil, or_false] at this
        rcases this with rfl | rfl | rfl
        · obtain ⟨q, e1, e2⟩ := hy; exact ⟨y, q, rfl, e1, e2⟩
        · obtain ⟨q, e1, e2⟩ := hz; exact ⟨z, q, rfl, e1, e2⟩
        · obtain ⟨q, e1, e2⟩ := hw; exact ⟨w, q, rfl, e1, e2⟩
      refine blk_tup (xs := [.int y, .int z, .int w]) (fun i acc H4 => H2 = H4 ∧ acc = (List.replicate i false).map V.bl ∧ i ≤ 3) ⟨rfl, rfl, by lia⟩ (fun i acc H4 _ z => z.1 ▸ SqT.of ht2') ?_ ?_
      · rintro i v acc H4 ev ⟨rfl, rfl, h3⟩
        obtain ⟨n, q, rfl, en, lq⟩ := mem2 i v ev
        have hi : i < 3 := (List.getElem?_eq_some_iff.mp ev).1
        refine ⟨⟨[some (.int n)], rfl, rfl⟩, by rw [List.length_map, List.length_replicate]; exact lt_ln (by lia), tyes ⟨_, rfl, g.p, _, g.dx, _, _, rfl, hg2.hp, T.cl_Grove, T.na_Grove_levels, fl6_lv g, _, rfl, g.lv, _, (n : Int), .int q.lev, rfl, rfl, SqL.of hg2.lv, atI_nat (by rw [List.getElem?_map, en]; rfl), _, rfl, rfl, rfl, ?_, hi⟩⟩
        rw [lq, decide_eq_true rfl, List.replicate_succ', List.map_append]
        rfl
      · rintro acc H4 ⟨rfl, rfl, _⟩ q hq
        refine ⟨q, List.replicate 3 false, rfl, SqL.of upd_same, _, rfl, iteF ?_⟩
        have s3 := same_up (o := .lst ((List.replicate 3 false).map V.bl)) hq
        refine ⟨_, rfl, g.p, g.dx, _, rfl, (hg2.same s3).hp, no_linked g, _, rfl, _, rfl, _, rfl, _, rfl, (by show 4 ≤ sizeLine; decide), fun t4 ht4 => ?_⟩
        have s4 := s3.trans (same_up (o := .tup [.int x, .int y, .int z, .int w]) ht4)
        exact ⟨g, G, t4, x, y, z, w, l, rfl, hg2.same s4, ok, upd_same, ⟨hx, hy, hz, hw⟩, h47, few, fun n G' H' fr hg' go e => k n G' H' ((Same.fr (s1.trans (s2.trans s4))).trans fr) hg' go e⟩
inductive SpSolid (a : Ad) (vs : List V) (H : Hp) (Q : VK) : Prop
  | mk (g : GA) (G : Gv) (l s : Nat) (_ : vs = [.ref g.p, .int l, .int s]) (_ : GroveAt a H g G) (_ : GOk G) (_ : l ≤ 48) (_ : s < 8) (_ : G.length < 8000000) (_ : ∀ (n : Nat) (G' : Gv) (H' : Hp), Fr g H H' → GroveAt a H' g G' → Goes G G' l → Sol G' s l n → Q (.int n) H') : SpSolid a vs H Q
def spSolid (a : Ad) : Sp := fun vs H Q _ => SpSolid a vs H Q
theorem ok_solid {f : Addr} {fd : FuncData} (F : Fun K "solid" "Grove.solid" s_Grove_solid f fd) (T : Top K mg a) (C_is_whole : Cal P w K mg base CX0 1 "is_whole" p_is_whole spIW) (M_Grove_leaf : CalM P w K mg base CX0 3 a.c_Grove "leaf" p_Grove_leaf (spLeaf a)) (M_Grove_linked : CalM P w K mg base CX0 2 a.c_Grove "linked" p_Grove_linked (spLink a)) : FnOk P w K mg base CX0 4 f fd p_Grove_solid (spSolid a) := by
  refine F.ok sc_Grove_solid (fun vs H Q E h => ?_) (fun cdv A outer s H vs Q E hr h => ?_)
  · obtain ⟨g, G, l, s, rfl, _⟩ := h
    rfl
  · obtain ⟨g, G, l, st, rfl, hg, ok, h48, h8, few, k⟩ := h
    refine ⟨_, (@pss_cons _ _ _ _ _ (@ps_if _ _ _ _ _ _ _ _ (@PW.pt _ _ _ (@pw_or _ _ _ _ _ _ _ (@pt_not _ _ _ _ (@pt_val _ _ _ (@pe_cal _ _ _ _ _ _ _ _ _ _ _ _ C_is_whole (rm hr) rfl pass0 (@pa_cons _ _ _ _ _ (pv 1) (@pa_nil _) rfl) (by decide) rfl rfl) (by intro _ ; rfl))) (@pw_or1 _ _ _ _ (@pt_not _ _ _ _ (@pt_chain _ _ _ _ _ _ _ _ _ _ _ _ (@op_le _) (@op_le _) (@pe_int _ _ _ _) (pv 1) (@pe_gint _ _ _ _ rfl T.k_TOP_LEVEL (by decide)) (by with_unfolding_all rfl)))))) (@pss_one _ _ _ (@ps_never _ _)) (@pss_nil _)) (@pss_cons _ _ _ _ _ (@ps_set _ _ (3) _ _ _ _ sc_Grove_solid.nd rfl (Or.inl rfl) (@pe_calm _ _ _ _ _ _ _ _ _ _ _ _ _ _ _ _ (pv 0) M_Grove_leaf (rm hr) pass0 (@pa_cons _ _ _ _ _ (pv 2) (@pa_nil _) rfl) rfl rfl rfl) rfl (by first | exact .inl rfl | exact .inr rfl | assumption)) (@pss_cons _ _ _ _ _ (@ps_for _ _ _ _ _ _ _ _ PassesOwn.never rfl (@pi_range1 _ _ _ _ _ _ rfl T.b_range (@pa_cons _ _ _ _ _ (pv 1) (@pa_nil _) rfl) rfl) (@pg_name _ _ (4) _ sc_Grove_solid.nd rfl (Or.inl rfl) (by first | exact .inl rfl | exact .inr rfl | assumption)) (@pss_one _ _ _ (@ps_set _ _ (3) _ _ _ _ sc_Grove_solid.nd rfl (Or.inl rfl) (@pe_calm _ _ _ _ _ _ _ _ _ _ _ _ _ _ _ _ (pv 0) M_Grove_linked (rm hr) pass0 (@pa_tup _ _ _ _ _ _ _ (@pa_cons _ _ _ _ _ (pv 3) (@pa_cons _ _ _ _ _ (pv 3) (@pa_cons _ _ _ _ _ (pv 3) (@pa_cons _ _ _ _ _ (pv 3) (@pa_nil _) rfl) rfl) rfl) rfl) (@pa_nil _)) rfl rfl rfl) rfl (by first | exact .inl rfl | exact .inr rfl | assumption))) (by intro _ ; rfl)) (@pss_one _ _ _ (@ps_ret _ _ _ _ (pv 3)))))), ?_⟩
    try dsimp only [cxK]
    refine ⟨_, rfl, _, rfl, true, rfl, iteF ⟨_, rfl, _, _, rfl, rfl, _, rfl, ?_⟩⟩
    rw [decide_eq_true (by lia : (0 : Int) ≤ (l : Int))]
    refine iteT ⟨_, _, rfl, rfl, _, rfl, ?_⟩
    rw [decide_eq_true (by lia : (l : Int) ≤ (48 : Int))]
    refine iteF ⟨_, rfl, g.p, g.dx, _, rfl, hg.hp, no_leaf g, _, rfl, g.p, (st : Int), rfl, by lia, by lia, ?_⟩
    refine ⟨_, rfl, _, rfl, by lia, by lia, ?_⟩
    rw [Int.toNat_natCast]
    refine for_range (n := l) (fun i σ H2 => ∃ (G' : Gv) (m : Nat) (u4 : Option V), σ = [some (.ref g.p), some (.int l), some (.int st), some (.int m), u4] ∧ Fr g H H2 ∧ GroveAt a H2 g G' ∧ Goes G G' i ∧ Sol G' st i m) ⟨G, st, none, rfl, Fr.refl g H, hg, Goes.refl ok, rfl⟩ ?_ ?_
    · rintro i σ H2 hi ⟨G', m, u4, rfl, fr, hg2, go, so⟩
      have lf := go.few
      have lm := Sol.lev go.ok h8 so
      refine ⟨_, rfl, g.p, g.dx, _, rfl, hg2.hp, no_linked g, _, rfl, _, rfl, _, rfl, _, rfl, (by show 4 ≤ sizeLine; decide), fun t ht => ?_⟩
      have s3 := same_up (o := .tup [.int m, .int m, .int m, .int m]) ht
      refine ⟨g, G', t, m, m, m, m, (i : Int), rfl, hg2.same s3, go.ok, upd_same, ⟨lm, lm, lm, lm⟩, by lia, by lia, fun n G'' H' fr' hg' go' e => ?_⟩
      exact ⟨G'', n, _, rfl, (fr.trans (Same.fr s3)).trans fr', hg', go.trans go', m, Sol.goes go' so, e⟩
    · rintro σ H2 ⟨G', m, u4, rfl, fr, hg2, go, so⟩
      exact ⟨_, rfl, k m G' H2 fr hg2 go so⟩
end
end J

set_option maxHeartbeats 200000
set_option Elab.async false
set_option linter.all false
set_option maxRecDepth 100000
set_option maxHeartbeats 1000000
/-! A new grove. -/
namespace J
open PySem L2
def bareN : Nat → Nat
  | 0 => 0
  | j + 1 => 8 + j
def leafs (n : Nat) : Gv := (List.range n).map fun (s : Nat) => (⟨[(s : Int)], 0⟩ : Sq)
def bares (n : Nat) : Gv := (List.range n).map fun (j : Nat) => (⟨[(bareN j : Int), (bareN j : Int), (bareN j : Int), (bareN j : Int)], (j : Int) + 1⟩ : Sq)
def G0 : Gv := leafs 8 ++ bares 48
theorem leafs_succ (n : Nat) : leafs (n + 1) = leafs n ++ [⟨[(n : Int)], 0⟩] := by unfold leafs; rw [List.range_succ, List.map_append]; rfl
theorem bares_succ (n : Nat) : bares (n + 1) = bares n ++ [⟨[(bareN n : Int), (bareN n : Int), (bareN n : Int), (bareN n : Int)], (n : Int) + 1⟩] := by unfold bares; rw [List.range_succ, List.map_append]; rfl
theorem leafs_len (n : Nat) : (leafs n).length = n := by unfold leafs; rw [List.length_map, List.length_range]
theorem bares_len (n : Nat) : (bares n).length = n := by unfold bares; rw [List.length_map, List.length_range]
theorem bareN_inj {i j : Nat} (h : bareN i = bareN j) : i = j := by
  cases i <;> cases j
  · rfl
  · have : 0 = 8 + _ := h; lia
  · have : 8 + _ = 0 := h; lia
  · have : 8 + _ = 8 + _ := h; lia
theorem leafs_new (n : Nat) : ∀ q ∈ leafs n, q.parts ≠ [(n : Int)] := fun q hq z => by
  obtain ⟨s, hs, rfl⟩ := List.mem_map.mp hq
  have := List.mem_range.mp hs
  injection z with z _
  have : s = n := Int.ofNat.inj z
  lia
theorem bares_new (n : Nat) : ∀ q ∈ leafs 8 ++ bares n, q.parts ≠ [(bareN n : Int), (bareN n : Int), (bareN n : Int), (bareN n : Int)] := fun q hq z => by
  rcases List.mem_append.mp hq with hq | hq
  · obtain ⟨s, hs, rfl⟩ := List.mem_map.mp hq
    cases z
  · obtain ⟨s, hs, rfl⟩ := List.mem_map.mp hq
    have := List.mem_range.mp hs
    injection z with z _
    have := bareN_inj (Int.ofNat.inj z)
    lia
theorem g0_len : G0.length = 56 := by unfold G0; rw [List.length_append, leafs_len, bares_len]
theorem g0_bare (j : Nat) (h : j < 48) : G0[8 + j]? = some ⟨[(bareN j : Int), (bareN j : Int), (bareN j : Int), (bareN j : Int)], (j : Int) + 1⟩ := by
  unfold G0
  rw [List.getElem?_append_right (by rw [leafs_len]; lia), leafs_len, show 8 + j - 8 = j by lia]
  unfold bares
  rw [List.getElem?_map, List.getElem?_range h]
  rfl
theorem g0_leaf (s : Nat) (h : s < 8) : G0[s]? = some ⟨[(s : Int)], 0⟩ := by
  unfold G0
  rw [List.getElem?_append_left (by rw [leafs_len]; exact h)]
  unfold leafs
  rw [List.getElem?_map, List.getElem?_range h]
  rfl
theorem g0_lev (j : Nat) (h : j ≤ 48) : LevAt G0 (bareN j) (j : Int) := by
  cases j with
  | zero => exact ⟨_, g0_leaf 0 (by decide), rfl⟩
  | succ j => exact ⟨_, g0_bare j (by lia), rfl⟩
theorem g0_nd : ∀ n, ((leafs 8 ++ bares n).map Sq.parts).Nodup
  | 0 => by decide
  | n + 1 => by
    rw [bares_succ, ← List.append_assoc, List.map_append, List.nodup_append]
    refine ⟨g0_nd n, by simp, fun p hp p' hp' => ?_⟩
    obtain ⟨q, hq, rfl⟩ := List.mem_map.mp hp
    rw [show p' = [(bareN n : Int), (bareN n : Int), (bareN n : Int), (bareN n : Int)] by simpa using hp']
    exact bares_new n q hq
theorem g0_ok : GOk G0 where
  leaf := g0_leaf
  node := fun i q e h8 => by
    have hi : i < 56 := by rw [← g0_len]; exact (List.getElem?_eq_some_iff.mp e).1
    obtain ⟨j, rfl⟩ : ∃ j, i = 8 + j := ⟨i - 8, by lia⟩
    rw [g0_bare j (by lia)] at e
    cases e
    have := g0_lev j (by lia)
    refine ⟨bareN j, bareN j, bareN j, bareN j, rfl, ?_, ?_, ?_⟩
    · show LevAt G0 _ ((j : Int) + 1 - 1) ∧ LevAt G0 _ ((j : Int) + 1 - 1) ∧ LevAt G0 _ ((j : Int) + 1 - 1) ∧ LevAt G0 _ ((j : Int) + 1 - 1)
      rw [show (j : Int) + 1 - 1 = (j : Int) by lia]
      exact ⟨this, this, this, this⟩
    · show 1 ≤ (j : Int) + 1; lia
    · show (j : Int) + 1 ≤ 48; lia
  nd := g0_nd 48
/-- what a new grove knows of amounts: those of the leaves -/
def amK (n : Nat) : List (Key × V) := (List.range n).map fun (s : Nat) => (Sum.inl (s : Int), V.int (if (1 : Int) < (s : Int) then 1 else (s : Int)))
theorem amK_succ (n : Nat) : amK (n + 1) = amK n ++ [(Sum.inl (n : Int), V.int (if (1 : Int) < (n : Int) then 1 else (n : Int)))] := by unfold amK; rw [List.range_succ, List.map_append]; rfl
theorem amK_len (n : Nat) : (amK n).length = n := by unfold amK; rw [List.length_map, List.length_range]
theorem val_app {κ : Type} [DecidableEq κ] {k : κ} : ∀ {l m : List (κ × V)}, valV l k = none → valV (l ++ m) k = valV m k
  | [], _, _ => rfl
  | p :: r, m, h => by
    by_cases e : p.1 = k
    · rw [valV_pos e] at h; cases h
    · rw [valV_neg e] at h
      show valV (p :: (r ++ m)) k = _
      rw [valV_neg e]
      exact val_app h
theorem amK_none (n : Nat) : ∀ m, n ≤ m → valV (amK n) (Sum.inl (m : Int)) = none := by
  induction n with
  | zero => intro m _; rfl
  | succ n ih =>
    intro m hm
    rw [amK_succ, val_app (ih m (by lia)), valV_neg (by intro z; injection z with z; have := Int.ofNat.inj z; lia)]
    rfl
def bareL (n : Nat) : List Int := (List.range (n + 1)).map fun j => ((bareN j : Nat) : Int)
theorem bareL_succ (n : Nat) : bareL (n + 1) = bareL n ++ [((bareN (n + 1) : Nat) : Int)] := by unfold bareL; rw [List.range_succ, List.map_append]; rfl
theorem bareL_last (n : Nat) : (bareL n).getLast? = some ((bareN n : Nat) : Int) := by
  cases n with
  | zero => rfl
  | succ n => rw [bareL_succ, List.getLast?_append]; rfl
theorem at_lastV {xs : List V} {x : V} (h : xs.getLast? = some x) : atI xs (-1) = some x := by
  obtain ⟨ys, rfl⟩ := List.getLast?_eq_some_iff.mp h
  unfold atI ixN
  rw [if_neg (by decide), if_pos (by rw [List.length_append, List.length_singleton]; lia)]
  show (ys ++ [x])[((-1 : Int) + ((ys ++ [x]).length : Nat)).toNat]? = some x
  rw [List.length_append, List.length_singleton, show ((-1 : Int) + ((ys.length + 1 : Nat) : Int)).toNat = ys.length by lia, List.getElem?_append_right (Nat.le_refl _), Nat.sub_self]
  rfl
end J

set_option maxHeartbeats 200000
set_option Elab.async false
set_option linter.all false
set_option maxRecDepth 100000
set_option maxHeartbeats 2000000
namespace J
open PySem L2
/-- what a new grove is -/
structure NewG (a : Ad) (H H' : Hp) (g : GA) (G : Gv) (B : List Int) (am : List (Key × V)) : Prop where
  kp : ∀ b o, H b = some o → b ≠ g.p → H' b = some o
  at' : GroveAt a H' g G
  br : H' g.br = some (.lst (B.map V.int))
  am : H' g.am = some (.dK am)
  bx : H' g.bx = some (.dK [])
  fresh : H g.lv = none ∧ H g.pt = none ∧ H g.nm = none ∧ H g.br = none ∧ H g.am = none ∧ H g.bx = none
  n1 : g.br ≠ g.lv
  n2 : g.br ≠ g.pt
  n3 : g.am ≠ g.bx
section
variable {P : Program} {w : World} {K : PySem.W.Frag} {mg : Str → Option Value} {base : Heap} {a : Ad}
inductive SpGInit (a : Ad) (vs : List V) (H : Hp) (Q : VK) : Prop
  | mk (p dx : Addr) (_ : vs = [.ref p]) (_ : H p = some (.ins a.c_Grove dx [])) (_ : ∀ (g : GA) (H' : Hp), g.p = p → NewG a H H' g G0 (bareL 48) (amK 8) → Q .non H') : SpGInit a vs H Q
def spGInit (a : Ad) : Sp := fun vs H Q _ => SpGInit a vs H Q
theorem ok_ginit {f : Addr} {fd : FuncData} (F : Fun K "__init__" "Grove.__init__" s_Grove_init f fd) (T : Top K mg a) (M_Grove_kept : CalM P w K mg base CX0 1 a.c_Grove "kept" p_Grove_kept (spKept a)) : FnOk P w K mg base CX0 2 f fd p_Grove_init (spGInit a) := by
  refine F.ok sc_Grove_init (fun vs H Q E h => ?_) (fun cdv A outer s H vs Q E hr h => ?_)
  · obtain ⟨p, dx, rfl, _⟩ := h
    rfl
  · obtain ⟨p, dx, rfl, hp, k⟩ := h
    refine ⟨_, (@pss_cons _ _ _ _ _ (@ps_fld _ _ _ _ _ _ _ _ (pv 0) (@pe_lst _ _ _ _ (@pa_nil _)) rfl) (@pss_cons _ _ _ _ _ (@ps_fld _ _ _ _ _ _ _ _ (pv 0) (@pe_lst _ _ _ _ (@pa_nil _)) rfl) (@pss_cons _ _ _ _ _ (@ps_fld _ _ _ _ _ _ _ _ (pv 0) (@pe_dnewT _ _) rfl) (@pss_cons _ _ _ _ _ (@ps_fld _ _ _ _ _ _ _ _ (pv 0) (@pe_lst _ _ _ _ (@pa_int _ _ _ _ _ _ (@pa_nil _))) rfl) (@pss_cons _ _ _ _ _ (@ps_fld _ _ _ _ _ _ _ _ (pv 0) (@pe_dnewK _ _) rfl) (@pss_cons _ _ _ _ _ (@ps_fld _ _ _ _ _ _ _ _ (pv 0) (@pe_dnewK _ _) rfl) (@pss_cons _ _ _ _ _ (@ps_for _ _ _ _ _ _ _ _ PassesOwn.never rfl (@pi_range1 _ _ _ _ _ _ rfl T.b_range (@pa_cons _ _ _ _ _ (@pe_gint _ _ _ _ rfl T.k_STATES (by decide)) (@pa_nil _) rfl) rfl) (@pg_name _ _ (1) _ sc_Grove_init.nd rfl (Or.inl rfl) (by first | exact .inl rfl | exact .inr rfl | assumption)) (@pss_cons _ _ _ _ _ (@ps_expr _ _ _ _ (@pe_calm _ _ _ _ _ _ _ _ _ _ _ _ _ _ _ _ (pv 0) M_Grove_kept (rm hr) pass0 (@pa_tup _ _ _ _ _ _ _ (@pa_cons _ _ _ _ _ (pv 1) (@pa_nil _) rfl) (@pa_int _ _ _ _ _ _ (@pa_nil _))) rfl rfl rfl) rfl) (@pss_one _ _ _ (@ps_dput _ _ _ _ _ _ _ _ _ (hu_of hr) (@pe_fld _ _ _ _ _ (pv 0) rfl) (pv 1) (@pe_callB _ _ _ _ _ _ _ _ _ (@call_min2 _ rfl) rfl T.b_min PyProof.Rows.boot_min (@pa_cons _ _ _ _ _ (pv 1) (@pa_int _ _ _ _ _ _ (@pa_nil _)) rfl) (by decide) (by decide) rfl rfl) rfl))) (by intro _ ; rfl)) (@pss_one _ _ _ (@ps_for _ _ _ _ _ _ _ _ PassesOwn.never rfl (@pi_range2 _ _ _ _ _ _ _ rfl T.b_range (@pa_int _ _ _ _ _ _ (@pa_op _ _ _ _ _ _ _ _ _ _ (@op_add _) (@pe_gint _ _ _ _ rfl T.k_TOP_LEVEL (by decide)) (@pe_int _ _ _ _) (@pa_nil _))) rfl rfl) (@pg_name _ _ (2) _ sc_Grove_init.nd rfl (Or.inl rfl) (by first | exact .inl rfl | exact .inr rfl | assumption)) (@pss_cons _ _ _ _ _ (@ps_set _ _ (3) _ _ _ _ sc_Grove_init.nd rfl (Or.inl rfl) (@pe_ix _ _ _ _ _ _ _ (@ix_list _) (@pe_fld _ _ _ _ _ (pv 0) rfl) (@pe_un _ _ _ _ _ _ (@un_neg _) (@pe_int _ _ _ _)) (fun _ _ => rfl)) rfl (by first | exact .inl rfl | exact .inr rfl | assumption)) (@pss_one _ _ _ (@ps_expr _ _ _ _ (@pe_bm _ _ _ _ _ _ _ _ _ _ _ _ PySem.F.plainAttrs_list PySem.F.slot_list_append PySem.F.type_list_append (@mt_append _) (@pe_fld _ _ _ _ _ (pv 0) rfl) (@pa_cons _ _ _ _ _ (@pe_calm _ _ _ _ _ _ _ _ _ _ _ _ _ _ _ _ (pv 0) M_Grove_kept (rm hr) pass0 (@pa_tup _ _ _ _ _ _ _ (@pa_cons _ _ _ _ _ (pv 3) (@pa_cons _ _ _ _ _ (pv 3) (@pa_cons _ _ _ _ _ (pv 3) (@pa_cons _ _ _ _ _ (pv 3) (@pa_nil _) rfl) rfl) rfl) rfl) (@pa_cons _ _ _ _ _ (pv 2) (@pa_nil _) rfl)) rfl rfl rfl) (@pa_nil _) rfl) rfl rfl rfl rfl rfl) rfl))) (by intro _ ; rfl)))))))))), ?_⟩
    try dsimp only [cxK]
    -- a field with a new object
    have stp : ∀ {Hk : Hp} {x : Addr} {o : HO} {fs fs' : List (Str × V)}, Hk p = some (.ins a.c_Grove dx fs) → Hk x = none → (∀ b v, Hk b = some v → b ≠ p → upd (upd Hk x o) p (.ins a.c_Grove dx fs') b = some v) ∧ upd (upd Hk x o) p (.ins a.c_Grove dx fs') x = some o ∧ upd (upd Hk x o) p (.ins a.c_Grove dx fs') p = some (.ins a.c_Grove dx fs') ∧ upd Hk x o p = some (.ins a.c_Grove dx fs) := fun {Hk x o fs fs'} e1 e2 => by
      have n : x ≠ p := fun z => by rw [z, e1] at e2; cases e2
      exact ⟨fun b v e nb => by rw [upd_ne nb, upd_ne (ne_of_none e e2)]; exact e, by rw [upd_ne n]; exact upd_same, upd_same, by rw [upd_ne (Ne.symm n)]; exact e1⟩
    refine ⟨(by show 0 ≤ sizeLine; decide), fun lv hlv => ?_⟩
    obtain ⟨k1, x1, p1, q1⟩ := stp (o := .lst []) (fs' := putF "levels" (.ref lv) []) hp hlv
    refine ⟨_, rfl, p, _, dx, [], rfl, q1, T.cl_Grove, T.na_Grove_levels, (by show 0 < 1000; decide), ?_⟩
    generalize upd (upd H lv (.lst [])) p (.ins a.c_Grove dx (putF "levels" (.ref lv) [])) = H1 at k1 x1 p1 ⊢
    refine ⟨(by show 0 ≤ sizeLine; decide), fun pt hpt => ?_⟩
    obtain ⟨k2, x2, p2, q2⟩ := stp (o := .lst []) (fs' := putF "parts" (.ref pt) (putF "levels" (.ref lv) [])) p1 hpt
    refine ⟨_, rfl, p, _, dx, _, rfl, q2, T.cl_Grove, T.na_Grove_parts, (by show 1 < 1000; decide), ?_⟩
    generalize upd (upd H1 pt (.lst [])) p (.ins a.c_Grove dx (putF "parts" (.ref pt) (putF "levels" (.ref lv) []))) = H2 at k2 x2 p2 ⊢
    intro nm hnm
    obtain ⟨k3, x3, p3, q3⟩ := stp (o := .dT []) (fs' := putF "numbers" (.ref nm) (putF "parts" (.ref pt) (putF "levels" (.ref lv) []))) p2 hnm
    refine ⟨_, rfl, p, _, dx, _, rfl, q3, T.cl_Grove, T.na_Grove_numbers, (by show 2 < 1000; decide), ?_⟩
    generalize upd (upd H2 nm (.dT [])) p (.ins a.c_Grove dx (putF "numbers" (.ref nm) (putF "parts" (.ref pt) (putF "levels" (.ref lv) [])))) = H3 at k3 x3 p3 ⊢
    refine ⟨(by show 1 ≤ sizeLine; decide), fun br hbr => ?_⟩
    obtain ⟨k4, x4, p4, q4⟩ := stp (o := .lst [.int 0]) (fs' := putF "bares" (.ref br) (putF "numbers" (.ref nm) (putF "parts" (.ref pt) (putF "levels" (.ref lv) [])))) p3 hbr
    refine ⟨_, rfl, p, _, dx, _, rfl, q4, T.cl_Grove, T.na_Grove_bares, (by show 3 < 1000; decide), ?_⟩
    generalize upd (upd H3 br (.lst [.int 0])) p (.ins a.c_Grove dx (putF "bares" (.ref br) (putF "numbers" (.ref nm) (putF "parts" (.ref pt) (putF "levels" (.ref lv) []))))) = H4 at k4 x4 p4 ⊢
    intro am ham
    obtain ⟨k5, x5, p5, q5⟩ := stp (o := .dK []) (fs' := putF "amounts" (.ref am) (putF "bares" (.ref br) (putF "numbers" (.ref nm) (putF "parts" (.ref pt) (putF "levels" (.ref lv) []))))) p4 ham
    refine ⟨_, rfl, p, _, dx, _, rfl, q5, T.cl_Grove, T.na_Grove_amounts, (by show 4 < 1000; decide), ?_⟩
    generalize upd (upd H4 am (.dK [])) p (.ins a.c_Grove dx (putF "amounts" (.ref am) (putF "bares" (.ref br) (putF "numbers" (.ref nm) (putF "parts" (.ref pt) (putF "levels" (.ref lv) [])))))) = H5 at k5 x5 p5 ⊢
    intro bx hbx
    obtain ⟨k6, x6, p6, q6⟩ := stp (o := .dK []) (fs' := fl6 ⟨p, dx, lv, pt, nm, br, am, bx⟩) p5 hbx
    refine ⟨_, rfl, p, _, dx, _, rfl, q6, T.cl_Grove, T.na_Grove_boxes, (by show 5 < 1000; decide), ?_⟩
    show (tSeq _ _) _ _ (upd (upd H5 bx (.dK [])) p (.ins a.c_Grove dx (fl6 ⟨p, dx, lv, pt, nm, br, am, bx⟩)))
    generalize upd (upd H5 bx (.dK [])) p (.ins a.c_Grove dx (fl6 ⟨p, dx, lv, pt, nm, br, am, bx⟩)) = H6 at k6 x6 p6 ⊢
    -- all that is new is apart
    have f26 : ∀ b v, H1 b = some v → b ≠ p → H6 b = some v := fun b v e n => k6 _ _ (k5 _ _ (k4 _ _ (k3 _ _ (k2 _ _ e n) n) n) n) n
    have f36 : ∀ b v, H2 b = some v → b ≠ p → H6 b = some v := fun b v e n => k6 _ _ (k5 _ _ (k4 _ _ (k3 _ _ e n) n) n) n
    have f46 : ∀ b v, H3 b = some v → b ≠ p → H6 b = some v := fun b v e n => k6 _ _ (k5 _ _ (k4 _ _ e n) n) n
    have f56 : ∀ b v, H4 b = some v → b ≠ p → H6 b = some v := fun b v e n => k6 _ _ (k5 _ _ e n) n
    have np : ∀ {Hk : Hp} {x : Addr} {fs : List (Str × V)}, Hk p = some (.ins a.c_Grove dx fs) → Hk x = none → x ≠ p := fun {Hk x fs} e1 e2 z => by rw [z, e1] at e2; cases e2
    have no : ∀ {Hk Hm : Hp} {x y : Addr} {v : HO}, Hk x = some v → Hk y = none → x ≠ y := fun {Hk Hm x y v} e1 e2 => ne_of_none e1 e2
    have nlv := np hp hlv
    have npt := np p1 hpt
    have nnm := np p2 hnm
    have nbr := np p3 hbr
    have nam := np p4 ham
    have nbx := np p5 hbx
    have y1 := f26 _ _ x1 nlv
    have y2 := f36 _ _ x2 npt
    have y3 := f46 _ _ x3 nnm
    have y4 := f56 _ _ x4 nbr
    have y5 := k6 _ _ x5 nam
    have back : ∀ {Hk : Hp} {x : Addr}, (∀ b v, H b = some v → b ≠ p → Hk b = some v) → x ≠ p → Hk x = none → H x = none := fun {Hk x} kp n e => by
      cases h : H x with
      | none => rfl
      | some v => rw [kp _ _ h n] at e; cases e
    have c2 : ∀ b v, H b = some v → b ≠ p → H2 b = some v := fun b v e n => k2 _ _ (k1 _ _ e n) n
    have c3 : ∀ b v, H b = some v → b ≠ p → H3 b = some v := fun b v e n => k3 _ _ (c2 _ _ e n) n
    have c4 : ∀ b v, H b = some v → b ≠ p → H4 b = some v := fun b v e n => k4 _ _ (c3 _ _ e n) n
    have c5 : ∀ b v, H b = some v → b ≠ p → H5 b = some v := fun b v e n => k5 _ _ (c4 _ _ e n) n
    have c6 : ∀ b v, H b = some v → b ≠ p → H6 b = some v := fun b v e n => k6 _ _ (c5 _ _ e n) n
    have d1 : lv ≠ pt := ne_of_none x1 hpt
    have d2 : br ≠ lv := Ne.symm (ne_of_none (k3 _ _ (k2 _ _ x1 nlv) nlv) hbr)
    have d3 : br ≠ pt := Ne.symm (ne_of_none (k3 _ _ x2 npt) hbr)
    have d4 : am ≠ bx := ne_of_none x5 hbx
    have N0 : NewG a H H6 ⟨p, dx, lv, pt, nm, br, am, bx⟩ (leafs 0) (bareL 0) (amK 0) := ⟨c6, ⟨p6, y1, ⟨[], y2, .nil⟩, y3, d1⟩, y4, y5, x6, ⟨hlv, back k1 npt hpt, back c2 nnm hnm, back c3 nbr hbr, back c4 nam ham, back c5 nbx hbx⟩, d2, d3, d4⟩
    have k' := k ⟨p, dx, lv, pt, nm, br, am, bx⟩
    have gp : (⟨p, dx, lv, pt, nm, br, am, bx⟩ : GA).p = p := rfl
    generalize (⟨p, dx, lv, pt, nm, br, am, bx⟩ : GA) = g at N0 k' gp
    subst gp
    clear k p6 q6 q5 q4 q3 q2 q1 y1 y2 y3 y4 y5 x6 c6 c5 c4 c3 c2 f26 f36 f46 f56 k1 k2 k3 k4 k5 k6 x1 x2 x3 x4 x5 p1 p2 p3 p4 p5 d1 d2 d3 d4 nlv npt nnm nbr nam nbx hbx ham hbr hnm hpt hlv back no np stp
    refine ⟨8, rfl, by decide, by decide, ?_⟩
    refine for_range (n := 8) (fun i σ H7 => ∃ u1 : Option V, σ = [some (.ref g.p), u1, none, none] ∧ NewG a H H7 g (leafs i) (bareL 0) (amK i)) ⟨none, rfl, N0⟩ ?_ ?_
    · rintro i σ H7 hi ⟨u1, rfl, N⟩
      obtain ⟨kp, at', hbr, ham, hbx, fresh, n1, n2, n3⟩ := N
      have cl : (i : Int) = 0 + (i : Int) := (Int.zero_add _).symm
      refine ⟨_, rfl, g.p, g.dx, _, rfl, at'.hp, no_kept g, _, rfl, (by show 1 ≤ sizeLine; decide), fun t ht => ?_⟩
      have s1 := same_up (o := .tup [.int (0 + (i : Int))]) ht
      refine ⟨g, leafs i, t, [0 + (i : Int)], 0, rfl, at'.same s1, upd_same, by rw [← cl]; exact leafs_new i, by rw [leafs_len]; lia, fun H8 fr at8 => ?_⟩
      rw [← cl, ← leafs_succ] at at8
      have fr' : Fr g H7 H8 := (Same.fr s1).trans fr
      obtain ⟨ts, h3, h4⟩ := at'.pt
      have kd : ∀ (b : Addr) (kvs : List (Key × V)), H7 b = some (.dK kvs) → H8 b = some (.dK kvs) := fun b kvs e => fr' _ _ e (ne_of e at'.lv (by intro z; cases z)) (ne_of e h3 (by intro z; cases z)) (ne_of e at'.nm (by intro z; cases z))
      have ham8 := kd _ _ ham
      refine ⟨_, rfl, _, _, rfl, _, rfl, g.p, _, g.dx, _, _, rfl, at8.hp, T.cl_Grove, T.na_Grove_amounts, fl6_am g, _, rfl, g.am, _, rfl, DPut.k (k := Sum.inl (0 + (i : Int))) ham8 (by rw [amK_len]; exact lt_ln (by lia)), ?_⟩
      rw [← cl, putK_new _ (amK_none i i (Nat.le_refl _)), ← amK_succ]
      have other : ∀ {b : Addr} {v : HO}, H8 b = some v → b ≠ g.am → upd H8 g.am (.dK (amK (i + 1))) b = some v := fun {b v} e n => by rw [upd_ne n]; exact e
      have na : ∀ {b : Addr} {v : HO}, H8 b = some v → v ≠ .dK (amK i) → b ≠ g.am := fun {b v} e n => ne_of e ham8 n
      obtain ⟨ts8, h38, h48⟩ := at8.pt
      refine ⟨_, rfl, ?_, ⟨other at8.hp (na at8.hp (by intro z; cases z)), other at8.lv (na at8.lv (by intro z; cases z)), ⟨ts8, other h38 (na h38 (by intro z; cases z)), PairedM.imp (fun c q z => other z (na z (by intro z; cases z))) h48⟩, other at8.nm (na at8.nm (by intro z; cases z)), at8.ne⟩, ?_, upd_same, ?_, fresh, n1, n2, n3⟩
      · intro b v e nb
        have e8 : H8 b = some v := fr' _ _ (kp _ _ e nb) (ne_of_none e fresh.1) (ne_of_none e fresh.2.1) (ne_of_none e fresh.2.2.1)
        exact other e8 (ne_of_none e fresh.2.2.2.2.1)
      · have e8 : H8 g.br = _ := fr' _ _ hbr n1 n2 (ne_of hbr at'.nm (by intro z; cases z))
        exact other e8 (na e8 (by intro z; cases z))
      · exact other (kd _ _ hbx) (Ne.symm n3)
    · rintro σ H7 ⟨u1, rfl, N⟩
      refine ⟨_, _, rfl, rfl, 1, 49, rfl, ⟨by decide, by decide, by decide, by decide⟩, ?_⟩
      have N0 : NewG a H H7 g (leafs 8 ++ bares 0) (bareL 0) (amK 8) := by rw [show leafs 8 ++ bares 0 = leafs 8 from List.append_nil _]; exact N
      clear N
      refine for_range (lo := 1) (n := 48) (fun j σ H8 => ∃ u2 u3 : Option V, σ = [some (.ref g.p), u1, u2, u3] ∧ NewG a H H8 g (leafs 8 ++ bares j) (bareL j) (amK 8)) ⟨none, none, rfl, N0⟩ ?_ ?_
      · rintro j σ H8 hj ⟨u2, u3, rfl, N⟩
        obtain ⟨kp, at', hbr, ham, hbx, fresh, n1, n2, n3⟩ := N
        refine ⟨_, rfl, g.p, _, g.dx, _, _, rfl, at'.hp, T.cl_Grove, T.na_Grove_bares, fl6_br g, _, rfl, g.br, _, -1, .int (bareN j : Int), rfl, rfl, SqL.of hbr, at_lastV (by rw [List.getLast?_map, bareL_last]; rfl), ?_⟩
        refine ⟨_, rfl, g.p, _, g.dx, _, _, rfl, at'.hp, T.cl_Grove, T.na_Grove_bares, fl6_br g, .inl ⟨rfl, _, SqL.of hbr⟩, _, rfl, g.p, g.dx, _, rfl, at'.hp, no_kept g, _, rfl, _, rfl, _, rfl, _, rfl, (by show 4 ≤ sizeLine; decide), fun t ht => ⟨_, rfl, ?_⟩⟩
        have s1 := same_up (o := .tup [.int (bareN j : Int), .int (bareN j : Int), .int (bareN j : Int), .int (bareN j : Int)]) ht
        have ln : (leafs 8 ++ bares j).length = 8 + j := by rw [List.length_append, leafs_len, bares_len]
        refine ⟨g, leafs 8 ++ bares j, t, [(bareN j : Int), (bareN j : Int), (bareN j : Int), (bareN j : Int)], 1 + (j : Int), rfl, at'.same s1, upd_same, bares_new j, by rw [ln]; lia, fun H9 fr at9 => ?_⟩
        rw [show (1 : Int) + (j : Int) = (j : Int) + 1 by lia, List.append_assoc, ← bares_succ] at at9
        have fr' : Fr g H8 H9 := (Same.fr s1).trans fr
        obtain ⟨ts, h3, h4⟩ := at'.pt
        have kd : ∀ (b : Addr) (kvs : List (Key × V)), H8 b = some (.dK kvs) → H9 b = some (.dK kvs) := fun b kvs e => fr' _ _ e (ne_of e at'.lv (by intro z; cases z)) (ne_of e h3 (by intro z; cases z)) (ne_of e at'.nm (by intro z; cases z))
        have hbr9 : H9 g.br = _ := fr' _ _ hbr n1 n2 (ne_of hbr at'.nm (by intro z; cases z))
        refine ⟨g.br, _, _, rfl, rfl, hbr9, by rw [List.length_map]; unfold bareL; rw [List.length_map, List.length_range]; exact lt_ln (by lia), ?_⟩
        have eb : (bareL j).map V.int ++ [V.int ((leafs 8 ++ bares j).length : Int)] = (bareL (j + 1)).map V.int := by rw [bareL_succ, List.map_append, ln]; rfl
        rw [eb]
        have other : ∀ {b : Addr} {v : HO}, H9 b = some v → v ≠ .lst ((bareL j).map V.int) → upd H9 g.br (.lst ((bareL (j + 1)).map V.int)) b = some v := fun {b v} e n => by rw [upd_ne (ne_of e hbr9 n)]; exact e
        refine ⟨_, _, rfl, ?_, at9.put hbr9 n1 n2, upd_same, other (kd _ _ ham) (by intro z; cases z), other (kd _ _ hbx) (by intro z; cases z), fresh, n1, n2, n3⟩
        intro b v e nb
        rw [upd_ne (ne_of_none e fresh.2.2.2.1)]
        exact fr' _ _ (kp _ _ e nb) (ne_of_none e fresh.1) (ne_of_none e fresh.2.1) (ne_of_none e fresh.2.2.1)
      · rintro σ H8 ⟨u2, u3, rfl, N⟩
        exact k' H8 rfl N
end
end J

set_option maxHeartbeats 200000
set_option Elab.async false
set_option linter.all false
set_option maxRecDepth 100000
set_option maxHeartbeats 1000000
/-! The grove: how many live. -/
namespace J
open PySem L2
theorem LevAt.uniq {G : Gv} {i : Nat} {l m : Int} (h : LevAt G i l) (h2 : LevAt G i m) : l = m := by
  obtain ⟨q, e, z⟩ := h
  obtain ⟨p, e2, z2⟩ := h2
  rw [e] at e2
  cases e2
  exact z.symm.trans z2
theorem leaf_of {G : Gv} (ok : GOk G) {i : Nat} (h : LevAt G i 0) : i < 8 := by
  obtain ⟨q, e, z⟩ := h
  refine Nat.lt_of_not_le fun n => ?_
  obtain ⟨_, _, _, _, _, _, l1, _⟩ := ok.node i q e n
  lia
structure Node (G : Gv) (n i : Nat) (q : Sq) (x y z w : Nat) : Prop where
  g : G[i]? = some q
  ps : q.parts = [(x : Int), (y : Int), (z : Int), (w : Int)]
  lev : q.lev = (n : Int) + 1
  hx : LevAt G x n
  hy : LevAt G y n
  hz : LevAt G z n
  hw : LevAt G w n
theorem node_of {G : Gv} (ok : GOk G) {n i : Nat} (h : LevAt G i ((n + 1 : Nat) : Int)) : ∃ q x y z w, Node G n i q x y z w := by
  obtain ⟨q, e, el⟩ := h
  have n8 : 8 ≤ i := by
    refine Nat.le_of_not_lt fun l8 => ?_
    rw [ok.leaf i l8] at e
    cases e
    have : (0 : Int) = ((n + 1 : Nat) : Int) := el
    lia
  obtain ⟨x, y, z, w, ep, ⟨hx, hy, hz, hw⟩, _, _⟩ := ok.node i q e n8
  have en : q.lev - 1 = (n : Int) := by lia
  rw [en] at hx hy hz hw
  exact ⟨q, x, y, z, w, e, ep, by lia, hx, hy, hz, hw⟩
theorem Node.app {G G' : Gv} {k n i : Nat} {q : Sq} {x y z w : Nat} (go : Goes G G' k) (h : Node G n i q x y z w) : Node G' n i q x y z w := ⟨go.get h.g, h.ps, h.lev, go.lev h.hx, go.lev h.hy, go.lev h.hz, go.lev h.hw⟩
def cntF (G : Gv) : Nat → Nat → Int
  | 0, i => if i = 0 then 0 else 1
  | n + 1, i => match G[i]? with
    | some q => (q.parts.map fun p => cntF G n p.toNat).sum
    | none => 0
theorem cntF_node {G : Gv} {n i : Nat} {q : Sq} {x y z w : Nat} (h : Node G n i q x y z w) : cntF G (n + 1) i = ([x, y, z, w].map fun k => cntF G n k).sum := by
  rw [show cntF G (n + 1) i = (match G[i]? with | some q => (q.parts.map fun (p : Int) => cntF G n p.toNat).sum | none => 0) from rfl, h.g]
  show (q.parts.map fun (p : Int) => cntF G n p.toNat).sum = _
  rw [h.ps]
  rfl
theorem cntF_app {G G' : Gv} {k : Nat} (ok : GOk G) (go : Goes G G' k) : ∀ (n i : Nat), LevAt G i (n : Int) → cntF G' n i = cntF G n i
  | 0, i, _ => rfl
  | n + 1, i, h => by
    obtain ⟨q, x, y, z, w, nd⟩ := node_of ok h
    rw [cntF_node nd, cntF_node (nd.app go)]
    show cntF G' n x + (cntF G' n y + (cntF G' n z + (cntF G' n w + 0))) = _
    rw [cntF_app ok go n x nd.hx, cntF_app ok go n y nd.hy, cntF_app ok go n z nd.hz, cntF_app ok go n w nd.hw]
    rfl
/-! ### keys of a dict that are squares -/
theorem few_below : ∀ (n : Nat) (l : List Nat), l.Nodup → (∀ x ∈ l, x < n) → l.length ≤ n
  | 0, l, _, h => by
    cases l with
    | nil => exact Nat.le_refl 0
    | cons x r => exact absurd (h x List.mem_cons_self) (Nat.not_lt_zero _)
  | n + 1, l, nd, h => by
    by_cases hm : n ∈ l
    · have := few_below n (l.erase n) (nd.erase n) fun x hx => by
        have h1 := (nd.mem_erase_iff).mp hx
        have := h x h1.2
        have := h1.1
        lia
      rw [List.length_erase_of_mem hm] at this
      lia
    · have := few_below n l nd fun x hx => by
        have := h x hx
        have : x ≠ n := fun z => hm (z ▸ hx)
        lia
      lia
structure KeysOk (G : Gv) (ks : List (Key × V)) : Prop where
  nd : (ks.map Prod.fst).Nodup
  lt : ∀ k ∈ ks.map Prod.fst, ∃ i : Nat, i < G.length ∧ k = Sum.inl (i : Int)
theorem KeysOk.len {G : Gv} {ks : List (Key × V)} (h : KeysOk G ks) : ks.length ≤ G.length := by
  let f : Key → Nat := fun k => match k with | .inl i => i.toNat | .inr _ => 0
  have := few_below G.length ((ks.map Prod.fst).map f) (by
    rw [List.nodup_iff_pairwise_ne, List.pairwise_map]
    refine List.Pairwise.imp_of_mem (fun {a b} ha hb hne z => hne ?_) (List.nodup_iff_pairwise_ne.mp h.nd)
    obtain ⟨i, _, rfl⟩ := h.lt a ha
    obtain ⟨j, _, rfl⟩ := h.lt b hb
    have : (i : Int).toNat = (j : Int).toNat := z
    rw [Int.toNat_natCast, Int.toNat_natCast] at this
    rw [this]) (fun x hx => by
    obtain ⟨k, hk, rfl⟩ := List.mem_map.mp hx
    obtain ⟨i, hi, rfl⟩ := h.lt k hk
    show (i : Int).toNat < _
    rw [Int.toNat_natCast]
    exact hi)
  rw [List.length_map, List.length_map] at this
  exact this
theorem KeysOk.app {G G' : Gv} {ks : List (Key × V)} (le : G.length ≤ G'.length) (h : KeysOk G ks) : KeysOk G' ks := ⟨h.nd, fun k hk => by
  obtain ⟨i, hi, e⟩ := h.lt k hk
  exact ⟨i, by lia, e⟩⟩
theorem KeysOk.put {G : Gv} {ks : List (Key × V)} (h : KeysOk G ks) {i : Nat} (hi : i < G.length) (v : V) : KeysOk G (putK ks (Sum.inl (i : Int)) v) := by
  unfold putK
  by_cases a : (ks.any fun kv => decide (kv.1 = Sum.inl (i : Int))) = true
  · rw [if_pos a]
    have e : (ks.map fun kv => if kv.1 = Sum.inl (i : Int) then (kv.1, v) else kv).map Prod.fst = ks.map Prod.fst := by
      rw [List.map_map]
      refine List.map_congr_left fun kv _ => ?_
      show (if kv.1 = Sum.inl (i : Int) then (kv.1, v) else kv).1 = kv.1
      split <;> rfl
    exact ⟨by rw [e]; exact h.nd, by rw [e]; exact h.lt⟩
  · rw [if_neg a]
    refine ⟨?_, fun k hk => ?_⟩
    · rw [List.map_append, List.nodup_append]
      refine ⟨h.nd, by simp, fun k hk k' hk' z => a ?_⟩
      have : k' = Sum.inl (i : Int) := by simpa using hk'
      subst this
      subst z
      obtain ⟨kv, h1, h2⟩ := List.mem_map.mp hk
      exact List.any_eq_true.mpr ⟨kv, h1, decide_eq_true h2⟩
    · rw [List.map_append] at hk
      rcases List.mem_append.mp hk with z | z
      · exact h.lt k z
      · exact ⟨i, hi, by simpa using z⟩
structure AmOk (G : Gv) (ks : List (Key × V)) : Prop where
  keys : KeysOk G ks
  leaf : ∀ s : Nat, s < 8 → ∃ v, valV ks (Sum.inl (s : Int)) = some v
  val : ∀ (i : Nat) v, valV ks (Sum.inl (i : Int)) = some v → ∃ l : Nat, LevAt G i l ∧ v = .int (cntF G l i)
theorem AmOk.app {G G' : Gv} {k : Nat} {ks : List (Key × V)} (ok : GOk G) (go : Goes G G' k) (h : AmOk G ks) : AmOk G' ks := ⟨h.keys.app (by obtain ⟨r, e⟩ := go.pre; rw [e, List.length_append]; lia), h.leaf, fun i v e => by
  obtain ⟨l, h1, h2⟩ := h.val i v e
  exact ⟨l, go.lev h1, by rw [cntF_app ok go l i h1]; exact h2⟩⟩
theorem AmOk.put {G : Gv} {ks : List (Key × V)} (h : AmOk G ks) {i l : Nat} (hl : LevAt G i l) : AmOk G (putK ks (Sum.inl (i : Int)) (.int (cntF G l i))) := ⟨h.keys.put hl.lt _, fun s hs => by
  rw [valV_put]
  split
  · exact ⟨_, rfl⟩
  · exact h.leaf s hs, fun j v e => by
  rw [valV_put] at e
  split at e
  · rename_i z
    injection z with z
    have : j = i := Int.ofNat.inj z
    subst this
    cases e
    exact ⟨l, hl, rfl⟩
  · exact h.val j v e⟩
theorem am0 : AmOk G0 (amK 8) where
  keys := ⟨by decide +kernel, fun k hk => by
    obtain ⟨p, hp, rfl⟩ := List.mem_map.mp hk
    obtain ⟨s, hs, rfl⟩ := List.mem_map.mp hp
    have := List.mem_range.mp hs
    exact ⟨s, by rw [g0_len]; lia, rfl⟩⟩
  leaf := fun s hs => by
    match s, hs with
    | 0, _ => exact ⟨_, rfl⟩
    | 1, _ => exact ⟨_, rfl⟩
    | 2, _ => exact ⟨_, rfl⟩
    | 3, _ => exact ⟨_, rfl⟩
    | 4, _ => exact ⟨_, rfl⟩
    | 5, _ => exact ⟨_, rfl⟩
    | 6, _ => exact ⟨_, rfl⟩
    | 7, _ => exact ⟨_, rfl⟩
  val := fun i v e => by
    have hi : i < 8 := by
      refine Nat.lt_of_not_le fun z => ?_
      rw [amK_none 8 i z] at e
      cases e
    refine ⟨0, ⟨_, g0_leaf i hi, rfl⟩, ?_⟩
    match i, hi with
    | 0, _ => cases e; rfl
    | 1, _ => cases e; rfl
    | 2, _ => cases e; rfl
    | 3, _ => cases e; rfl
    | 4, _ => cases e; rfl
    | 5, _ => cases e; rfl
    | 6, _ => cases e; rfl
    | 7, _ => cases e; rfl
end J

set_option maxHeartbeats 200000
set_option Elab.async false
set_option linter.all false
set_option maxRecDepth 100000
set_option maxHeartbeats 1000000
/-! The grove: boxes; all that a grove keeps; how many live. -/
namespace J
open PySem L2
structure Bx where
  l : Int
  t : Int
  w : Int
  h : Int
def Bx.ns (b : Bx) : List Int := [b.l, b.t, b.w, b.h]
def shB (half : Int) (k : Nat) (b : Bx) : Bx := ⟨b.l + half * ((k : Int) % 2), b.t + half * ((k : Int) / 2), b.w, b.h⟩
def gath (half : Int) : Nat → List (Option Bx) → List Bx
  | _, [] => []
  | k, none :: r => gath half (k + 1) r
  | k, some b :: r => shB half k b :: gath half (k + 1) r
def mnL (l : List Int) : Int := l.min?.getD 0
def mxL (l : List Int) : Int := l.max?.getD 0
def leastB (bs : List Bx) : Bx := ⟨mnL (bs.map (·.l)), mnL (bs.map (·.t)), mxL (bs.map fun b => b.l + b.w) - mnL (bs.map (·.l)), mxL (bs.map fun b => b.t + b.h) - mnL (bs.map (·.t))⟩
def parB (half : Int) (obs : List (Option Bx)) : Option Bx := match gath half 0 obs with
  | [] => none
  | b :: r => some (leastB (b :: r))
def boxF (G : Gv) : Nat → Nat → Option Bx
  | 0, i => if i = 0 then none else some ⟨0, 0, 1, 1⟩
  | n + 1, i => match G[i]? with
    | some q => parB (2 ^ n) (q.parts.map fun (p : Int) => boxF G n p.toNat)
    | none => none
theorem boxF_node {G : Gv} {n i : Nat} {q : Sq} {x y z w : Nat} (h : Node G n i q x y z w) : boxF G (n + 1) i = parB (2 ^ n) [boxF G n x, boxF G n y, boxF G n z, boxF G n w] := by
  rw [show boxF G (n + 1) i = (match G[i]? with | some q => parB (2 ^ n) (q.parts.map fun (p : Int) => boxF G n p.toNat) | none => none) from rfl, h.g]
  show parB (2 ^ n) (q.parts.map fun (p : Int) => boxF G n p.toNat) = _
  rw [h.ps]
  rfl
theorem boxF_app {G G' : Gv} {k : Nat} (ok : GOk G) (go : Goes G G' k) : ∀ (n i : Nat), LevAt G i (n : Int) → boxF G' n i = boxF G n i
  | 0, i, _ => rfl
  | n + 1, i, h => by
    obtain ⟨q, x, y, z, w, nd⟩ := node_of ok h
    rw [boxF_node nd, boxF_node (nd.app go), boxF_app ok go n x nd.hx, boxF_app ok go n y nd.hy, boxF_app ok go n z nd.hz, boxF_app ok go n w nd.hw]
/-! ### all that a grove keeps -/
structure BxOk (G : Gv) (H : Hp) (ks : List (Key × V)) : Prop where
  keys : KeysOk G ks
  val : ∀ (i : Nat) v, valV ks (Sum.inl (i : Int)) = some v → ∃ (l : Nat) (b : Bx) (t : Addr), LevAt G i l ∧ boxF G l i = some b ∧ v = .ref t ∧ H t = some (.tup (b.ns.map V.int))
structure Full (a : Ad) (H : Hp) (g : GA) (G : Gv) : Prop where
  at' : GroveAt a H g G
  ok : GOk G
  g0 : ∃ r, G = G0 ++ r
  br : H g.br = some (.lst ((bareL 48).map V.int))
  am : ∃ ks, H g.am = some (.dK ks) ∧ AmOk G ks
  bx : ∃ ks, H g.bx = some (.dK ks) ∧ BxOk G H ks
  n1 : g.br ≠ g.lv
  n2 : g.br ≠ g.pt
  n3 : g.am ≠ g.bx
theorem Full.new {a : Ad} {H H' : Hp} {g : GA} (h : NewG a H H' g G0 (bareL 48) (amK 8)) : Full a H' g G0 := ⟨h.at', g0_ok, ⟨[], by simp⟩, h.br, ⟨_, h.am, am0⟩, ⟨_, h.bx, ⟨by simp, fun k hk => by simp at hk⟩, fun i v e => by cases e⟩, h.n1, h.n2, h.n3⟩
/-- a dict of the grove's own, or another of its kind -/
theorem Full.ne_am {a : Ad} {H : Hp} {g : GA} {G : Gv} (h : Full a H g G) {b : Addr} {o : HO} (e : H b = some o) (n : ∀ ks, o ≠ .dK ks) : b ≠ g.am ∧ b ≠ g.bx := by
  obtain ⟨ks, h1, _⟩ := h.am
  obtain ⟨ks', h2, _⟩ := h.bx
  exact ⟨ne_of e h1 (n _), ne_of e h2 (n _)⟩
theorem Full.same {a : Ad} {H H' : Hp} {g : GA} {G : Gv} (s : Same H H') (h : Full a H g G) : Full a H' g G := by
  obtain ⟨at', ok, g0, br, ⟨ks, h1, h2⟩, ⟨ks', h3, h4⟩, n1, n2, n3⟩ := h
  refine ⟨at'.same s, ok, g0, s _ _ br, ⟨ks, s _ _ h1, h2⟩, ⟨ks', s _ _ h3, h4.keys, fun i v e => ?_⟩, n1, n2, n3⟩
  obtain ⟨l, b, t, e1, e2, e3, e4⟩ := h4.val i v e
  exact ⟨l, b, t, e1, e2, e3, s _ _ e4⟩
theorem Goes.le {G G' : Gv} {k : Nat} (go : Goes G G' k) : G.length ≤ G'.length := by
  obtain ⟨r, e⟩ := go.pre
  rw [e, List.length_append]
  lia
theorem Full.fr {a : Ad} {H H' : Hp} {g : GA} {G G' : Gv} {m : Nat} (h : Full a H g G) (f : Fr g H H') (at2 : GroveAt a H' g G') (go : Goes G G' m) : Full a H' g G' := by
  obtain ⟨at', ok, ⟨r, g0⟩, br, ⟨ks, h1, h2⟩, ⟨ks', h3, h4⟩, n1, n2, n3⟩ := h
  obtain ⟨us, hp, _⟩ := at'.pt
  have keep : ∀ {b : Addr} {o : HO}, H b = some o → (∀ l, o ≠ .lst l) → (∀ l, o ≠ .dT l) → H' b = some o := fun {b o} e z1 z2 => f _ _ e (ne_of e at'.lv (z1 _)) (ne_of e hp (z1 _)) (ne_of e at'.nm (z2 _))
  obtain ⟨t, et⟩ := go.pre
  refine ⟨at2, go.ok, ⟨r ++ t, by rw [et, g0, List.append_assoc]⟩, f _ _ br n1 n2 (ne_of br at'.nm (by intro z; cases z)), ⟨ks, keep h1 (by intro l z; cases z) (by intro l z; cases z), h2.app ok go⟩, ⟨ks', keep h3 (by intro l z; cases z) (by intro l z; cases z), h4.keys.app go.le, fun i v e => ?_⟩, n1, n2, n3⟩
  obtain ⟨l, b, t, e1, e2, e3, e4⟩ := h4.val i v e
  exact ⟨l, b, t, go.lev e1, by rw [boxF_app ok go l i e1]; exact e2, e3, keep e4 (by intro l z; cases z) (by intro l z; cases z)⟩
/-- all but what the grove remembers stays -/
def FrQ (g : GA) (H H' : Hp) : Prop := ∀ b o, H b = some o → b ≠ g.am → b ≠ g.bx → H' b = some o
theorem FrQ.refl (g : GA) (H : Hp) : FrQ g H H := fun _ _ e _ _ => e
theorem FrQ.trans {g : GA} {H1 H2 H3 : Hp} (h : FrQ g H1 H2) (h2 : FrQ g H2 H3) : FrQ g H1 H3 := fun b o e n1 n2 => h2 b o (h b o e n1 n2) n1 n2
theorem Same.frq {g : GA} {H1 H2 : Hp} (h : Same H1 H2) : FrQ g H1 H2 := fun b o e _ _ => h b o e
theorem GroveAt.dict {a : Ad} {H : Hp} {g : GA} {G : Gv} {d : Addr} {ks : List (Key × V)} {o : HO} (hd : H d = some (.dK ks)) (h : GroveAt a H g G) : GroveAt a (upd H d o) g G := by
  obtain ⟨h1, h2, ⟨ts, h3, h4⟩, h5, h6⟩ := h
  have other : ∀ {b v}, H b = some v → v ≠ .dK ks → upd H d o b = some v := fun {b v} e n => by rw [upd_ne (ne_of e hd n)]; exact e
  exact ⟨other h1 (by intro z; cases z), other h2 (by intro z; cases z), ⟨ts, other h3 (by intro z; cases z), PairedM.imp (fun t q z => other z (by intro z; cases z)) h4⟩, other h5 (by intro z; cases z), h6⟩
theorem Full.am_put {a : Ad} {H : Hp} {g : GA} {G : Gv} {ks ks2 : List (Key × V)} (h : Full a H g G) (e : H g.am = some (.dK ks)) (h2 : AmOk G ks2) : Full a (upd H g.am (.dK ks2)) g G ∧ FrQ g H (upd H g.am (.dK ks2)) := by
  obtain ⟨at', ok, g0, br, ⟨_, _, _⟩, ⟨ks', h3, h4⟩, n1, n2, n3⟩ := h
  have other : ∀ {b v}, H b = some v → v ≠ .dK ks → upd H g.am (.dK ks2) b = some v := fun {b v} e' n => by rw [upd_ne (ne_of e' e n)]; exact e'
  refine ⟨⟨at'.dict e, ok, g0, other br (by intro z; cases z), ⟨_, upd_same, h2⟩, ⟨ks', by rw [upd_ne (Ne.symm n3)]; exact h3, h4.keys, fun i v e => ?_⟩, n1, n2, n3⟩, fun b o e' m1 _ => by rw [upd_ne m1]; exact e'⟩
  obtain ⟨l, b, t, e1, e2, e3, e4⟩ := h4.val i v e
  exact ⟨l, b, t, e1, e2, e3, other e4 (by intro z; cases z)⟩
theorem no_counted (g : GA) : (fl6 g).lookup ("counted" : Str) = none := fl6_no g (by decide +kernel) (by decide +kernel) (by decide +kernel) (by decide +kernel) (by decide +kernel) (by decide +kernel)
theorem no_living (g : GA) : (fl6 g).lookup ("living" : Str) = none := fl6_no g (by decide +kernel) (by decide +kernel) (by decide +kernel) (by decide +kernel) (by decide +kernel) (by decide +kernel)
end J

set_option maxHeartbeats 200000
set_option Elab.async false
set_option linter.all false
set_option maxRecDepth 100000
set_option maxHeartbeats 1000000
/-! The grove: living. -/
namespace J
open PySem L2
theorem Node.mem {G : Gv} {n i : Nat} {q : Sq} {x y z w : Nat} (h : Node G n i q x y z w) {j : Nat} {v : V} (e : (q.parts.map V.int)[j]? = some v) : ∃ k : Nat, v = .int k ∧ LevAt G k n ∧ q.parts[j]? = some (k : Int) := by
  rw [List.getElem?_map] at e
  obtain ⟨p, hp, rfl⟩ := Option.map_eq_some_iff.mp e
  have hm := List.mem_of_getElem? hp
  rw [h.ps] at hm
  simp only [List.mem_cons, List.not_mem_nil, or_false] at hm
  rcases hm with rfl | rfl | rfl | rfl
  · exact ⟨x, rfl, h.hx, hp⟩
  · exact ⟨y, rfl, h.hy, hp⟩
  · exact ⟨z, rfl, h.hz, hp⟩
  · exact ⟨w, rfl, h.hw, hp⟩
section
variable {P : Program} {w : World} {K : PySem.W.Frag} {mg : Str → Option Value} {base : Heap} {a : Ad}
inductive SpCnt (a : Ad) (n : Nat) (vs : List V) (H : Hp) (Q : VK) : Prop
  | mk (g : GA) (G : Gv) (i l : Nat) (_ : vs = [.ref g.p, .int i]) (_ : Full a H g G) (_ : LevAt G i l) (_ : l < n) (_ : G.length < 9000000) (_ : ∀ H', FrQ g H H' → Full a H' g G → Q (.int (cntF G l i)) H') : SpCnt a n vs H Q
def spCnt (a : Ad) (n : Nat) : Sp := fun vs H Q _ => SpCnt a n vs H Q
theorem ok_cnt {f : Addr} {fd : FuncData} (F : Fun K "counted" "Grove.counted" s_Grove_counted f fd) (T : Top K mg a) (Me : Meth K a.c_Grove "counted" f) (Bi : Binds K fd p_Grove_counted []) : ∀ n, FnOk P w K mg base CX0 (n + 1) f fd p_Grove_counted (spCnt a n)
  | 0 => by
    refine F.ok sc_Grove_counted (fun vs H Q E h => ?_) (fun cdv A outer s H vs Q E hr h => ?_)
    · obtain ⟨g, G, i, l, rfl, _, _, h0, _⟩ := h
      exact absurd h0 (Nat.not_lt_zero _)
    · obtain ⟨g, G, i, l, rfl, _, _, h0, _⟩ := h
      exact absurd h0 (Nat.not_lt_zero _)
  | n + 1 => by
    have M_Grove_counted : CalM P w K mg base CX0 (n + 1) a.c_Grove "counted" p_Grove_counted (spCnt a n) := ⟨⟨f, fd, ok_cnt F T Me Bi n, Me, Bi⟩, T.cl_Grove⟩
    refine F.ok sc_Grove_counted (fun vs H Q E h => ?_) (fun cdv A outer s H vs Q E hr h => ?_)
    · obtain ⟨g, G, i, l, rfl, _⟩ := h
      rfl
    · obtain ⟨g, G, i, l, rfl, fu, hl, ln, few, k⟩ := h
      obtain ⟨ks, ham, aok⟩ := fu.am
      refine ⟨_, (@pss_cons _ _ _ _ _ (@ps_set _ _ (2) _ _ _ _ sc_Grove_counted.nd rfl (Or.inl rfl) (@pe_dget1 _ _ _ _ _ _ _ (hu_of hr) (@pe_fld _ _ _ _ _ (pv 0) rfl) (pv 1) ⟨rfl, rfl, rfl, rfl⟩) rfl (by first | exact .inl rfl | exact .inr rfl | assumption)) (@pss_cons _ _ _ _ _ (@ps_if _ _ _ _ _ _ _ _ (@pt_cmpR _ _ _ _ _ _ _ _ (@op_isN _) (pv 2) (@pe_non _ _ _) (nomark _)) (@pss_cons _ _ _ _ _ (@ps_set _ _ (2) _ _ _ _ sc_Grove_counted.nd rfl (Or.inl rfl) (@pe_callB _ _ _ _ _ _ _ _ _ (@call_sum _ rfl) rfl T.b_sum PyProof.Rows.boot_sum (@pa_cons _ _ _ _ _ (@pe_comp _ _ _ _ _ _ _ _ _ _ _ _ _ _ rfl (@CScope.of _ ((defScope s_Grove_counted)) (n_Grove_counted) _ (["quarter", "self"]) (1) ([0]) rfl rfl (by decide +kernel)) (@pi_tup _ _ _ _ (@pe_ix _ _ _ _ _ _ _ (@ix_list _) (@pe_fld _ _ _ _ _ (pv 0) rfl) (pv 1) (fun _ _ => rfl))) (fun _ _ _ => (@pgc_name _ _ _ _ _ _ _ _ (0) (by decide +kernel) rfl rfl)) (fun _ _ _ => (@pts_nil _)) (fun _ _ _ => (@pe_calm _ _ _ _ _ _ _ _ _ _ _ _ _ _ _ _ (pv 1) M_Grove_counted (rm hr) pass0 (@pa_cons _ _ _ _ _ (pv 0) (@pa_nil _) rfl) rfl rfl rfl)) (by intro _ ; rfl)) (@pa_nil _) rfl) (by decide) (by decide) rfl rfl) rfl (by first | exact .inl rfl | exact .inr rfl | assumption)) (@pss_one _ _ _ (@ps_dput _ _ _ _ _ _ _ _ _ (hu_of hr) (@pe_fld _ _ _ _ _ (pv 0) rfl) (pv 1) (pv 2) rfl))) (@pss_nil _)) (@pss_one _ _ _ (@ps_ret _ _ _ _ (pv 2))))), ?_⟩
      try dsimp only [cxK]
      refine ⟨_, rfl, g.p, _, g.dx, _, _, rfl, fu.at'.hp, T.cl_Grove, T.na_Grove_amounts, fl6_am g, g.am, rfl, .inl ⟨_, .inl ham⟩, _, rfl, _, DGet.k (k := Sum.inl (i : Int)) ham, ?_⟩
      cases e : valV ks (Sum.inl (i : Int)) with
      | some v =>
        obtain ⟨l', hl', rfl⟩ := aok.val i v e
        have el : l' = l := Int.ofNat.inj (hl'.uniq hl)
        subst el
        exact ⟨_, rfl, rfl, _, rfl, iteF ⟨_, rfl, k H (FrQ.refl g H) fu⟩⟩
      | none =>
        refine ⟨_, rfl, rfl, _, rfl, iteT ?_⟩
        cases l with
        | zero =>
          obtain ⟨v, ev⟩ := aok.leaf i (leaf_of fu.ok hl)
          rw [e] at ev
          cases ev
        | succ m =>
          obtain ⟨q, x, y, z, w, nd⟩ := node_of fu.ok hl
          obtain ⟨ts, h3, h4⟩ := fu.at'.pt
          obtain ⟨t, et, ht⟩ := PairedM.get h4 nd.g
          have ht : H t = some (.tup (q.parts.map V.int)) := ht
          have nt := fu.ne_am ht (by intro l z; cases z)
          refine ⟨_, rfl, g.p, _, g.dx, _, _, rfl, fu.at'.hp, T.cl_Grove, T.na_Grove_parts, fl6_pt g, _, rfl, g.pt, _, (i : Int), .ref t, rfl, rfl, SqL.of h3, atI_nat (by rw [List.getElem?_map, et]; rfl), t, rfl, ⟨_, SqT.of ht⟩, ?_⟩
          refine blk_tup (xs := q.parts.map V.int) (fun j acc H2 => FrQ g H H2 ∧ Full a H2 g G ∧ acc = ((q.parts.take j).map fun (p : Int) => cntF G m p.toNat).map V.int) ⟨FrQ.refl g H, fu, rfl⟩ (fun j acc H2 _ z => SqT.of (z.1 _ _ ht nt.1 nt.2)) ?_ ?_
          · rintro j v acc H2 ev ⟨fr, fu2, rfl⟩
            obtain ⟨k', rfl, hk, ek⟩ := nd.mem ev
            refine ⟨⟨[some (.int k')], rfl, rfl⟩, by rw [List.length_map, List.length_map, List.length_take, nd.ps]; exact lt_ln (by show min j 4 < 10000000; lia), tyes ⟨_, rfl, g.p, g.dx, _, rfl, fu2.at'.hp, no_counted g, _, rfl, g, G, k', m, rfl, fu2, hk, by lia, few, fun H3 fr3 fu3 => ⟨fr.trans fr3, fu3, ?_⟩⟩⟩
            rw [List.take_add_one, ek, List.map_append, List.map_append]
            rfl
          · rintro acc H2 ⟨fr, fu2, rfl⟩ qd hq
            rw [List.length_map, List.take_length] at *
            have s3 := same_up (o := .lst ((q.parts.map fun (p : Int) => cntF G m p.toNat).map V.int)) hq
            have fu3 := fu2.same s3
            refine ⟨qd, q.parts.map fun (p : Int) => cntF G m p.toNat, rfl, SqL.of upd_same, ?_⟩
            generalize upd H2 qd (.lst ((q.parts.map fun (p : Int) => cntF G m p.toNat).map V.int)) = H3 at s3 fu3 ⊢
            obtain ⟨ks3, ham3, aok3⟩ := fu3.am
            have lk := aok3.keys.len
            have es : (q.parts.map fun (p : Int) => cntF G m p.toNat).sum = cntF G (m + 1) i := by
              rw [cntF_node nd, nd.ps]
              rfl
            rw [es]
            obtain ⟨fu4, fr4⟩ := fu3.am_put ham3 (aok3.put (l := m + 1) hl)
            exact ⟨_, rfl, _, rfl, g.p, _, g.dx, _, _, rfl, fu3.at'.hp, T.cl_Grove, T.na_Grove_amounts, fl6_am g, _, rfl, g.am, _, rfl, DPut.k (k := Sum.inl (i : Int)) ham3 (lt_ln (by lia)), ⟨_, rfl, k _ ((fr.trans (Same.frq s3)).trans fr4) fu4⟩⟩
inductive SpLiv (a : Ad) (vs : List V) (H : Hp) (Q : VK) : Prop
  | mk (g : GA) (G : Gv) (i l : Nat) (_ : vs = [.ref g.p, .int i]) (_ : Full a H g G) (_ : LevAt G i l) (_ : G.length < 9000000) (_ : ∀ H', FrQ g H H' → Full a H' g G → Q (.int (cntF G l i)) H') : SpLiv a vs H Q
def spLiv (a : Ad) : Sp := fun vs H Q _ => SpLiv a vs H Q
theorem ok_liv {f : Addr} {fd : FuncData} (F : Fun K "living" "Grove.living" s_Grove_living f fd) (T : Top K mg a) (M_Grove_check_square : CalM P w K mg base CX0 2 a.c_Grove "check_square" p_Grove_check_square (spChk a)) (M_Grove_counted : CalM P w K mg base CX0 50 a.c_Grove "counted" p_Grove_counted (spCnt a 49)) : FnOk P w K mg base CX0 51 f fd p_Grove_living (spLiv a) := by
  refine F.ok sc_Grove_living (fun vs H Q E h => ?_) (fun cdv A outer s H vs Q E hr h => ?_)
  · obtain ⟨g, G, i, l, rfl, _⟩ := h
    rfl
  · obtain ⟨g, G, i, l, rfl, fu, hl, few, k⟩ := h
    refine ⟨_, (@pss_cons _ _ _ _ _ (@ps_expr _ _ _ _ (@pe_calm _ _ _ _ _ _ _ _ _ _ _ _ _ _ _ _ (pv 0) M_Grove_check_square (rm hr) pass0 (@pa_cons _ _ _ _ _ (pv 1) (@pa_nil _) rfl) rfl rfl rfl) rfl) (@pss_one _ _ _ (@ps_ret _ _ _ _ (@pe_calm _ _ _ _ _ _ _ _ _ _ _ _ _ _ _ _ (pv 0) M_Grove_counted (rm hr) pass0 (@pa_cons _ _ _ _ _ (pv 1) (@pa_nil _) rfl) rfl rfl rfl)))), ?_⟩
    try dsimp only [cxK]
    have l48 : l < 49 := by
      obtain ⟨q, e, el⟩ := id hl
      have := (fu.ok.lev e).2
      lia
    refine ⟨_, rfl, g.p, g.dx, _, rfl, fu.at'.hp, no_check g, _, rfl, g, G, i, rfl, fu.at', hl.lt, ?_⟩
    exact ⟨_, rfl, g.p, g.dx, _, rfl, fu.at'.hp, no_counted g, _, rfl, g, G, i, l, rfl, fu, hl, l48, few, k⟩
end
end J

set_option maxHeartbeats 200000
set_option Elab.async false
set_option linter.all false
set_option maxRecDepth 100000
set_option maxHeartbeats 1000000
/-! The grove: spans. -/
namespace J
open PySem L2
section
variable {P : Program} {w : World} {K : PySem.W.Frag} {mg : Str → Option Value} {base : Heap} {a : Ad}
end
end J

set_option maxHeartbeats 200000
set_option Elab.async false
set_option linter.all false
set_option maxRecDepth 100000
/-! _law_at, for the laws of groves. -/
namespace J
open PySem L2
section
variable {P : Program} {w : World} {K : PySem.W.Frag} {mg : Str → Option Value} {base : Heap} {a : Ad}
end
inductive SpLaw (K : PySem.W.Frag) (vs : List V) (H : Hp) (Q : VK) : Prop
  | mk (a : Addr) (ns : List Int) (_ : vs = [.ref a]) (_ : SqL K H a (ns.map V.int)) (_ : ns.length ≤ 63) (_ : ∀ H', Q (.bl true) H') : SpLaw K vs H Q
def spLaw (K : PySem.W.Frag) : Sp := fun vs H Q _ => SpLaw K vs H Q
end J

set_option Elab.async false
set_option linter.all false
set_option maxRecDepth 100000
set_option maxHeartbeats 1000000
/-! Laws of groves: what several of them have. -/
namespace J
open PySem L2
theorem Goes.mono {G G' : Gv} {n m : Nat} (h : Goes G G' n) (e : n ≤ m) : Goes G G' m := ⟨h.ok, h.pre, Nat.le_trans h.few (by lia)⟩
theorem kit_t (K : PySem.W.Frag) : PySem.W.kitOne K (.type "tuple") (.type "tuple") = some true := by kernel_rfl
/-! ### solid squares: how many live, the span -/
section
variable {P : Program} {w : World} {K : PySem.W.Frag} {mg : Str → Option Value} {base : Heap} {a : Ad}
inductive SpSame (vs : List V) (H : Hp) (Q : VK) : Prop
  | mk (i : Int) (_ : vs = [.int i, .int i]) (_ : Q (.bl true) H) : SpSame vs H Q
def spSame : Sp := fun vs H Q _ => SpSame vs H Q
theorem ok_same {f : Addr} {fd : FuncData} (F : Fun K "_law_same" "_law_same" s__law_same f fd) (T : Top K mg a) : FnOk P w K mg base CX0 1 f fd p__law_same spSame := by
  refine F.ok sc__law_same (fun vs H Q E h => ?_) (fun cdv A outer s H vs Q E hr h => ?_)
  · obtain ⟨i, rfl, _⟩ := h
    rfl
  · obtain ⟨i, rfl, k⟩ := h
    refine ⟨_, (@pss_one _ _ _ (@ps_ret _ _ _ _ (@pe_and _ _ _ _ _ _ _ (@pe_callB _ _ _ _ _ _ _ _ _ (@call_isi _) rfl T.b_isinstance PyProof.Rows.boot_isinstance (@pa_cons _ _ _ _ _ (pv 0) (@pa_cons _ _ _ _ _ (@pe_bltn _ _ ((.ty "int")) _ _ rfl T.b_int PyProof.Rows.boot_int rfl (by decide) (by decide)) (@pa_nil _) rfl) rfl) (by decide) (by decide) rfl rfl) (@pe_and _ _ _ _ _ _ _ (@pe_not _ _ _ _ (@pe_callB _ _ _ _ _ _ _ _ _ (@call_isi _) rfl T.b_isinstance PyProof.Rows.boot_isinstance (@pa_cons _ _ _ _ _ (pv 0) (@pa_cons _ _ _ _ _ (@pe_bltn _ _ ((.ty "bool")) _ _ rfl T.b_bool PyProof.Rows.boot_bool rfl (by decide) (by decide)) (@pa_nil _) rfl) rfl) (by decide) (by decide) rfl rfl)) (@pe_one _ _ _ _ _ (@pe_cmpR _ _ _ _ _ _ _ _ (@op_eq _) (pv 0) (pv 1) (nomark _))))))), ?_⟩
    try dsimp only [cxK]
    refine ⟨_, rfl, _, _, _, .type "int", true, rfl, rfl, .of (.int i), (kit_w K).1, true, rfl, iteT ⟨_, rfl, _, _, _, .type "int", false, rfl, rfl, .of (.int i), (kit_w K).2, false, rfl, true, rfl, iteT ⟨_, rfl, _, rfl, rfl, ?_⟩⟩⟩
    rw [decide_eq_true rfl]
    exact k
end
end J

set_option maxHeartbeats 200000
set_option Elab.async false
set_option linter.all false
set_option maxRecDepth 100000
set_option maxHeartbeats 1000000
/-! k15: the law's own rows, and how they go with squares. -/
namespace J
open PySem L2
theorem meetH {T : St → Hp → Prop} {C : Prop} (P : St → Hp → Prop) (h : (∀ σ H, P σ H → T σ H) → C) (k : ∀ σ H, P σ H → T σ H) : C := h k
structure Rw where
  parts : List Int
  lev : Int
  liv : Int
abbrev Rws := List Rw
def Rw.sq (r : Rw) : Sq := ⟨r.parts, r.lev⟩
def sqs (R : Rws) : Gv := R.map Rw.sq
theorem sqs_len (R : Rws) : (sqs R).length = R.length := List.length_map _
theorem sqs_get {R : Rws} {i : Nat} {q : Sq} (h : (sqs R)[i]? = some q) : ∃ r, R[i]? = some r ∧ r.sq = q := by
  unfold sqs at h
  rw [List.getElem?_map] at h
  exact Option.map_eq_some_iff.mp h
def RLev (R : Rws) (x : Nat) (l : Int) : Prop := ∃ r, R[x]? = some r ∧ r.lev = l
theorem RLev.lt {R : Rws} {x : Nat} {l : Int} (h : RLev R x l) : x < R.length := by
  obtain ⟨r, e, _⟩ := h
  exact (List.getElem?_eq_some_iff.mp e).1
theorem RLev.uniq {R : Rws} {x : Nat} {l m : Int} (h : RLev R x l) (h2 : RLev R x m) : l = m := by
  obtain ⟨r, e, rfl⟩ := h
  obtain ⟨r2, e2, rfl⟩ := h2
  rw [e] at e2
  cases e2
  rfl
theorem rw_app {R r : Rws} {x : Nat} {q : Rw} (h : R[x]? = some q) : (R ++ r)[x]? = some q := by
  rw [List.getElem?_append_left (List.getElem?_eq_some_iff.mp h).1]
  exact h
theorem RLev.app {R r : Rws} {x : Nat} {l : Int} (h : RLev R x l) : RLev (R ++ r) x l := by
  obtain ⟨q, e, el⟩ := h
  exact ⟨q, rw_app e, el⟩
def livOf (R : Rws) (x : Nat) : Int := match R[x]? with
  | some r => r.liv
  | none => 0
theorem livOf_eq {R : Rws} {x : Nat} {r : Rw} (h : R[x]? = some r) : livOf R x = r.liv := by
  unfold livOf
  rw [h]
theorem livOf_app {R r : Rws} {x : Nat} {l : Int} (h : RLev R x l) : livOf (R ++ r) x = livOf R x := by
  obtain ⟨q, e, _⟩ := h
  rw [livOf_eq e, livOf_eq (rw_app e)]
/-- what a row may be made of: its level, its parts, how many live -/
inductive POk (R : Rws) : Int → List Int → Int → Prop
  | leaf (s : Nat) (h : s < 8) : POk R 0 [(s : Int)] (if s = 0 then 0 else 1)
  | node (l x y z w : Nat) (h : l ≤ 47) (hx : RLev R x l) (hy : RLev R y l) (hz : RLev R z l) (hw : RLev R w l) : POk R ((l : Int) + 1) [(x : Int), (y : Int), (z : Int), (w : Int)] ([x, y, z, w].map (livOf R)).sum
theorem POk.app {R : Rws} (r : Rws) {l : Int} {ps : List Int} {v : Int} (h : POk R l ps v) : POk (R ++ r) l ps v := by
  cases h with
  | leaf s h => exact .leaf s h
  | node l x y z w h hx hy hz hw =>
    have e : ([x, y, z, w].map (livOf R)).sum = ([x, y, z, w].map (livOf (R ++ r))).sum := by
      rw [List.map_cons, List.map_cons, List.map_cons, List.map_cons, List.map_cons, List.map_cons, List.map_cons, List.map_cons, livOf_app hx, livOf_app hy, livOf_app hz, livOf_app hw]
      rfl
    rw [e]
    exact .node l x y z w h hx.app hy.app hz.app hw.app
theorem cast1 {x y : Nat} {r t : List Int} (e : (x : Int) :: r = (y : Int) :: t) : x = y ∧ r = t := by
  injection e with e1 e2
  exact ⟨Int.ofNat.inj e1, e2⟩
theorem cast4 {x y z w a b c d : Nat} (e : [(x : Int), (y : Int), (z : Int), (w : Int)] = [(a : Int), (b : Int), (c : Int), (d : Int)]) : x = a ∧ y = b ∧ z = c ∧ w = d := by
  obtain ⟨h1, e⟩ := cast1 e
  obtain ⟨h2, e⟩ := cast1 e
  obtain ⟨h3, e⟩ := cast1 e
  exact ⟨h1, h2, h3, (cast1 e).1⟩
theorem ne14 {a x y z w : Int} (e : [a] = [x, y, z, w]) : False := by cases e
theorem POk.fn {R : Rws} {l l' : Int} {ps : List Int} {v v' : Int} (h : POk R l ps v) (h2 : POk R l' ps v') : l = l' ∧ v = v' := by
  generalize ep : ps = ps' at h2
  cases h with
  | leaf s hs =>
    cases h2 with
    | leaf s' _ =>
      obtain ⟨rfl, _⟩ := cast1 ep
      exact ⟨rfl, rfl⟩
    | node _ _ _ _ _ _ _ _ _ _ => exact (ne14 ep).elim
  | node l x y z w _ hx _ _ _ =>
    cases h2 with
    | leaf _ _ => exact (ne14 ep.symm).elim
    | node l' x' y' z' w' _ hx' _ _ _ =>
      obtain ⟨rfl, rfl, rfl, rfl⟩ := cast4 ep
      exact ⟨by rw [hx.uniq hx'], rfl⟩
structure ROk (R : Rws) : Prop where
  row : ∀ (i : Nat) (r : Rw), R[i]? = some r → POk R r.lev r.parts r.liv
  nd : (R.map Rw.parts).Nodup
theorem ROk.one {R : Rws} (h : ROk R) {i j : Nat} {p q : Rw} (hi : R[i]? = some p) (hj : R[j]? = some q) (e : p.parts = q.parts) : i = j := by
  have li := (List.getElem?_eq_some_iff.mp hi).1
  have lj := (List.getElem?_eq_some_iff.mp hj).1
  have h1 : (R.map Rw.parts)[i]'(by rw [List.length_map]; exact li) = (R.map Rw.parts)[j]'(by rw [List.length_map]; exact lj) := by
    rw [List.getElem_map, List.getElem_map, (List.getElem?_eq_some_iff.mp hi).2, (List.getElem?_eq_some_iff.mp hj).2, e]
  exact (List.getElem_inj h.nd).mp h1
theorem ROk.snoc {R : Rws} (h : ROk R) {l : Int} {ps : List Int} {v : Int} (p : POk R l ps v) (new : ∀ r ∈ R, r.parts ≠ ps) : ROk (R ++ [⟨ps, l, v⟩]) where
  row := fun i r e => by
    by_cases hl : i < R.length
    · rw [List.getElem?_append_left hl] at e
      exact (h.row i r e).app _
    · rw [List.getElem?_append_right (by lia)] at e
      have : i - R.length = 0 := by
        by_cases z : i - R.length = 0
        · exact z
        · rw [List.getElem?_eq_none (by rw [List.length_singleton]; lia)] at e; cases e
      rw [this] at e
      cases e
      exact p.app _
  nd := by
    rw [List.map_append, List.nodup_append]
    refine ⟨h.nd, by simp, fun p hp p' hp' => ?_⟩
    obtain ⟨q, hq, rfl⟩ := List.mem_map.mp hp
    rw [show p' = ps by simpa using hp']
    exact new q hq
theorem rok0 : ROk [] := ⟨fun i r e => by simp at e, List.nodup_nil⟩
structure More (R R' : Rws) (n : Nat) : Prop where
  ok : ROk R'
  pre : ∃ r, R' = R ++ r
  few : R'.length ≤ R.length + n
theorem More.refl {R : Rws} (h : ROk R) : More R R 0 := ⟨h, ⟨[], by simp⟩, Nat.le_refl _⟩
theorem More.trans {R R' R'' : Rws} {n m : Nat} (h : More R R' n) (h2 : More R' R'' m) : More R R'' (n + m) := by
  obtain ⟨r, e⟩ := h.pre
  obtain ⟨t, e2⟩ := h2.pre
  have := h.few
  have := h2.few
  exact ⟨h2.ok, ⟨r ++ t, by rw [e2, e, List.append_assoc]⟩, by lia⟩
theorem More.mono {R R' : Rws} {n m : Nat} (h : More R R' n) (e : n ≤ m) : More R R' m := ⟨h.ok, h.pre, Nat.le_trans h.few (by lia)⟩
theorem More.get {R R' : Rws} {n i : Nat} {r : Rw} (h : More R R' n) (e : R[i]? = some r) : R'[i]? = some r := by
  obtain ⟨t, rfl⟩ := h.pre
  exact rw_app e
theorem More.lev {R R' : Rws} {n x : Nat} {l : Int} (h : More R R' n) (e : RLev R x l) : RLev R' x l := by
  obtain ⟨q, e, z⟩ := e
  exact ⟨q, h.get e, z⟩
theorem More.le {R R' : Rws} {n : Nat} (h : More R R' n) : R.length ≤ R'.length := by
  obtain ⟨r, e⟩ := h.pre
  rw [e, List.length_append]
  lia
/-! ### a row and a square that are alike -/
inductive Rel (R : Rws) (G : Gv) : Nat → Nat → Nat → Prop
  | leaf (i m : Nat) (v : Int) (h : m < 8) (e : R[i]? = some ⟨[(m : Int)], 0, v⟩) : Rel R G 0 i m
  | node (n i m x y z w x' y' z' w' : Nat) (v : Int) (e : R[i]? = some ⟨[(x : Int), (y : Int), (z : Int), (w : Int)], (n : Int) + 1, v⟩) (e' : G[m]? = some ⟨[(x' : Int), (y' : Int), (z' : Int), (w' : Int)], (n : Int) + 1⟩) (hx : Rel R G n x x') (hy : Rel R G n y y') (hz : Rel R G n z z') (hw : Rel R G n w w') : Rel R G (n + 1) i m
theorem Rel.go {R R' : Rws} {G G' : Gv} {a b : Nat} (mo : More R R' a) (go : Goes G G' b) {n i m : Nat} (h : Rel R G n i m) : Rel R' G' n i m := by
  induction h with
  | leaf i m v h e => exact .leaf i m v h (mo.get e)
  | node n i m x y z w x' y' z' w' v e e' _ _ _ _ hx hy hz hw => exact .node n i m x y z w x' y' z' w' v (mo.get e) (go.get e') hx hy hz hw
theorem Rel.rlev {R : Rws} {G : Gv} {n i m : Nat} (h : Rel R G n i m) : RLev R i n := by
  cases h with
  | leaf _ _ _ _ e => exact ⟨_, e, rfl⟩
  | node _ _ _ _ _ _ _ _ _ _ _ _ e => exact ⟨_, e, rfl⟩
theorem Rel.lev {R : Rws} {G : Gv} (ok : GOk G) {n i m : Nat} (h : Rel R G n i m) : LevAt G m n := by
  cases h with
  | leaf _ _ _ h _ => exact ⟨_, ok.leaf m h, rfl⟩
  | node _ _ _ _ _ _ _ _ _ _ _ _ _ e' => exact ⟨_, e', rfl⟩
theorem row_eq {R : Rws} {i : Nat} {p q : List Int} {l m v u : Int} (e : R[i]? = some ⟨p, l, v⟩) (e2 : R[i]? = some ⟨q, m, u⟩) : p = q := by
  rw [e] at e2
  cases e2
  rfl
theorem sq_eq {G : Gv} {i : Nat} {p q : List Int} {l m : Int} (e : G[i]? = some ⟨p, l⟩) (e2 : G[i]? = some ⟨q, m⟩) : p = q := by
  rw [e] at e2
  cases e2
  rfl
theorem Rel.fn {R : Rws} {G : Gv} (ok : GOk G) {n i m : Nat} (h : Rel R G n i m) : ∀ {n' m' : Nat}, Rel R G n' i m' → m = m' := by
  induction h with
  | leaf i m v h e =>
    intro n' m' h2
    cases h2 with
    | leaf _ _ _ _ e2 => exact (cast1 (row_eq e e2)).1
    | node _ _ _ _ _ _ _ _ _ _ _ _ e2 => exact (ne14 (row_eq e e2)).elim
  | node n i m x y z w x' y' z' w' v e e' _ _ _ _ hx hy hz hw =>
    intro n' m' h2
    cases h2 with
    | leaf _ _ _ _ e2 => exact (ne14 (row_eq e e2).symm).elim
    | node n2 _ _ a b c d a' b' c' d' v2 e2 e2' hx2 hy2 hz2 hw2 =>
      obtain ⟨rfl, rfl, rfl, rfl⟩ := cast4 (row_eq e e2)
      obtain rfl := hx hx2
      obtain rfl := hy hy2
      obtain rfl := hz hz2
      obtain rfl := hw hw2
      exact ok.one e' e2' rfl
theorem Rel.inj {R : Rws} {G : Gv} (rk : ROk R) (ok : GOk G) {n i m : Nat} (h : Rel R G n i m) : ∀ {n' j : Nat}, Rel R G n' j m → i = j := by
  induction h with
  | leaf i m v h e =>
    intro n' j h2
    cases h2 with
    | leaf _ _ _ _ e2 => exact rk.one e e2 rfl
    | node _ _ _ _ _ _ _ _ _ _ _ _ _ e2 => exact (ne14 (sq_eq (ok.leaf m h) e2)).elim
  | node n i m x y z w x' y' z' w' v e e' _ _ _ _ hx hy hz hw =>
    intro n' j h2
    cases h2 with
    | leaf _ _ _ h _ => exact (ne14 (sq_eq (ok.leaf m h) e')).elim
    | node n2 _ _ a b c d a' b' c' d' v2 e2 e2' hx2 hy2 hz2 hw2 =>
      obtain ⟨rfl, rfl, rfl, rfl⟩ := cast4 (sq_eq e' e2')
      obtain rfl := hx hx2
      obtain rfl := hy hy2
      obtain rfl := hz hz2
      obtain rfl := hw hw2
      exact rk.one e e2 rfl
theorem Rel.liv {R : Rws} {G : Gv} (rk : ROk R) (ok : GOk G) {n i m : Nat} (h : Rel R G n i m) : livOf R i = cntF G n m := by
  induction h with
  | leaf i m v h e =>
    rw [livOf_eq e]
    have p := rk.row i _ e
    exact (POk.fn p (.leaf m h)).2
  | node n i m x y z w x' y' z' w' v e e' rx ry rz rw' hx hy hz hw =>
    have p := rk.row i _ e
    have := (POk.fn p (.node n x y z w (by
      obtain ⟨q, e0, el⟩ := Rel.lev ok (.node n i m x y z w x' y' z' w' v e e' rx ry rz rw')
      have := (ok.lev e0).2
      lia) rx.rlev ry.rlev rz.rlev rw'.rlev)).2
    have nd : Node G n m _ x' y' z' w' := ⟨e', rfl, rfl, rx.lev ok, ry.lev ok, rz.lev ok, rw'.lev ok⟩
    rw [livOf_eq e, cntF_node nd, this]
    show livOf R x + (livOf R y + (livOf R z + (livOf R w + 0))) = cntF G n x' + (cntF G n y' + (cntF G n z' + (cntF G n w' + 0)))
    rw [hx, hy, hz, hw]
/-- rows that are even -/
def EvR (R : Rws) (s : Nat) : Nat → Nat → Prop
  | 0, i => ∃ v, R[i]? = some ⟨[(s : Int)], 0, v⟩
  | l + 1, i => ∃ (j : Nat) (v : Int), EvR R s l j ∧ R[i]? = some ⟨[(j : Int), (j : Int), (j : Int), (j : Int)], (l : Int) + 1, v⟩
theorem EvR.rel {R : Rws} {G : Gv} {s : Nat} (hs : s < 8) : ∀ {l i n : Nat}, EvR R s l i → Sol G s l n → Rel R G l i n
  | 0, i, n, h, h2 => by
    have h2 : n = s := h2
    subst h2
    obtain ⟨v, e⟩ := h
    exact .leaf i n v hs e
  | l + 1, i, n, h, h2 => by
    obtain ⟨j, v, h, e⟩ := h
    obtain ⟨m, h2, e2⟩ := h2
    have := EvR.rel hs h h2
    exact .node l i n j j j j m m m m v e e2 this this this this
theorem EvR.lev {R : Rws} {s : Nat} : ∀ {l i : Nat}, EvR R s l i → RLev R i l
  | 0, i, h => by
    obtain ⟨v, e⟩ := h
    exact ⟨_, e, rfl⟩
  | l + 1, i, h => by
    obtain ⟨j, v, _, e⟩ := h
    exact ⟨_, e, rfl⟩
theorem EvR.more {R R' : Rws} {k s : Nat} (h : More R R' k) : ∀ {l i : Nat}, EvR R s l i → EvR R' s l i
  | 0, i, e => by
    obtain ⟨v, e⟩ := e
    exact ⟨v, h.get e⟩
  | l + 1, i, e => by
    obtain ⟨j, v, e1, e2⟩ := e
    exact ⟨j, v, EvR.more h e1, h.get e2⟩
/-! ### all but some places stays -/
def Fix : HO → Prop
  | .tup _ => True
  | .ins _ _ _ => True
  | _ => False
def Fx (l : List Addr) (H H' : Hp) : Prop := ∀ b o, H b = some o → (b ∈ l → Fix o) → H' b = some o
theorem Fx.refl (l : List Addr) (H : Hp) : Fx l H H := fun _ _ e _ => e
theorem Fx.trans {l : List Addr} {H1 H2 H3 : Hp} (h : Fx l H1 H2) (h2 : Fx l H2 H3) : Fx l H1 H3 := fun b o e n => h2 b o (h b o e n) n
theorem Same.fx {l : List Addr} {H1 H2 : Hp} (h : Same H1 H2) : Fx l H1 H2 := fun b o e _ => h b o e
theorem Fx.mono {l m : List Addr} {H1 H2 : Hp} (h : Fx l H1 H2) (s : ∀ x ∈ l, x ∈ m) : Fx m H1 H2 := fun b o e n => h b o e fun z => n (s b z)
theorem Fx.get {l : List Addr} {H1 H2 : Hp} (h : Fx l H1 H2) {b : Addr} {o : HO} (n : b ∉ l) (e : H1 b = some o) : H2 b = some o := h b o e fun z => absurd z n
theorem Fx.tup {l : List Addr} {H1 H2 : Hp} (h : Fx l H1 H2) {b : Addr} {xs : List V} (e : H1 b = some (.tup xs)) : H2 b = some (.tup xs) := h b _ e fun _ => True.intro
theorem fx_up {H : Hp} {x : Addr} {o o' : HO} (e : H x = some o) (n : ¬ Fix o) : Fx [x] H (upd H x o') := fun b u e2 f => by
  by_cases z : b = x
  · subst z
    rw [e] at e2
    cases e2
    exact absurd (f (List.mem_singleton.mpr rfl)) n
  · rw [upd_ne z]
    exact e2
theorem Fr.fx {a : Ad} {g : GA} {G : Gv} {H H' : Hp} (h : Fr g H H') (at' : GroveAt a H g G) : Fx [g.lv, g.pt, g.nm] H H' := fun b o e f => by
  obtain ⟨ts, h3, _⟩ := at'.pt
  refine h b o e (fun z => ?_) (fun z => ?_) (fun z => ?_)
  · subst z; rw [at'.lv] at e; cases e; exact f (by simp)
  · subst z; rw [h3] at e; cases e; exact f (by simp)
  · subst z; rw [at'.nm] at e; cases e; exact f (by simp)
theorem FrQ.fx {a : Ad} {g : GA} {G : Gv} {H H' : Hp} (h : FrQ g H H') (fu : Full a H g G) : Fx [g.am, g.bx] H H' := fun b o e f => by
  obtain ⟨ks, h1, _⟩ := fu.am
  obtain ⟨ks', h2, _⟩ := fu.bx
  refine h b o e (fun z => ?_) (fun z => ?_)
  · subst z; rw [h1] at e; cases e; exact f (by simp)
  · subst z; rw [h2] at e; cases e; exact f (by simp)
def gAll (g : GA) : List Addr := [g.lv, g.pt, g.nm, g.br, g.am, g.bx]
theorem Full.fx {a : Ad} {g : GA} {G : Gv} {H H' : Hp} {l : List Addr} (h : Full a H g G) (f : Fx l H H') (n : ∀ x ∈ gAll g, x ∉ l) : Full a H' g G := by
  obtain ⟨at', ok, g0, br, ⟨ks, h1, h2⟩, ⟨ks', h3, h4⟩, n1, n2, n3⟩ := h
  obtain ⟨p1, p2, ⟨ts, p3, p4⟩, p5, p6⟩ := at'
  have m : ∀ x ∈ gAll g, ∀ o, H x = some o → H' x = some o := fun x hx o e => f.get (n x hx) e
  refine ⟨⟨f _ _ p1 fun _ => True.intro, m _ (by simp [gAll]) _ p2, ⟨ts, m _ (by simp [gAll]) _ p3, PairedM.imp (fun t q z => f.tup z) p4⟩, m _ (by simp [gAll]) _ p5, p6⟩, ok, g0, m _ (by simp [gAll]) _ br, ⟨ks, m _ (by simp [gAll]) _ h1, h2⟩, ⟨ks', m _ (by simp [gAll]) _ h3, h4.keys, fun i v e => ?_⟩, n1, n2, n3⟩
  obtain ⟨l, b, t, e1, e2, e3, e4⟩ := h4.val i v e
  exact ⟨l, b, t, e1, e2, e3, f.tup e4⟩
end J

set_option maxHeartbeats 200000
set_option Elab.async false
set_option linter.all false
set_option maxRecDepth 100000
set_option maxHeartbeats 2000000
/-! k15: the law's own rows in the heap. -/
namespace J
open PySem L2
def RowAt (H : Hp) (t : Addr) (r : Rw) : Prop := ∃ q, H t = some (.tup [.int r.lev, .ref q, .int r.liv]) ∧ H q = some (.tup (r.parts.map V.int))
structure RAt (H : Hp) (ids rw : Addr) (R : Rws) : Prop where
  hi : H ids = some (.dT (kvOf 0 (sqs R)))
  hr : ∃ ts : List Addr, H rw = some (.lst (ts.map V.ref)) ∧ Paired (RowAt H) ts R
theorem RowAt.fx {l : List Addr} {H H' : Hp} (f : Fx l H H') {t : Addr} {r : Rw} (h : RowAt H t r) : RowAt H' t r := by
  obtain ⟨q, h1, h2⟩ := h
  exact ⟨q, f.tup h1, f.tup h2⟩
theorem RAt.fx {l : List Addr} {H H' : Hp} {ids rw : Addr} {R : Rws} (f : Fx l H H') (n1 : ids ∉ l) (n2 : rw ∉ l) (h : RAt H ids rw R) : RAt H' ids rw R := by
  obtain ⟨h1, ts, h2, h3⟩ := h
  exact ⟨f.get n1 h1, ts, f.get n2 h2, PairedM.imp (fun t r z => z.fx f) h3⟩
theorem RAt.same {H H' : Hp} {ids rw : Addr} {R : Rws} (s : Same H H') (h : RAt H ids rw R) : RAt H' ids rw R := h.fx (l := []) (Same.fx s) (by simp) (by simp)
theorem RAt.get {H : Hp} {ids rw : Addr} {R : Rws} (h : RAt H ids rw R) {i : Nat} {r : Rw} (e : R[i]? = some r) : ∃ (ts : List Addr) (t q : Addr), H rw = some (.lst (ts.map V.ref)) ∧ (ts.map V.ref)[i]? = some (.ref t) ∧ H t = some (.tup [.int r.lev, .ref q, .int r.liv]) ∧ H q = some (.tup (r.parts.map V.int)) := by
  obtain ⟨_, ts, h2, h3⟩ := h
  obtain ⟨t, e1, q, e2, e3⟩ := PairedM.get h3 e
  exact ⟨ts, t, q, h2, by rw [List.getElem?_map, e1]; rfl, e2, e3⟩
theorem DGet.kv {H : Hp} {a : Addr} {kvs : List (Key × V)} {k : Key} {v : V} (e : H a = some (.dK kvs)) (h : valV kvs k = some v) : DGet H a (kV k) (some v) := h ▸ DGet.k e
theorem DGet.tv {H : Hp} {a b : Addr} {kvs : List (List Key × V)} {k : List Key} {v : V} (e : H a = some (.dT kvs)) (eb : H b = some (.tup (k.map kV))) (h : valV kvs k = some v) : DGet H a (.ref b) (some v) := h ▸ DGet.t e eb
section
variable {P : Program} {w : World} {K : PySem.W.Frag} {mg : Str → Option Value} {base : Heap} {a : Ad}
inductive SpOwn (vs : List V) (H : Hp) (Q : VK) : Prop
  | mk (ids rw t : Addr) (R : Rws) (l : Int) (ps : List Int) (v : Int) (_ : vs = [.ref ids, .ref rw, .int l, .ref t]) (_ : RAt H ids rw R) (_ : ROk R) (_ : H t = some (.tup (ps.map V.int))) (_ : POk R l ps v) (_ : R.length < 900000) (_ : ∀ (i : Nat) (R' : Rws) (H' : Hp), Fx [ids, rw] H H' → RAt H' ids rw R' → More R R' 1 → R'[i]? = some ⟨ps, l, v⟩ → Q (.int i) H') : SpOwn vs H Q
def spOwn : Sp := fun vs H Q _ => SpOwn vs H Q
theorem ok_own {f : Addr} {fd : FuncData} (F : Fun K "_law_own" "_law_own" s__law_own f fd) (T : Top K mg a) : FnOk P w K mg base CX0 1 f fd p__law_own spOwn := by
  refine F.ok sc__law_own (fun vs H Q E h => ?_) (fun cdv A outer s H vs Q E hr h => ?_)
  · obtain ⟨ids, rw', t, R, l, ps, v, rfl, _⟩ := h
    rfl
  · obtain ⟨ids, rw', t, R, l, ps, v, rfl, ra, ok, ht, po, few, k⟩ := h
    refine ⟨_, (@pss_cons _ _ _ _ _ (@ps_if _ _ _ _ _ _ _ _ (@pt_cmp _ _ _ _ _ _ (@pc_dnotin _ _ _ _ _ (hu_of hr) (pv 3) (pv 0)) (by first | exact nobehind _ (by decide) (by decide) | rfl)) (@pss_cons _ _ _ _ _ (@ps_set _ _ (4) _ _ _ _ sc__law_own.nd rfl (Or.inl rfl) (@pe_int _ _ _ _) rfl (by first | exact .inl rfl | exact .inr rfl | assumption)) (@pss_cons _ _ _ _ _ (@ps_if _ _ _ _ _ _ _ _ (@PW.pt _ _ _ (@pw_and _ _ _ _ _ _ _ (@pt_cmpR _ _ _ _ _ _ _ _ (@op_eq _) (pv 2) (@pe_int _ _ _ _) (nomark _)) (@pw_and1 _ _ _ _ (@pt_cmpR _ _ _ _ _ _ _ _ (@op_gt _) (@pe_ix _ _ _ _ _ _ _ (@ix_tup _) (pv 3) (@pe_int _ _ _ _) (fun _ _ => rfl)) (@pe_int _ _ _ _) (nomark _))))) (@pss_one _ _ _ (@ps_set _ _ (4) _ _ _ _ sc__law_own.nd rfl (Or.inl rfl) (@pe_int _ _ _ _) rfl (by first | exact .inl rfl | exact .inr rfl | assumption))) (@pss_nil _)) (@pss_cons _ _ _ _ _ (@ps_if _ _ _ _ _ _ _ _ (@pt_cmpR _ _ _ _ _ _ _ _ (@op_gt _) (pv 2) (@pe_int _ _ _ _) (nomark _)) (@pss_one _ _ _ (@ps_set _ _ (4) _ _ _ _ sc__law_own.nd rfl (Or.inl rfl) (@pe_callB _ _ _ _ _ _ _ _ _ (@call_sum _ rfl) rfl T.b_sum PyProof.Rows.boot_sum (@pa_cons _ _ _ _ _ (@pe_comp _ _ _ _ _ _ _ _ _ _ _ _ _ _ rfl (@CScope.of _ ((defScope s__law_own)) (n__law_own) _ (["_law_one", "_law_rows"]) (1) ([1]) rfl rfl (by decide +kernel)) (@pi_tup _ _ _ _ (pv 3)) (fun _ _ _ => (@pgc_name _ _ _ _ _ _ _ _ (0) (by decide +kernel) rfl rfl)) (fun _ _ _ => (@pts_nil _)) (fun _ _ _ => (@pe_ix _ _ _ _ _ _ _ (@ixc_tup _ (K) rfl) (@pe_ix _ _ _ _ _ _ _ (@ixc_list _ (K) rfl) (pv 1) (pv 0) (fun _ _ => rfl)) (@pe_int _ _ _ _) (fun _ _ => rfl))) (by intro _ ; rfl)) (@pa_nil _) rfl) (by decide) (by decide) rfl rfl) rfl (by first | exact .inl rfl | exact .inr rfl | assumption))) (@pss_nil _)) (@pss_cons _ _ _ _ _ (@ps_dput _ _ _ _ _ _ _ _ _ (hu_of hr) (pv 0) (pv 3) (@pe_callB _ _ _ _ _ _ _ _ _ (@call_len_seq _) rfl T.b_len PySem.boot_len (@pa_cons _ _ _ _ _ (pv 1) (@pa_nil _) rfl) (by decide) (by decide) rfl rfl) rfl) (@pss_one _ _ _ (@ps_expr _ _ _ _ (@pe_bm _ _ _ _ _ _ _ _ _ _ _ _ PySem.F.plainAttrs_list PySem.F.slot_list_append PySem.F.type_list_append (@mt_append _) (pv 1) (@pa_tup _ _ _ _ _ _ _ (@pa_cons _ _ _ _ _ (pv 2) (@pa_cons _ _ _ _ _ (pv 3) (@pa_cons _ _ _ _ _ (pv 4) (@pa_nil _) rfl) rfl) rfl) (@pa_nil _)) rfl rfl rfl rfl rfl) rfl)))))) (@pss_nil _)) (@pss_one _ _ _ (@ps_ret _ _ _ _ (@pe_dget _ _ _ _ _ _ (hu_of hr) (pv 0) (pv 3) (fun _ _ => rfl))))), ?_⟩
    try dsimp only [cxK]
    have htk : H t = some (.tup ((kOf ps).map kV)) := by rw [kOf_v]; exact ht
    refine ⟨_, rfl, _, rfl, ids, _, rfl, DGet.t (k := kOf ps) ra.hi htk, _, rfl, ?_⟩
    apply meetH (fun σ H2 => ∃ (i : Nat) (R' : Rws), Fx [ids, rw'] H H2 ∧ RAt H2 ids rw' R' ∧ More R R' 1 ∧ R'[i]? = some ⟨ps, l, v⟩ ∧ valV (kvOf 0 (sqs R')) (kOf ps) = some (.int i) ∧ ∃ u : Option V, σ = [some (.ref ids), some (.ref rw'), some (.int l), some (.ref t), u])
    · intro rest
      rcases kv_look ps (sqs R) 0 with ⟨i, q, e1, e2, e3⟩ | ⟨e, new⟩
      · rw [e3]
        refine iteF (rest _ _ ⟨i, R, Fx.refl _ H, ra, (More.refl ok).mono (by lia), ?_, by rw [e3, Nat.zero_add], none, rfl⟩)
        obtain ⟨r, e4, rfl⟩ := sqs_get e1
        have e2 : r.parts = ps := e2
        have p2 := ok.row i r e4
        rw [e2] at p2
        obtain ⟨h1, h2⟩ := p2.fn po
        rw [e4]
        cases r with
        | mk a b c => cases e2; cases h1; cases h2; rfl
      · rw [e]
        refine iteT ?_
        have new : ∀ r ∈ R, r.parts ≠ ps := fun r hr => new r.sq (List.mem_map.mpr ⟨r, hr, rfl⟩)
        -- how many live
        apply meetH (fun σ H2 => Same H H2 ∧ σ = [some (.ref ids), some (.ref rw'), some (.int l), some (.ref t), some (.int v)])
        · intro rest2
          cases po with
          | leaf s hs =>
            refine ⟨_, rfl, rfl, true, rfl, iteT ?_⟩
            refine ⟨_, rfl, t, _, 0, .int s, rfl, rfl, SqT.of ht, atI_nat (j := 0) rfl, _, _, rfl, rfl, _, rfl, ?_⟩
            by_cases h0 : s = 0
            · subst h0
              refine iteF ?_
              exact ⟨_, rfl, _, _, rfl, rfl, _, rfl, iteF (rest2 _ _ ⟨Same.refl H, rfl⟩)⟩
            · rw [decide_eq_true (by lia : (0 : Int) < (s : Int))]
              refine iteT ?_
              rw [if_neg h0] at rest2
              exact ⟨_, rfl, _, _, rfl, rfl, _, rfl, iteF (rest2 _ _ ⟨Same.refl H, rfl⟩)⟩
          | node l x y z w' h47 hx hy hz hw =>
            refine ⟨_, rfl, rfl, false, ?_, iteF ?_⟩
            · exact congrArg V.bl (decide_eq_false (by intro z; injection z with z; lia))
            refine ⟨_, rfl, _, _, rfl, rfl, _, rfl, ?_⟩
            rw [decide_eq_true (by lia : (0 : Int) < (l : Int) + 1)]
            refine iteT ⟨_, rfl, t, rfl, ⟨_, SqT.of ht⟩, ?_⟩
            have mem : ∀ (j : Nat) v, ([(x : Int), (y : Int), (z : Int), (w' : Int)].map V.int)[j]? = some v → ∃ n : Nat, v = .int n ∧ RLev R n l ∧ [x, y, z, w'][j]? = some n := fun j v e => by
              match j, e with
              | 0, e => cases e; exact ⟨x, rfl, hx, rfl⟩
              | 1, e => cases e; exact ⟨y, rfl, hy, rfl⟩
              | 2, e => cases e; exact ⟨z, rfl, hz, rfl⟩
              | 3, e => cases e; exact ⟨w', rfl, hw, rfl⟩
              | j + 4, e => cases e
            refine blk_tup (xs := [(x : Int), (y : Int), (z : Int), (w' : Int)].map V.int) (fun j acc H2 => H = H2 ∧ acc = (([x, y, z, w'].take j).map (livOf R)).map V.int) ⟨rfl, rfl⟩ (fun j acc H2 _ z => z.1 ▸ SqT.of ht) ?_ ?_
            · rintro j v acc H2 ev ⟨rfl, rfl⟩
              obtain ⟨n, rfl, hn, en⟩ := mem j v ev
              obtain ⟨r, er, _⟩ := hn
              obtain ⟨ts, tr, q, a1, a2, a3, a4⟩ := ra.get er
              refine ⟨⟨[some (.int n)], rfl, rfl⟩, by rw [List.length_map, List.length_map, List.length_take]; exact lt_ln (by show min j 4 < 10000000; lia), tyes ⟨_, rfl, _, rfl, rw', _, (n : Int), .ref tr, rfl, rfl, SqL.of a1, atI_nat a2, tr, _, 2, .int r.liv, rfl, rfl, SqT.of a3, atI_nat (j := 2) rfl, rfl, ?_⟩⟩
              rw [List.take_add_one, en, List.map_append, List.map_append]
              show _ = _ ++ [V.int (livOf R n)]
              rw [livOf_eq er]
            · rintro acc H2 ⟨rfl, rfl⟩ qd hq
              exact ⟨qd, [x, y, z, w'].map (livOf R), rfl, SqL.of upd_same, rest2 _ _ ⟨same_up hq, rfl⟩⟩
        rintro σ H2 ⟨s2, rfl⟩
        have ra2 := ra.same s2
        obtain ⟨hi2, ts, hr2, pr2⟩ := ra2
        have ln : ts.length = R.length := Paired.length pr2
        refine ⟨_, rfl, rw', _, rfl, .inl (SqL.of hr2), _, rfl, _, rfl, ids, _, rfl, DPut.t (k := kOf ps) hi2 (s2 _ _ htk) (by rw [kvOf_len, sqs_len]; exact lt_ln (by lia)), ?_⟩
        have hne : rw' ≠ ids := ne_of hr2 hi2 (by intro z; cases z)
        have f3 := fx_up (o' := .dT (putK (kvOf 0 (sqs R)) (kOf ps) (.int ((ts.map V.ref).length : Nat)))) hi2 (fun z => z)
        have hi3 : upd H2 ids (.dT (putK (kvOf 0 (sqs R)) (kOf ps) (.int ((ts.map V.ref).length : Nat)))) ids = some (.dT (kvOf 0 (sqs (R ++ [⟨ps, l, v⟩])))) := by
          rw [upd_same, putK_new _ e]
          unfold sqs
          rw [List.map_append, List.map_cons, List.map_nil, kvOf_snoc, List.length_map, List.length_map, ln, Nat.zero_add]
          rfl
        have hr3 := f3.get (b := rw') (by simpa using hne) hr2
        have pr3 : Paired (RowAt (upd H2 ids (.dT (putK (kvOf 0 (sqs R)) (kOf ps) (.int ((ts.map V.ref).length : Nat)))))) ts R := PairedM.imp (fun t r z => RowAt.fx f3 z) pr2
        have ht3 := f3.tup (s2 _ _ ht)
        have f13 : Fx [ids, rw'] H (upd H2 ids (.dT (putK (kvOf 0 (sqs R)) (kOf ps) (.int ((ts.map V.ref).length : Nat))))) := (Same.fx s2).trans (f3.mono (by simp))
        clear f3
        generalize upd H2 ids (.dT (putK (kvOf 0 (sqs R)) (kOf ps) (.int ((ts.map V.ref).length : Nat)))) = H3 at hi3 hr3 pr3 ht3 f13 ⊢
        refine ⟨_, rfl, .inl ⟨rfl, _, SqL.of hr3⟩, _, rfl, _, rfl, _, rfl, (by show 3 ≤ sizeLine; decide), fun t4 ht4 => ?_⟩
        have s4 := same_up (o := .tup [.int l, .ref t, .int v]) ht4
        have h44 : upd H3 t4 (.tup [.int l, .ref t, .int v]) t4 = some (.tup [.int l, .ref t, .int v]) := upd_same
        generalize upd H3 t4 (.tup [.int l, .ref t, .int v]) = H4 at s4 h44 ⊢
        have hr4 := s4 _ _ hr3
        refine ⟨rw', _, .ref t4, rfl, rfl, hr4, by rw [List.length_map, ln]; exact lt_ln (by lia), ?_⟩
        have f5 := fx_up (o' := .lst (ts.map V.ref ++ [.ref t4])) hr4 (fun z => z)
        refine rest _ _ ⟨R.length, R ++ [⟨ps, l, v⟩], (f13.trans (Same.fx s4)).trans (f5.mono (by simp)), ⟨f5.get (by simpa using Ne.symm hne) (s4 _ _ hi3), ts ++ [t4], by rw [upd_same, List.map_append]; rfl, ?_⟩, ⟨ok.snoc po new, ⟨_, rfl⟩, by rw [List.length_append]; exact Nat.le_refl _⟩, ?_, ?_, _, rfl⟩
        · exact Paired.snoc (PairedM.imp (fun t r z => RowAt.fx f5 (RowAt.fx (l := []) (Same.fx s4) z)) pr3) ⟨t, f5.tup h44, f5.tup (s4 _ _ ht3)⟩
        · rw [List.getElem?_append_right (Nat.le_refl _), Nat.sub_self]
          rfl
        · have e9 : sqs (R ++ [⟨ps, l, v⟩]) = sqs R ++ [⟨ps, l⟩] := by unfold sqs; rw [List.map_append]; rfl
          rw [e9, kvOf_snoc, val_app e, sqs_len, Nat.zero_add]
          exact valV_pos rfl
    rintro σ H2 ⟨i, R', f2, ra2, mo2, e2, ev2, u, rfl⟩
    exact ⟨_, rfl, _, rfl, ids, .int i, rfl, DGet.tv ra2.hi (by rw [kOf_v]; exact f2.tup ht) ev2, k i R' H2 f2 ra2 mo2 e2⟩
inductive SpEven (vs : List V) (H : Hp) (Q : VK) : Prop
  | mk (ids rw : Addr) (R : Rws) (l s : Nat) (_ : vs = [.ref ids, .ref rw, .int l, .int s]) (_ : RAt H ids rw R) (_ : ROk R) (_ : l ≤ 48) (_ : s < 8) (_ : R.length < 800000) (_ : ∀ (i : Nat) (R' : Rws) (H' : Hp), Fx [ids, rw] H H' → RAt H' ids rw R' → More R R' (l + 1) → EvR R' s l i → Q (.int i) H') : SpEven vs H Q
def spEven : Sp := fun vs H Q _ => SpEven vs H Q
theorem ok_even {f : Addr} {fd : FuncData} (F : Fun K "_law_even" "_law_even" s__law_even f fd) (T : Top K mg a) (C__law_own : Cal P w K mg base CX0 1 "_law_own" p__law_own spOwn) : FnOk P w K mg base CX0 2 f fd p__law_even spEven := by
  refine F.ok sc__law_even (fun vs H Q E h => ?_) (fun cdv A outer s H vs Q E hr h => ?_)
  · obtain ⟨ids, rw', R, l, st, rfl, _⟩ := h
    rfl
  · obtain ⟨ids, rw', R, l, st, rfl, ra, ok, l48, s8, few, k⟩ := h
    refine ⟨_, (@pss_cons _ _ _ _ _ (@ps_set _ _ (4) _ _ _ _ sc__law_even.nd rfl (Or.inl rfl) (@pe_cal _ _ _ _ _ _ _ _ _ _ _ _ C__law_own (rm hr) rfl pass0 (@pa_cons _ _ _ _ _ (pv 0) (@pa_cons _ _ _ _ _ (pv 1) (@pa_int _ _ _ _ _ _ (@pa_tup _ _ _ _ _ _ _ (@pa_cons _ _ _ _ _ (pv 3) (@pa_nil _) rfl) (@pa_nil _))) rfl) rfl) (by decide) rfl rfl) rfl (by first | exact .inl rfl | exact .inr rfl | assumption)) (@pss_cons _ _ _ _ _ (@ps_for _ _ _ _ _ _ _ _ PassesOwn.never rfl (@pi_range1 _ _ _ _ _ _ rfl T.b_range (@pa_cons _ _ _ _ _ (pv 2) (@pa_nil _) rfl) rfl) (@pg_name _ _ (5) _ sc__law_even.nd rfl (Or.inl rfl) (by first | exact .inl rfl | exact .inr rfl | assumption)) (@pss_one _ _ _ (@ps_set _ _ (4) _ _ _ _ sc__law_even.nd rfl (Or.inl rfl) (@pe_cal _ _ _ _ _ _ _ _ _ _ _ _ C__law_own (rm hr) rfl pass0 (@pa_cons _ _ _ _ _ (pv 0) (@pa_cons _ _ _ _ _ (pv 1) (@pa_op _ _ _ _ _ _ _ _ _ _ (@op_add _) (pv 5) (@pe_int _ _ _ _) (@pa_tup _ _ _ _ _ _ _ (@pa_cons _ _ _ _ _ (pv 4) (@pa_cons _ _ _ _ _ (pv 4) (@pa_cons _ _ _ _ _ (pv 4) (@pa_cons _ _ _ _ _ (pv 4) (@pa_nil _) rfl) rfl) rfl) rfl) (@pa_nil _))) rfl) rfl) (by decide) rfl rfl) rfl (by first | exact .inl rfl | exact .inr rfl | assumption))) (by intro _ ; rfl)) (@pss_one _ _ _ (@ps_ret _ _ _ _ (pv 4))))), ?_⟩
    try dsimp only [cxK]
    refine ⟨_, rfl, _, rfl, _, rfl, (by show 1 ≤ sizeLine; decide), fun t ht => ?_⟩
    have s1 := same_up (o := .tup [.int st]) ht
    refine ⟨ids, rw', t, R, 0, [(st : Int)], _, rfl, ra.same s1, ok, upd_same, .leaf st s8, by lia, fun i R1 H1 f1 ra1 mo1 e1 => ?_⟩
    refine ⟨_, rfl, _, rfl, by lia, by lia, ?_⟩
    rw [Int.toNat_natCast]
    refine for_range (n := l) (fun i σ H2 => ∃ (R' : Rws) (m : Nat) (u5 : Option V), σ = [some (.ref ids), some (.ref rw'), some (.int l), some (.int st), some (.int m), u5] ∧ Fx [ids, rw'] H H2 ∧ RAt H2 ids rw' R' ∧ More R R' (i + 1) ∧ EvR R' st i m) ⟨R1, i, none, rfl, (Same.fx s1).trans f1, ra1, mo1, _, e1⟩ ?_ ?_
    · rintro i σ H2 hi ⟨R', m, u5, rfl, f2, ra2, mo2, ev2⟩
      have lf := mo2.few
      refine ⟨_, rfl, _, rfl, _, rfl, _, _, rfl, rfl, _, rfl, _, rfl, _, rfl, _, rfl, (by show 4 ≤ sizeLine; decide), fun t3 ht3 => ?_⟩
      have s3 := same_up (o := .tup [.int m, .int m, .int m, .int m]) ht3
      have lm := ev2.lev
      refine ⟨ids, rw', t3, R', (i : Int) + 1, [(m : Int), (m : Int), (m : Int), (m : Int)], _, by show [V.ref ids, V.ref rw', V.int (0 + (i : Int) + 1), V.ref t3] = [V.ref ids, V.ref rw', V.int ((i : Int) + 1), V.ref t3]; rw [Int.zero_add], ra2.same s3, mo2.ok, upd_same, .node i m m m m (by lia) lm lm lm lm, by lia, fun i4 R4 H4 f4 ra4 mo4 e4 => ?_⟩
      exact ⟨R4, i4, _, rfl, (f2.trans (Same.fx s3)).trans f4, ra4, mo2.trans mo4, m, _, ev2.more mo4, e4⟩
    · rintro σ H2 ⟨R', m, u5, rfl, f2, ra2, mo2, ev2⟩
      exact ⟨_, rfl, k m R' H2 f2 ra2 mo2 ev2⟩
end
end J

set_option maxHeartbeats 200000
set_option Elab.async false
set_option linter.all false
set_option maxRecDepth 100000
set_option maxHeartbeats 2000000
/-! k15: numbers agreed. -/
namespace J
open PySem L2
structure KnOk (R : Rws) (G : Gv) (ks : List (Key × V)) : Prop where
  keys : KeysOk (sqs R) ks
  val : ∀ (i : Nat) v, valV ks (Sum.inl (i : Int)) = some v → ∃ m n : Nat, v = .int m ∧ Rel R G n i m
structure BkOk (R : Rws) (G : Gv) (ks : List (Key × V)) : Prop where
  keys : KeysOk G ks
  val : ∀ (m : Nat) v, valV ks (Sum.inl (m : Int)) = some v → ∃ i n : Nat, v = .int i ∧ Rel R G n i m
theorem kn0 (R : Rws) (G : Gv) : KnOk R G [] := ⟨⟨by simp, fun k hk => by simp at hk⟩, fun i v e => by cases e⟩
theorem bk0 (R : Rws) (G : Gv) : BkOk R G [] := ⟨⟨by simp, fun k hk => by simp at hk⟩, fun i v e => by cases e⟩
theorem KnOk.go {R R' : Rws} {G G' : Gv} {a b : Nat} {ks : List (Key × V)} (h : KnOk R G ks) (mo : More R R' a) (go : Goes G G' b) : KnOk R' G' ks := ⟨h.keys.app (by rw [sqs_len, sqs_len]; exact mo.le), fun i v e => by
  obtain ⟨m, n, h1, h2⟩ := h.val i v e
  exact ⟨m, n, h1, h2.go mo go⟩⟩
theorem BkOk.go {R R' : Rws} {G G' : Gv} {a b : Nat} {ks : List (Key × V)} (h : BkOk R G ks) (mo : More R R' a) (go : Goes G G' b) : BkOk R' G' ks := ⟨h.keys.app go.le, fun i v e => by
  obtain ⟨m, n, h1, h2⟩ := h.val i v e
  exact ⟨m, n, h1, h2.go mo go⟩⟩
theorem KnOk.set {R : Rws} {G : Gv} {ks ks' : List (Key × V)} {n i m : Nat} (h : KnOk R G ks) (r : Rel R G n i m) (c : ks' = ks ∨ ks' = putK ks (Sum.inl (i : Int)) (.int m)) : KnOk R G ks' := by
  rcases c with rfl | rfl
  · exact h
  refine ⟨h.keys.put (by rw [sqs_len]; exact r.rlev.lt) _, fun j v e => ?_⟩
  rw [valV_put] at e
  split at e
  · rename_i z
    injection z with z
    have : j = i := Int.ofNat.inj z
    subst this
    cases e
    exact ⟨m, n, rfl, r⟩
  · exact h.val j v e
theorem BkOk.set {R : Rws} {G : Gv} {ks ks' : List (Key × V)} {n i m : Nat} (ok : GOk G) (h : BkOk R G ks) (r : Rel R G n i m) (c : ks' = ks ∨ ks' = putK ks (Sum.inl (m : Int)) (.int i)) : BkOk R G ks' := by
  rcases c with rfl | rfl
  · exact h
  refine ⟨h.keys.put (r.lev ok).lt _, fun j v e => ?_⟩
  rw [valV_put] at e
  split at e
  · rename_i z
    injection z with z
    have : j = m := Int.ofNat.inj z
    subst this
    cases e
    exact ⟨i, n, rfl, r⟩
  · exact h.val j v e
theorem put_has {ks ks' : List (Key × V)} {k : Key} {z : V} (c : ks' = ks ∨ ks' = putK ks k z) {j : Key} (h : ∃ v, valV ks j = some v) : ∃ v, valV ks' j = some v := by
  rcases c with rfl | rfl
  · exact h
  rw [valV_put]
  split
  · exact ⟨_, rfl⟩
  · exact h
theorem sdefK {Q : VK} {H : Hp} {a : Addr} {ks : List (Key × V)} {k : Key} {z : V} (e : H a = some (.dK ks)) (hl : ks.length < sizeLine) (hv : ∀ v, valV ks k = some v → v = z) (q : ∀ H' ks', Fx [a] H H' → H' a = some (.dK ks') → valV ks' k = some z → (ks' = ks ∨ ks' = putK ks k z) → Q z H') : ∃ o H4, DGet H a (kV k) o ∧ DPut H a (kV k) z H4 ∧ (∀ v, o = some v → Q v H) ∧ (o = none → Q z H4) := by
  refine ⟨_, _, DGet.k e, DPut.k e hl, fun v ev => ?_, fun _ => ?_⟩
  · obtain rfl := hv v ev
    exact q H ks (Fx.refl _ H) e ev (.inl rfl)
  · exact q _ _ (fx_up e (fun z => z)) upd_same (by rw [valV_put, if_pos rfl]) (.inr rfl)
theorem ev_val {t : TE} {σ : St} {H : Hp} {Q : VK} (P : V → Hp → Prop) (h : ∀ Q' : VK, (∀ v H', P v H' → Q' v H') → t σ H Q') (q : ∀ v H', P v H' → Q v H') : t σ H Q := h Q q
section
variable {P : Program} {w : World} {K : PySem.W.Frag} {mg : Str → Option Value} {base : Heap} {a : Ad}
inductive SpNum (vs : List V) (H : Hp) (Q : VK) : Prop
  | mk (i : Nat) (_ : vs = [.int i]) (_ : i < 1000000000) (_ : Q (.bl true) H) : SpNum vs H Q
def spNum : Sp := fun vs H Q _ => SpNum vs H Q
theorem ok_num {f : Addr} {fd : FuncData} (F : Fun K "_law_number" "_law_number" s__law_number f fd) (T : Top K mg a) : FnOk P w K mg base CX0 1 f fd p__law_number spNum := by
  refine F.ok sc__law_number (fun vs H Q E h => ?_) (fun cdv A outer s H vs Q E hr h => ?_)
  · obtain ⟨i, rfl, _⟩ := h
    rfl
  · obtain ⟨i, rfl, h1, k⟩ := h
    refine ⟨_, (@pss_one _ _ _ (@ps_ret _ _ _ _ (@pe_and _ _ _ _ _ _ _ (@pe_callB _ _ _ _ _ _ _ _ _ (@call_isi _) rfl T.b_isinstance PyProof.Rows.boot_isinstance (@pa_cons _ _ _ _ _ (pv 0) (@pa_cons _ _ _ _ _ (@pe_bltn _ _ ((.ty "int")) _ _ rfl T.b_int PyProof.Rows.boot_int rfl (by decide) (by decide)) (@pa_nil _) rfl) rfl) (by decide) (by decide) rfl rfl) (@pe_and _ _ _ _ _ _ _ (@pe_not _ _ _ _ (@pe_callB _ _ _ _ _ _ _ _ _ (@call_isi _) rfl T.b_isinstance PyProof.Rows.boot_isinstance (@pa_cons _ _ _ _ _ (pv 0) (@pa_cons _ _ _ _ _ (@pe_bltn _ _ ((.ty "bool")) _ _ rfl T.b_bool PyProof.Rows.boot_bool rfl (by decide) (by decide)) (@pa_nil _) rfl) rfl) (by decide) (by decide) rfl rfl)) (@pe_one _ _ _ _ _ (@pe_chain _ _ _ _ _ _ _ _ _ _ _ _ (@op_le _) (@op_lt _) (@pe_int _ _ _ _) (pv 0) (@pe_op _ _ _ _ _ _ _ _ (@op_pow _) (@pe_int _ _ _ _) (@pe_int _ _ _ _)) (by with_unfolding_all rfl))))))), ?_⟩
    try dsimp only [cxK]
    refine ⟨_, rfl, _, _, _, .type "int", true, rfl, rfl, .of (.int i), (kit_w K).1, true, rfl, iteT ⟨_, rfl, _, _, _, .type "int", false, rfl, rfl, .of (.int i), (kit_w K).2, false, rfl, true, rfl, iteT ⟨_, rfl, _, _, rfl, rfl, _, rfl, ?_⟩⟩⟩
    rw [decide_eq_true (by lia : (0 : Int) ≤ (i : Int))]
    refine iteT ⟨_, _, rfl, rfl, ⟨by decide, by decide, by decide⟩, _, _, rfl, rfl, ?_⟩
    show Q (.bl (decide ((i : Int) < 10 ^ 9))) H
    rw [decide_eq_true (by lia)]
    exact k
inductive SpStir (vs : List V) (H : Hp) (Q : VK) : Prop
  | mk (c k : Int) (_ : vs = [.int c, .int k]) (_ : 0 ≤ k) (_ : k ≤ 1000) (_ : ∀ v : Int, Q (.int v) H) : SpStir vs H Q
def spStir : Sp := fun vs H Q _ => SpStir vs H Q
theorem ok_stir {f : Addr} {fd : FuncData} (F : Fun K "_law_stir" "_law_stir" s__law_stir f fd) (T : Top K mg a) : FnOk P w K mg base CX0 1 f fd p__law_stir spStir := by
  refine F.ok sc__law_stir (fun vs H Q E h => ?_) (fun cdv A outer s H vs Q E hr h => ?_)
  · obtain ⟨c, k, rfl, _⟩ := h
    rfl
  · obtain ⟨c, k, rfl, k0, k1, q⟩ := h
    refine ⟨_, (@pss_cons _ _ _ _ _ (@ps_set _ _ (2) _ _ _ _ sc__law_stir.nd rfl (Or.inl rfl) (@pe_op _ _ _ _ _ _ _ _ (@op_mod _) (@pe_op _ _ _ _ _ _ _ _ (@op_add _) (@pe_op _ _ _ _ _ _ _ _ (@op_add _) (@pe_op _ _ _ _ _ _ _ _ (@op_mod _) (pv 0) (@pe_int _ _ _ _)) (@pe_op _ _ _ _ _ _ _ _ (@op_mul _) (@pe_int _ _ _ _) (pv 1))) (@pe_int _ _ _ _)) (@pe_int _ _ _ _)) rfl (by first | exact .inl rfl | exact .inr rfl | assumption)) (@pss_cons _ _ _ _ _ (@ps_set _ _ (2) _ _ _ _ sc__law_stir.nd rfl (Or.inl rfl) (@pe_op _ _ _ _ _ _ _ _ (@op_mod _) (@pe_op _ _ _ _ _ _ _ _ (@op_mul _) (pv 2) (pv 2)) (@pe_int _ _ _ _)) rfl (by first | exact .inl rfl | exact .inr rfl | assumption)) (@pss_one _ _ _ (@ps_ret _ _ _ _ (@pe_op _ _ _ _ _ _ _ _ (@op_fdiv _) (@pe_op _ _ _ _ _ _ _ _ (@op_mod _) (@pe_op _ _ _ _ _ _ _ _ (@op_add _) (@pe_op _ _ _ _ _ _ _ _ (@op_mul _) (pv 2) (@pe_int _ _ _ _)) (pv 1)) (@pe_int _ _ _ _)) (@pe_int _ _ _ _)))))), ?_⟩
    try dsimp only [cxK]
    refine ⟨_, rfl, _, _, rfl, rfl, (by show (0 : Int) < 2147483629; decide), _, rfl, _, _, rfl, rfl, .inl ⟨by decide, by decide⟩, _, _, rfl, rfl, _, _, rfl, rfl, _, _, rfl, rfl, (by show (0 : Int) < 2147483629; decide), ?_⟩
    have m1 := Int.emod_nonneg (c % 2147483629 + 7919 * k + 11) (show (2147483629 : Int) ≠ 0 by decide)
    have m2 := Int.emod_lt_of_pos (c % 2147483629 + 7919 * k + 11) (show (0 : Int) < 2147483629 by decide)
    refine ⟨_, rfl, _, rfl, _, _, rfl, rfl, .inl ⟨Int.lt_of_lt_of_le (by decide) m1, Int.lt_trans m2 (by decide)⟩, _, _, rfl, rfl, (by show (0 : Int) < 2147483587; decide), ?_⟩
    exact ⟨_, rfl, _, _, rfl, rfl, .inr ⟨by decide, by decide⟩, _, rfl, _, _, rfl, rfl, _, _, rfl, rfl, (by show (0 : Int) < 2147483563; decide), _, _, rfl, rfl, ⟨by decide, by decide⟩, q _⟩
inductive SpAgr (vs : List V) (H : Hp) (Q : VK) : Prop
  | mk (kn bk : Addr) (R : Rws) (G : Gv) (ks bs : List (Key × V)) (i m n : Nat) (_ : vs = [.ref kn, .ref bk, .int i, .int m]) (_ : H kn = some (.dK ks)) (_ : H bk = some (.dK bs)) (_ : kn ≠ bk) (_ : ROk R) (_ : GOk G) (_ : KnOk R G ks) (_ : BkOk R G bs) (_ : Rel R G n i m) (_ : R.length < 900000) (_ : G.length < 900000) (_ : ∀ H' ks' bs', Fx [kn, bk] H H' → H' kn = some (.dK ks') → H' bk = some (.dK bs') → KnOk R G ks' → BkOk R G bs' → (∃ v, valV ks' (Sum.inl (i : Int)) = some v) → (∀ j, (∃ v, valV ks j = some v) → ∃ v, valV ks' j = some v) → Q (.bl true) H') : SpAgr vs H Q
def spAgr : Sp := fun vs H Q _ => SpAgr vs H Q
theorem ok_agr {f : Addr} {fd : FuncData} (F : Fun K "_law_agreed" "_law_agreed" s__law_agreed f fd) (T : Top K mg a) (C__law_number : Cal P w K mg base CX0 1 "_law_number" p__law_number spNum) : FnOk P w K mg base CX0 2 f fd p__law_agreed spAgr := by
  refine F.ok sc__law_agreed (fun vs H Q E h => ?_) (fun cdv A outer s H vs Q E hr h => ?_)
  · obtain ⟨kn, bk, R, G, ks, bs, i, m, n, rfl, _⟩ := h
    rfl
  · obtain ⟨kn, bk, R, G, ks, bs, i, m, n, rfl, hk, hb, ne, rk, ok, kok, bok, r, fr, fg, q⟩ := h
    refine ⟨_, (@pss_cons _ _ _ _ _ (@ps_if _ _ _ _ _ _ _ _ (@pt_not _ _ _ _ (@pt_val _ _ _ (@pe_cal _ _ _ _ _ _ _ _ _ _ _ _ C__law_number (rm hr) rfl pass0 (@pa_cons _ _ _ _ _ (pv 3) (@pa_nil _) rfl) (by decide) rfl rfl) (by intro _ ; rfl))) (@pss_one _ _ _ (@ps_ret _ _ _ _ (@pe_bl _ _ _ _))) (@pss_nil _)) (@pss_one _ _ _ (@ps_ret _ _ _ _ (@pe_and _ _ _ _ _ _ _ (@pe_cmpR _ _ _ _ _ _ _ _ (@op_eq _) (@pe_dsdef _ _ _ _ _ _ _ _ _ (hu_of hr) (pv 0) (pv 2) (pv 3) ⟨rfl, rfl, rfl, rfl⟩) (pv 3) (nomark _)) (@pe_one _ _ _ _ _ (@pe_cmpR _ _ _ _ _ _ _ _ (@op_eq _) (@pe_dsdef _ _ _ _ _ _ _ _ _ (hu_of hr) (pv 1) (pv 3) (pv 2) ⟨rfl, rfl, rfl, rfl⟩) (pv 2) (nomark _))))))), ?_⟩
    try dsimp only [cxK]
    have lm := (r.lev ok).lt
    have l1 := kok.keys.len
    have l2 := bok.keys.len
    rw [sqs_len] at l1
    refine ⟨_, rfl, m, rfl, by lia, true, rfl, iteF ?_⟩
    refine ev_val (t := tDSet (tVar 0) (tVar 2) (tVar 3)) (fun v H2 => v = .int m ∧ ∃ ks2, Fx [kn] H H2 ∧ H2 kn = some (.dK ks2) ∧ valV ks2 (Sum.inl (i : Int)) = some (.int m) ∧ (ks2 = ks ∨ ks2 = putK ks (Sum.inl (i : Int)) (.int m))) (fun Q' q' => ⟨_, rfl, kn, rfl, .inl ⟨_, .inl hk⟩, _, rfl, _, rfl, sdefK (k := Sum.inl (i : Int)) (z := .int m) hk (lt_ln (by lia)) (fun v ev => ?_) fun H2 ks2 f2 hk2 v2 c2 => q' _ _ ⟨rfl, ks2, f2, hk2, v2, c2⟩⟩) ?_
    · obtain ⟨m', n', rfl, r'⟩ := kok.val i v ev
      rw [r.fn ok r']
    rintro v H2 ⟨rfl, ks2, f2, hk2, v2, c2⟩
    have hb2 := f2.get (b := bk) (by simpa using Ne.symm ne) hb
    refine ⟨_, rfl, rfl, _, rfl, ?_⟩
    rw [decide_eq_true rfl]
    refine iteT ?_
    refine ev_val (t := tDSet (tVar 1) (tVar 3) (tVar 2)) (fun v H3 => v = .int i ∧ ∃ bs3, Fx [bk] H2 H3 ∧ H3 bk = some (.dK bs3) ∧ (bs3 = bs ∨ bs3 = putK bs (Sum.inl (m : Int)) (.int i))) (fun Q' q' => ⟨_, rfl, bk, rfl, .inl ⟨_, .inl hb2⟩, _, rfl, _, rfl, sdefK (k := Sum.inl (m : Int)) (z := .int i) hb2 (lt_ln (by lia)) (fun v ev => ?_) fun H3 bs3 f3 hb3 v3 c3 => q' _ _ ⟨rfl, bs3, f3, hb3, c3⟩⟩) ?_
    · obtain ⟨i', n', rfl, r'⟩ := bok.val m v ev
      rw [r.inj rk ok r']
    rintro v H3 ⟨rfl, bs3, f3, hb3, c3⟩
    refine ⟨_, rfl, rfl, ?_⟩
    rw [decide_eq_true rfl]
    exact q H3 ks2 bs3 ((f2.mono (by simp)).trans (f3.mono (by simp))) (f3.get (b := kn) (by simpa using ne) hk2) hb3 (kok.set r c2) (bok.set ok r c3) ⟨_, v2⟩ fun j hj => put_has c2 hj
end
end J

set_option maxHeartbeats 200000
set_option Elab.async false
set_option linter.all false
set_option maxRecDepth 100000
set_option maxHeartbeats 4000000
/-! k15: deeds drawn. -/
namespace J
open PySem L2
theorem ev_test {c : TT} {σ : St} {H : Hp} {Q : Bool → Hp → Prop} (b : Bool) (h : ∀ Q' : Bool → Hp → Prop, Q' b H → c σ H Q') (q : Q b H) : c σ H Q := h Q q
abbrev leafT : Str := Str.ofString "leaf"
abbrev solidT : Str := Str.ofString "solid"
abbrev partT : Str := Str.ofString "part"
abbrev joinT : Str := Str.ofString "joined"
inductive Deed where
  | leaf (s o : Nat)
  | solid (l s o : Nat)
  | part (b k o : Nat)
  | joined (x y z w o : Nat)
def nV (l : List Nat) : List V := l.map fun (p : Nat) => V.int (p : Int)
theorem nV_len (l : List Nat) : (nV l).length = l.length := List.length_map _
theorem nV_get {l : List Nat} {i n : Nat} (h : l[i]? = some n) : (nV l)[i]? = some (.int n) := by
  unfold nV
  rw [List.getElem?_map, h]
  rfl
theorem nV_mem {l : List Nat} {i : Nat} {v : V} (h : (nV l)[i]? = some v) : ∃ n, v = .int (n : Nat) ∧ l[i]? = some n := by
  unfold nV at h
  rw [List.getElem?_map] at h
  obtain ⟨n, h1, rfl⟩ := Option.map_eq_some_iff.mp h
  exact ⟨n, rfl, h1⟩
def Deed.kind : Deed → Str
  | .leaf _ _ => leafT
  | .solid _ _ _ => solidT
  | .part _ _ _ => partT
  | .joined _ _ _ _ _ => joinT
def Deed.ps : Deed → List Nat
  | .leaf s _ => [s]
  | .solid l s _ => [l, s]
  | .part b k _ => [b, k]
  | .joined x y z w _ => [x, y, z, w]
def Deed.own : Deed → Nat
  | .leaf _ o => o
  | .solid _ _ o => o
  | .part _ _ o => o
  | .joined _ _ _ _ o => o
def DAt (H : Hp) (d : Addr) (D : Deed) : Prop := ∃ t, H d = some (.tup [.str D.kind, .ref t, .int D.own]) ∧ H t = some (.tup (nV D.ps))
theorem DAt.fx {l : List Addr} {H H' : Hp} (f : Fx l H H') {d : Addr} {D : Deed} (h : DAt H d D) : DAt H' d D := by
  obtain ⟨t, h1, h2⟩ := h
  exact ⟨t, f.tup h1, f.tup h2⟩
def DOk (R : Rws) (pool : List Nat) : Deed → Prop
  | .leaf s o => s < 8 ∧ EvR R s 0 o
  | .solid l s o => l ≤ 48 ∧ s < 8 ∧ EvR R s l o
  | .part b k o => b ∈ pool ∧ k < 4 ∧ ∃ r, R[b]? = some r ∧ 1 ≤ r.lev ∧ r.parts[k]? = some (o : Int)
  | .joined x y z w o => (x ∈ pool ∧ y ∈ pool ∧ z ∈ pool ∧ w ∈ pool) ∧ ∃ (l : Nat) (v : Int), l ≤ 47 ∧ RLev R x l ∧ RLev R y l ∧ RLev R z l ∧ RLev R w l ∧ R[o]? = some ⟨[(x : Int), (y : Int), (z : Int), (w : Int)], (l : Int) + 1, v⟩
theorem DOk.own_lt {R : Rws} (rk : ROk R) {pool : List Nat} {D : Deed} (h : DOk R pool D) : D.own < R.length := by
  cases D with
  | leaf s o => exact h.2.lev.lt
  | solid l s o => exact h.2.2.lev.lt
  | part b k o =>
    obtain ⟨_, k4, r, e, l1, e2⟩ := h
    have p := rk.row b r e
    cases r with
    | mk ps lv v =>
      have l1 : 1 ≤ lv := l1
      have e2 : ps[k]? = some (o : Int) := e2
      cases p with
      | leaf s _ => exact absurd (show (1 : Int) ≤ 0 from l1) (by decide)
      | node l x y z w _ hx hy hz hw =>
        have m := List.mem_of_getElem? e2
        simp only [List.mem_cons, List.not_mem_nil, or_false] at m
        rcases m with m | m | m | m
        · rw [Int.ofNat.inj m]; exact hx.lt
        · rw [Int.ofNat.inj m]; exact hy.lt
        · rw [Int.ofNat.inj m]; exact hz.lt
        · rw [Int.ofNat.inj m]; exact hw.lt
  | joined x y z w o =>
    obtain ⟨_, l, v, _, _, _, _, _, e⟩ := h
    exact (List.getElem?_eq_some_iff.mp e).1
theorem Same.noneOf {H H' : Hp} (s : Same H H') {x : Addr} (n : H' x = none) : H x = none := by
  cases e : H x with
  | none => rfl
  | some o => rw [s _ _ e] at n; cases n
theorem nV_app (l : List Nat) (q : Nat) : nV (l ++ [q]) = nV l ++ [.int q] := by
  unfold nV
  rw [List.map_append]
  rfl
theorem POk.lev {R : Rws} {l : Int} {ps : List Int} {v : Int} (h : POk R l ps v) : ∃ n : Nat, l = n ∧ n ≤ 48 := by
  cases h with
  | leaf s _ => exact ⟨0, rfl, by decide⟩
  | node l _ _ _ _ h => exact ⟨l + 1, by lia, by lia⟩
theorem POk.part {R : Rws} {l : Int} {ps : List Int} {v : Int} (h : POk R l ps v) (l1 : 1 ≤ l) {k : Nat} (hk : k < 4) : ∃ o : Nat, ps[k]? = some (o : Int) := by
  cases h with
  | leaf s _ => exact absurd l1 (by decide)
  | node l x y z w =>
    match k, hk with
    | 0, _ => exact ⟨x, rfl⟩
    | 1, _ => exact ⟨y, rfl⟩
    | 2, _ => exact ⟨z, rfl⟩
    | 3, _ => exact ⟨w, rfl⟩
/-- a number as an index -/
theorem idx {n : Nat} (h : 0 < n) (v : Int) : ∃ j : Nat, v % (n : Int) = (j : Int) ∧ j < n := by
  have h1 := Int.emod_nonneg v (show (n : Int) ≠ 0 by lia)
  have h2 := Int.emod_lt_of_pos v (show (0 : Int) < (n : Int) by lia)
  obtain ⟨j, e⟩ := Int.eq_ofNat_of_zero_le h1
  exact ⟨j, e, by lia⟩
section
variable {P : Program} {w : World} {K : PySem.W.Frag} {mg : Str → Option Value} {base : Heap} {a : Ad}
inductive SpDeed (vs : List V) (H : Hp) (Q : VK) : Prop
  | mk (ids rw pl : Addr) (R : Rws) (pool : List Nat) (c : Int) (_ : vs = [.int c, .ref ids, .ref rw, .ref pl]) (_ : RAt H ids rw R) (_ : ROk R) (_ : H pl = some (.lst (nV pool))) (_ : pl ≠ rw) (_ : 0 < pool.length) (_ : pool.length ≤ 1000) (_ : ∀ p ∈ pool, p < R.length) (_ : R.length < 700000) (_ : ∀ (d : Addr) (D : Deed) (R' : Rws) (H' : Hp), Fx [ids, rw] H H' → RAt H' ids rw R' → More R R' 49 → DAt H' d D → DOk R' pool D → Q (.ref d) H') : SpDeed vs H Q
def spDeed : Sp := fun vs H Q _ => SpDeed vs H Q
theorem ok_deed {f : Addr} {fd : FuncData} (F : Fun K "_law_deed" "_law_deed" s__law_deed f fd) (T : Top K mg a) (C__law_own : Cal P w K mg base CX0 1 "_law_own" p__law_own spOwn) (C__law_even : Cal P w K mg base CX0 2 "_law_even" p__law_even spEven) (C__law_stir : Cal P w K mg base CX0 1 "_law_stir" p__law_stir spStir) : FnOk P w K mg base CX0 3 f fd p__law_deed spDeed := by
  refine F.ok sc__law_deed (fun vs H Q E h => ?_) (fun cdv A outer s H vs Q E hr h => ?_)
  · obtain ⟨ids, rw', pl, R, pool, c, rfl, _⟩ := h
    rfl
  · obtain ⟨ids, rw', pl, R, pool, c, rfl, ra, ok, hpl, npl, p0, p1000, plt, few, k⟩ := h
    refine ⟨_, (@pss_cons _ _ _ _ _ (@ps_set _ _ (4) _ _ _ _ sc__law_deed.nd rfl (Or.inl rfl) (@pe_op _ _ _ _ _ _ _ _ (@op_mod _) (pv 0) (@pe_int _ _ _ _)) rfl (by first | exact .inl rfl | exact .inr rfl | assumption)) (@pss_cons _ _ _ _ _ (@ps_set _ _ (5) _ _ _ _ sc__law_deed.nd rfl (Or.inl rfl) (@pe_op _ _ _ _ _ _ _ _ (@op_fdiv _) (pv 0) (@pe_int _ _ _ _)) rfl (by first | exact .inl rfl | exact .inr rfl | assumption)) (@pss_cons _ _ _ _ _ (@ps_if _ _ _ _ _ _ _ _ (@pt_cmpR _ _ _ _ _ _ _ _ (@op_eq _) (pv 4) (@pe_int _ _ _ _) (nomark _)) (@pss_one _ _ _ (@ps_ret _ _ _ _ (@pe_tup _ _ _ _ _ (@pa_str _ _ _ _ _ _ (@pa_tup _ _ _ _ _ _ _ (@pa_op _ _ _ _ _ _ _ _ _ _ (@op_mod _) (pv 5) (@pe_int _ _ _ _) (@pa_nil _)) (@pa_cons _ _ _ _ _ (@pe_cal _ _ _ _ _ _ _ _ _ _ _ _ C__law_even (rm hr) rfl pass0 (@pa_cons _ _ _ _ _ (pv 1) (@pa_cons _ _ _ _ _ (pv 2) (@pa_int _ _ _ _ _ _ (@pa_op _ _ _ _ _ _ _ _ _ _ (@op_mod _) (pv 5) (@pe_int _ _ _ _) (@pa_nil _))) rfl) rfl) (by decide) rfl rfl) (@pa_nil _) rfl)))))) (@pss_nil _)) (@pss_cons _ _ _ _ _ (@ps_if _ _ _ _ _ _ _ _ (@pt_cmpR _ _ _ _ _ _ _ _ (@op_eq _) (pv 4) (@pe_int _ _ _ _) (nomark _)) (@pss_one _ _ _ (@ps_ret _ _ _ _ (@pe_tup _ _ _ _ _ (@pa_str _ _ _ _ _ _ (@pa_tup _ _ _ _ _ _ _ (@pa_op _ _ _ _ _ _ _ _ _ _ (@op_mod _) (@pe_op _ _ _ _ _ _ _ _ (@op_fdiv _) (pv 5) (@pe_int _ _ _ _)) (@pe_int _ _ _ _) (@pa_op _ _ _ _ _ _ _ _ _ _ (@op_mod _) (pv 5) (@pe_int _ _ _ _) (@pa_nil _))) (@pa_cons _ _ _ _ _ (@pe_cal _ _ _ _ _ _ _ _ _ _ _ _ C__law_even (rm hr) rfl pass0 (@pa_cons _ _ _ _ _ (pv 1) (@pa_cons _ _ _ _ _ (pv 2) (@pa_op _ _ _ _ _ _ _ _ _ _ (@op_mod _) (@pe_op _ _ _ _ _ _ _ _ (@op_fdiv _) (pv 5) (@pe_int _ _ _ _)) (@pe_int _ _ _ _) (@pa_op _ _ _ _ _ _ _ _ _ _ (@op_mod _) (pv 5) (@pe_int _ _ _ _) (@pa_nil _))) rfl) rfl) (by decide) rfl rfl) (@pa_nil _) rfl)))))) (@pss_nil _)) (@pss_cons _ _ _ _ _ (@ps_set _ _ (6) _ _ _ _ sc__law_deed.nd rfl (Or.inl rfl) (@pe_ix _ _ _ _ _ _ _ (@ix_list _) (pv 3) (@pe_op _ _ _ _ _ _ _ _ (@op_mod _) (@pe_cal _ _ _ _ _ _ _ _ _ _ _ _ C__law_stir (rm hr) rfl pass0 (@pa_cons _ _ _ _ _ (pv 0) (@pa_int _ _ _ _ _ _ (@pa_nil _)) rfl) (by decide) rfl rfl) (@pe_callB _ _ _ _ _ _ _ _ _ (@call_len_seq _) rfl T.b_len PySem.boot_len (@pa_cons _ _ _ _ _ (pv 3) (@pa_nil _) rfl) (by decide) (by decide) rfl rfl)) (fun _ _ => rfl)) rfl (by first | exact .inl rfl | exact .inr rfl | assumption)) (@pss_cons _ _ _ _ _ (@ps_set _ _ (7) _ _ _ _ sc__law_deed.nd rfl (Or.inr rfl) (@pe_ix _ _ _ _ _ _ _ (@ix_tup _) (@pe_ix _ _ _ _ _ _ _ (@ix_list _) (pv 2) (pv 6) (fun _ _ => rfl)) (@pe_int _ _ _ _) (fun _ _ => rfl)) rfl (by first | exact .inl rfl | exact .inr rfl | assumption)) (@pss_cons _ _ _ _ _ (@ps_if _ _ _ _ _ _ _ _ (@PW.pt _ _ _ (@pw_or _ _ _ _ _ _ _ (@PW.pt _ _ _ (@pw_and _ _ _ _ _ _ _ (@pt_cmpR _ _ _ _ _ _ _ _ (@op_eq _) (pv 4) (@pe_int _ _ _ _) (nomark _)) (@pw_and1 _ _ _ _ (@pt_cmpR _ _ _ _ _ _ _ _ (@op_gt _) (pv 7) (@pe_int _ _ _ _) (nomark _))))) (@pw_or1 _ _ _ _ (@pt_cmpR _ _ _ _ _ _ _ _ (@op_eq _) (pv 7) (@pe_int _ _ _ _) (nomark _))))) (@pss_one _ _ _ (@ps_ret _ _ _ _ (@pe_tup _ _ _ _ _ (@pa_str _ _ _ _ _ _ (@pa_tup _ _ _ _ _ _ _ (@pa_cons _ _ _ _ _ (pv 6) (@pa_op _ _ _ _ _ _ _ _ _ _ (@op_mod _) (pv 5) (@pe_int _ _ _ _) (@pa_nil _)) rfl) (@pa_cons _ _ _ _ _ (@pe_ix _ _ _ _ _ _ _ (@ix_tup _) (@pe_ix _ _ _ _ _ _ _ (@ix_tup _) (@pe_ix _ _ _ _ _ _ _ (@ix_list _) (pv 2) (pv 6) (fun _ _ => rfl)) (@pe_int _ _ _ _) (fun _ _ => rfl)) (@pe_op _ _ _ _ _ _ _ _ (@op_mod _) (pv 5) (@pe_int _ _ _ _)) (fun _ _ => rfl)) (@pa_nil _) rfl)))))) (@pss_nil _)) (@pss_cons _ _ _ _ _ (@ps_setComp _ _ _ _ _ _ _ _ _ _ _ _ _ _ (8) _ _ _ rfl sc__law_deed.nd rfl rfl (@CScope.of _ ((defScope s__law_deed)) (n__law_deed) _ (["_law_one", "_law_rows", "_law_level"]) (1) ([2, 7]) rfl rfl (by decide +kernel)) (@pi_list _ _ _ _ (pv 3)) (fun _ _ _ => (@pgc_name _ _ _ _ _ _ _ _ (0) (by decide +kernel) rfl rfl)) (fun _ _ _ => (@pts_one _ _ _ (@pt_cmpR _ _ _ _ _ _ _ _ (@op_eq _) (@pe_ix _ _ _ _ _ _ _ (@ixc_tup _ (K) rfl) (@pe_ix _ _ _ _ _ _ _ (@ixc_list _ (K) rfl) (pv 1) (pv 0) (fun _ _ => rfl)) (@pe_int _ _ _ _) (fun _ _ => rfl)) (pv 2) (nomark _)))) (fun _ _ _ => (pv 0)) rfl (by intro _ ; rfl)) (@pss_cons _ _ _ _ _ (@ps_set _ _ (9) _ _ _ _ sc__law_deed.nd rfl (Or.inl rfl) (@pe_lst _ _ _ _ (@pa_cons _ _ _ _ _ (pv 6) (@pa_nil _) rfl)) rfl (by first | exact .inl rfl | exact .inr rfl | assumption)) (@pss_cons _ _ _ _ _ (@ps_for _ _ _ _ _ _ _ _ PassesOwn.never rfl (@pi_range1 _ _ _ _ _ _ rfl T.b_range (@pa_int _ _ _ _ _ _ (@pa_nil _)) rfl) (@pg_name _ _ (10) _ sc__law_deed.nd rfl (Or.inl rfl) (by first | exact .inl rfl | exact .inr rfl | assumption)) (@pss_one _ _ _ (@ps_expr _ _ _ _ (@pe_bm _ _ _ _ _ _ _ _ _ _ _ _ PySem.F.plainAttrs_list PySem.F.slot_list_append PySem.F.type_list_append (@mt_append _) (pv 9) (@pa_cons _ _ _ _ _ (@pe_ix _ _ _ _ _ _ _ (@ix_list _) (pv 8) (@pe_op _ _ _ _ _ _ _ _ (@op_mod _) (@pe_cal _ _ _ _ _ _ _ _ _ _ _ _ C__law_stir (rm hr) rfl pass0 (@pa_cons _ _ _ _ _ (pv 0) (@pa_op _ _ _ _ _ _ _ _ _ _ (@op_add _) (pv 10) (@pe_int _ _ _ _) (@pa_nil _)) rfl) (by decide) rfl rfl) (@pe_callB _ _ _ _ _ _ _ _ _ (@call_len_seq _) rfl T.b_len PySem.boot_len (@pa_cons _ _ _ _ _ (pv 8) (@pa_nil _) rfl) (by decide) (by decide) rfl rfl)) (fun _ _ => rfl)) (@pa_nil _) rfl) rfl rfl rfl rfl rfl) rfl)) (by intro _ ; rfl)) (@pss_cons _ _ _ _ _ (@ps_set _ _ (11) _ _ _ _ sc__law_deed.nd rfl (Or.inl rfl) (@pe_tup _ _ _ _ _ (@pa_cons _ _ _ _ _ (@pe_ix _ _ _ _ _ _ _ (@ix_list _) (pv 9) (@pe_op _ _ _ _ _ _ _ _ (@op_mod _) (pv 5) (@pe_int _ _ _ _)) (fun _ _ => rfl)) (@pa_cons _ _ _ _ _ (@pe_ix _ _ _ _ _ _ _ (@ix_list _) (pv 9) (@pe_op _ _ _ _ _ _ _ _ (@op_mod _) (@pe_op _ _ _ _ _ _ _ _ (@op_fdiv _) (pv 5) (@pe_int _ _ _ _)) (@pe_int _ _ _ _)) (fun _ _ => rfl)) (@pa_cons _ _ _ _ _ (@pe_ix _ _ _ _ _ _ _ (@ix_list _) (pv 9) (@pe_op _ _ _ _ _ _ _ _ (@op_mod _) (@pe_op _ _ _ _ _ _ _ _ (@op_fdiv _) (pv 5) (@pe_int _ _ _ _)) (@pe_int _ _ _ _)) (fun _ _ => rfl)) (@pa_cons _ _ _ _ _ (@pe_ix _ _ _ _ _ _ _ (@ix_list _) (pv 9) (@pe_op _ _ _ _ _ _ _ _ (@op_mod _) (@pe_op _ _ _ _ _ _ _ _ (@op_fdiv _) (pv 5) (@pe_int _ _ _ _)) (@pe_int _ _ _ _)) (fun _ _ => rfl)) (@pa_nil _) rfl) rfl) rfl) rfl)) rfl (by first | exact .inl rfl | exact .inr rfl | assumption)) (@pss_one _ _ _ (@ps_ret _ _ _ _ (@pe_tup _ _ _ _ _ (@pa_str _ _ _ _ _ _ (@pa_cons _ _ _ _ _ (pv 11) (@pa_cons _ _ _ _ _ (@pe_cal _ _ _ _ _ _ _ _ _ _ _ _ C__law_own (rm hr) rfl pass0 (@pa_cons _ _ _ _ _ (pv 1) (@pa_cons _ _ _ _ _ (pv 2) (@pa_op _ _ _ _ _ _ _ _ _ _ (@op_add _) (pv 7) (@pe_int _ _ _ _) (@pa_cons _ _ _ _ _ (pv 11) (@pa_nil _) rfl)) rfl) rfl) (by decide) rfl rfl) (@pa_nil _) rfl) rfl)))))))))))))))), ?_⟩
    try dsimp only [cxK]
    refine ⟨_, rfl, _, _, rfl, rfl, (by show (0 : Int) < 8; decide), _, rfl, _, _, rfl, rfl, ⟨by decide, by decide⟩, ?_⟩
    show (tSeq _ _) _ [some (.int c), some (.ref ids), some (.ref rw'), some (.ref pl), some (.int (c % 8)), some (.int (c / 8)), none, none, none, none, none, none] H
    generalize c / 8 = pk
    obtain ⟨s8, es8, ls8⟩ := idx (n := 8) (by decide) pk
    obtain ⟨l49, el49, ll49⟩ := idx (n := 49) (by decide) (pk / 8)
    have es8 : pk % 8 = (s8 : Int) := es8
    have el49 : pk / 8 % 49 = (l49 : Int) := el49
    refine ⟨_, rfl, rfl, _, rfl, ite2 (fun _ => ?_) (fun _ => ?_)⟩
    · refine ⟨_, rfl, _, _, rfl, rfl, (by show (0 : Int) < 8; decide), (by show 1 ≤ sizeLine; decide), fun t1 ht1 => ?_⟩
      have s1 := same_up (o := .tup [.int (pk % 8)]) ht1
      have e1 : upd H t1 (.tup [.int (pk % 8)]) t1 = some (.tup (nV [s8])) := by rw [upd_same, es8]; rfl
      show ∃ _, _
      generalize upd H t1 (.tup [.int (pk % 8)]) = H1 at s1 e1 ⊢
      refine ⟨_, rfl, _, rfl, _, rfl, _, _, rfl, rfl, (by show (0 : Int) < 8; decide), ?_⟩
      refine ⟨ids, rw', R, 0, s8, by show [V.ref ids, V.ref rw', V.int 0, V.int (pk % 8)] = _; rw [es8]; rfl, ra.same s1, ok, by decide, ls8, by lia, fun o R2 H2 f2 ra2 mo2 ev2 => ⟨(by show 3 ≤ sizeLine; decide), fun d hd => ?_⟩⟩
      have s3 := same_up (o := .tup [.str leafT, .ref t1, .int o]) hd
      exact k d (.leaf s8 o) R2 _ (((Same.fx s1).trans f2).trans (Same.fx s3)) (ra2.same s3) (mo2.mono (by lia)) ⟨t1, upd_same, s3 _ _ (f2.tup e1)⟩ ⟨ls8, ev2⟩
    refine ⟨_, rfl, rfl, _, rfl, ite2 (fun _ => ?_) (fun _ => ?_)⟩
    · refine ⟨_, rfl, _, _, rfl, rfl, ⟨by decide, by decide⟩, _, _, rfl, rfl, (by show (0 : Int) < 49; decide), _, rfl, _, _, rfl, rfl, (by show (0 : Int) < 8; decide), (by show 2 ≤ sizeLine; decide), fun t1 ht1 => ?_⟩
      have s1 := same_up (o := .tup [.int (pk / 8 % 49), .int (pk % 8)]) ht1
      have e1 : upd H t1 (.tup [.int (pk / 8 % 49), .int (pk % 8)]) t1 = some (.tup (nV [l49, s8])) := by rw [upd_same, es8, el49]; rfl
      show ∃ _, _
      generalize upd H t1 (.tup [.int (pk / 8 % 49), .int (pk % 8)]) = H1 at s1 e1 ⊢
      refine ⟨_, rfl, _, rfl, _, rfl, _, _, rfl, rfl, ⟨by decide, by decide⟩, _, _, rfl, rfl, (by show (0 : Int) < 49; decide), _, rfl, _, _, rfl, rfl, (by show (0 : Int) < 8; decide), ?_⟩
      refine ⟨ids, rw', R, l49, s8, by show [V.ref ids, V.ref rw', V.int (pk / 8 % 49), V.int (pk % 8)] = _; rw [es8, el49], ra.same s1, ok, by lia, ls8, by lia, fun o R2 H2 f2 ra2 mo2 ev2 => ⟨(by show 3 ≤ sizeLine; decide), fun d hd => ?_⟩⟩
      have s3 := same_up (o := .tup [.str solidT, .ref t1, .int o]) hd
      exact k d (.solid l49 s8 o) R2 _ (((Same.fx s1).trans f2).trans (Same.fx s3)) (ra2.same s3) (mo2.mono (by lia)) ⟨t1, upd_same, s3 _ _ (f2.tup e1)⟩ ⟨by lia, ls8, ev2⟩
    -- one of the pool
    refine ⟨_, rfl, _, rfl, c, 0, rfl, by decide, by decide, fun v => ⟨_, rfl, pl, _, rfl, .inl (SqL.of hpl), v, _, rfl, rfl, ?_, ?_⟩⟩
    · show (0 : Int) < ((nV pool).length : Int)
      rw [nV_len]
      lia
    obtain ⟨j, ej, lj⟩ := idx p0 v
    have eb := List.getElem?_eq_getElem lj
    have hb := List.getElem_mem lj
    generalize pool[j] = b at eb hb
    refine ⟨pl, _, _, .int b, rfl, rfl, SqL.of hpl, ?_, ?_⟩
    · show atI (nV pool) (v % ((nV pool).length : Int)) = some (.int b)
      rw [nV_len, ej]
      exact atI_nat (nV_get eb)
    have er := List.getElem?_eq_getElem (plt b hb)
    generalize R[b]'(plt b hb) = r at er
    obtain ⟨ts, tr, tq, a1, a2, a3, a4⟩ := ra.get er
    have po := ok.row b r er
    obtain ⟨lv, elv, l48⟩ := po.lev
    refine ⟨_, rfl, _, rfl, rw', _, (b : Int), .ref tr, rfl, rfl, SqL.of a1, atI_nat a2, tr, _, 0, .int r.lev, rfl, rfl, SqT.of a3, atI_nat (j := 0) rfl, ?_⟩
    have rb : RLev R b lv := ⟨r, er, elv⟩
    rw [elv]
    obtain ⟨k4, ek4, lk4⟩ := idx (n := 4) (by decide) pk
    have ek4 : pk % 4 = (k4 : Int) := ek4
    refine ev_test (c := tOr (tAnd (tTest (tOp rEq (tVar 4) (tC (V.int 2)))) (tTest (tOp (rI0 fun i j => V.bl (decide (j < i))) (tVar 7) (tC (V.int 0))))) (tTest (tOp rEq (tVar 7) (tC (V.int 48))))) ((decide (V.int (c % 8) = V.int 2) && decide ((0 : Int) < (lv : Int))) || decide (V.int (lv : Int) = V.int 48)) (fun Q' q' => ?_) ?_
    · refine ⟨_, rfl, rfl, _, rfl, ?_⟩
      revert q'
      generalize decide (V.int (c % 8) = V.int 2) = b1
      cases b1
      · intro q'
        exact iteF (iteF ⟨_, rfl, rfl, _, rfl, q'⟩)
      · refine fun q' => iteT ⟨_, rfl, _, _, rfl, rfl, _, rfl, ?_⟩
        revert q'
        generalize decide ((0 : Int) < (lv : Int)) = b2
        cases b2
        · intro q'
          exact iteF ⟨_, rfl, rfl, _, rfl, q'⟩
        · intro q'
          exact iteT q'
    refine ite2 (fun hc => ?_) (fun hc => ?_)
    · have l1 : 1 ≤ r.lev := by
        rw [elv]
        rcases (Bool.or_eq_true _ _).mp hc with z | z
        · have := of_decide_eq_true ((Bool.and_eq_true _ _).mp z).2
          lia
        · have := of_decide_eq_true z
          injection this with this
          lia
      obtain ⟨o, eo⟩ := po.part l1 lk4
      refine ⟨_, rfl, _, rfl, _, _, rfl, rfl, (by show (0 : Int) < 4; decide), (by show 2 ≤ sizeLine; decide), fun t1 ht1 => ?_⟩
      have s1 := same_up (o := .tup [.int b, .int (pk % 4)]) ht1
      have e1 : upd H t1 (.tup [.int b, .int (pk % 4)]) t1 = some (.tup (nV [b, k4])) := by rw [upd_same, ek4]; rfl
      show ∃ _, _
      generalize upd H t1 (.tup [.int b, .int (pk % 4)]) = H1 at s1 e1 ⊢
      refine ⟨_, rfl, _, rfl, rw', _, (b : Int), .ref tr, rfl, rfl, SqL.of (s1 _ _ a1), atI_nat a2, tr, _, 1, .ref tq, rfl, rfl, SqT.of (s1 _ _ a3), atI_nat (j := 1) rfl, _, rfl, _, _, rfl, rfl, (by show (0 : Int) < 4; decide), tq, _, _, .int o, rfl, rfl, SqT.of (s1 _ _ a4), ?_, (by show 3 ≤ sizeLine; decide), fun d hd => ?_⟩
      · show atI (r.parts.map V.int) (pk % 4) = some (.int o)
        rw [ek4]
        exact atI_nat (by rw [List.getElem?_map, eo]; rfl)
      have s3 := same_up (o := .tup [.str partT, .ref t1, .int o]) hd
      exact k d (.part b k4 o) R _ (Same.fx (s1.trans s3)) (ra.same (s1.trans s3)) ((More.refl ok).mono (by lia)) ⟨t1, upd_same, s3 _ _ e1⟩ ⟨hb, lk4, r, er, l1, eo⟩
    have l47 : lv ≤ 47 := by
      refine Nat.le_of_lt_succ (Nat.lt_of_le_of_ne l48 fun z => hc ?_)
      subst z
      rw [decide_eq_true (p := V.int ((48 : Nat) : Int) = V.int 48) rfl, Bool.or_true]
    clear hc
    refine ⟨_, rfl, pl, rfl, ⟨_, SqL.of hpl⟩, ?_⟩
    refine blk_list (xs := nV pool) (fun i acc H2 => H = H2 ∧ ∃ xs : List Nat, acc = nV xs ∧ xs.length ≤ i ∧ (∀ x ∈ xs, x ∈ pool ∧ RLev R x lv) ∧ ∀ i', i' < i → pool[i']? = some b → b ∈ xs) ⟨rfl, [], rfl, Nat.le_refl _, fun x hx => by simp at hx, fun i' h => absurd h (Nat.not_lt_zero _)⟩ (fun i acc H2 _ z => z.1 ▸ SqL.of hpl) ?_ ?_
    · rintro i x acc H2 ex ⟨rfl, xs, rfl, lxs, hxs, hbx⟩
      obtain ⟨q, rfl, eq⟩ := nV_mem ex
      have mq := List.mem_of_getElem? eq
      have er2 := List.getElem?_eq_getElem (plt q mq)
      generalize R[q]'(plt q mq) = r2 at er2
      obtain ⟨ts2, tr2, tq2, c1, c2, c3, c4⟩ := ra.get er2
      have li := (List.getElem?_eq_some_iff.mp eq).1
      refine ⟨⟨[some (.int q)], rfl, rfl⟩, by rw [nV_len]; exact lt_ln (by lia), _, rfl, _, rfl, rw', _, (q : Int), .ref tr2, rfl, rfl, SqL.of c1, atI_nat c2, tr2, _, 0, .int r2.lev, rfl, rfl, SqT.of c3, atI_nat (j := 0) rfl, _, rfl, rfl, _, rfl, ite2 (fun hc => ?_) (fun hc => ?_)⟩
      · have hc := of_decide_eq_true hc
        injection hc with hc
        refine ⟨_, rfl, rfl, xs ++ [q], (nV_app xs q).symm, by rw [List.length_append]; exact Nat.succ_le_succ lxs, fun x hx => ?_, fun i' h e => ?_⟩
        · rcases List.mem_append.mp hx with z | z
          · exact hxs x z
          · rw [List.mem_singleton] at z
            subst z
            exact ⟨mq, r2, er2, hc⟩
        · by_cases z : i' = i
          · subst z
            rw [eq] at e
            cases e
            simp
          · exact List.mem_append.mpr (.inl (hbx i' (by lia) e))
      · refine ⟨rfl, xs, rfl, by lia, hxs, fun i' h e => ?_⟩
        by_cases z : i' = i
        · subst z
          rw [eq] at e
          cases e
          rw [er] at er2
          cases er2
          exact absurd (decide_eq_true (by rw [elv])) hc
        · exact hbx i' (by lia) e
    rintro acc H2 ⟨rfl, xs, rfl, lxs, hxs, hbx⟩ SA hSA
    rw [nV_len] at lxs hbx
    have mb := hbx j lj eb
    have s2 := same_up (o := .lst (nV xs)) hSA
    have e2 : upd H SA (.lst (nV xs)) SA = some (.lst (nV xs)) := upd_same
    show (tSeq _ _) _ _ (upd H SA (.lst (nV xs)))
    generalize upd H SA (.lst (nV xs)) = H2 at s2 e2 ⊢
    refine ⟨_, rfl, (by show 1 ≤ sizeLine; decide), fun Fo hFo => ?_⟩
    have s3 := same_up (o := .lst [.int b]) hFo
    have e3 : upd H2 Fo (.lst [.int b]) Fo = some (.lst (nV [b])) := upd_same
    show (tSeq _ _) _ _ (upd H2 Fo (.lst [.int b]))
    generalize upd H2 Fo (.lst [.int b]) = H3 at s3 e3 ⊢
    have x0 : 0 < xs.length := List.length_pos_of_mem mb
    refine ⟨3, rfl, by decide, by decide, ?_⟩
    refine for_range (n := 3) (fun i σ H4 => ∃ (ys : List Nat) (u10 : Option V), σ = [some (.int c), some (.ref ids), some (.ref rw'), some (.ref pl), some (.int (c % 8)), some (.int pk), some (.int b), some (.int lv), some (.ref SA), some (.ref Fo), u10, none] ∧ Fx [Fo] H3 H4 ∧ H4 Fo = some (.lst (nV ys)) ∧ ys.length = i + 1 ∧ ∀ y ∈ ys, y ∈ pool ∧ RLev R y lv) ⟨[b], none, rfl, Fx.refl _ H3, e3, rfl, fun y hy => by
      rw [List.mem_singleton] at hy
      subst hy
      exact ⟨hb, rb⟩⟩ ?_ ?_
    · rintro i σ H4 hi ⟨ys, u10, rfl, f4, e4, lys, hys⟩
      have nSA : SA ∉ [Fo] := by
        rw [List.mem_singleton]
        exact fun z => by rw [z, hFo] at e2; cases e2
      have e24 := f4.get nSA (s3 _ _ e2)
      refine ⟨_, rfl, .inl ⟨rfl, _, SqL.of e4⟩, _, rfl, _, rfl, _, rfl, _, _, rfl, rfl, c, 0 + (i : Int) + 1, rfl, by lia, by lia, fun v => ⟨_, rfl, SA, _, rfl, .inl (SqL.of e24), v, _, rfl, rfl, ?_, ?_⟩⟩
      · show (0 : Int) < ((nV xs).length : Int)
        rw [nV_len]
        lia
      obtain ⟨j2, ej2, lj2⟩ := idx x0 v
      have ey := List.getElem?_eq_getElem lj2
      have hy := List.getElem_mem lj2
      generalize xs[j2] = y at ey hy
      refine ⟨SA, _, _, .int y, rfl, rfl, SqL.of e24, ?_, Fo, _, .int y, rfl, rfl, e4, by rw [nV_len]; exact lt_ln (by lia), ?_⟩
      · show atI (nV xs) (v % ((nV xs).length : Int)) = some (.int y)
        rw [nV_len, ej2]
        exact atI_nat (nV_get ey)
      refine ⟨ys ++ [y], _, rfl, f4.trans (fx_up e4 (fun z => z)), by rw [upd_same, nV_app], by rw [List.length_append, lys]; rfl, fun x hx => ?_⟩
      rcases List.mem_append.mp hx with z | z
      · exact hys x z
      · rw [List.mem_singleton] at z
        subst z
        exact hxs x hy
    · rintro σ H4 ⟨ys, u10, rfl, f4, e4, lys, hys⟩
      have l4 : ys.length = 4 := lys
      have pick : ∀ v : Int, ∃ (y : Nat), atI (nV ys) (v % 4) = some (.int y) ∧ y ∈ pool ∧ RLev R y lv := fun v => by
        obtain ⟨j2, ej2, lj2⟩ := idx (n := 4) (by decide) v
        have ej2 : v % 4 = (j2 : Int) := ej2
        have ey := List.getElem?_eq_getElem (show j2 < ys.length by lia)
        exact ⟨_, by rw [ej2]; exact atI_nat (nV_get ey), hys _ (List.getElem_mem _)⟩
      obtain ⟨y1, f1, m1, r1⟩ := pick pk
      obtain ⟨y2, f2, m2, r2⟩ := pick (pk / 4)
      obtain ⟨y3, f3, m3, r3⟩ := pick (pk / 16)
      obtain ⟨y4, f4', m4, r4⟩ := pick (pk / 64)
      refine ⟨_, rfl, _, rfl, _, _, rfl, rfl, (by show (0 : Int) < 4; decide), Fo, _, _, .int y1, rfl, rfl, SqL.of e4, f1, _, rfl, _, rfl, _, _, rfl, rfl, ⟨by decide, by decide⟩, _, _, rfl, rfl, (by show (0 : Int) < 4; decide), Fo, _, _, .int y2, rfl, rfl, SqL.of e4, f2, ?_⟩
      refine ⟨_, rfl, _, rfl, _, _, rfl, rfl, ⟨by decide, by decide⟩, _, _, rfl, rfl, (by show (0 : Int) < 4; decide), Fo, _, _, .int y3, rfl, rfl, SqL.of e4, f3, _, rfl, _, rfl, _, _, rfl, rfl, ⟨by decide, by decide⟩, _, _, rfl, rfl, (by show (0 : Int) < 4; decide), Fo, _, _, .int y4, rfl, rfl, SqL.of e4, f4', (by show 4 ≤ sizeLine; decide), fun t5 ht5 => ?_⟩
      have s5 := same_up (o := .tup [.int y1, .int y2, .int y3, .int y4]) ht5
      have e5 : upd H4 t5 (.tup [.int y1, .int y2, .int y3, .int y4]) t5 = some (.tup (nV [y1, y2, y3, y4])) := upd_same
      show (tSeq _ _) _ _ (upd H4 t5 (.tup [.int y1, .int y2, .int y3, .int y4]))
      generalize upd H4 t5 (.tup [.int y1, .int y2, .int y3, .int y4]) = H5 at s5 e5 ⊢
      have nF : H Fo = none := (Same.noneOf s2 hFo)
      have x5 : Fx [ids, rw'] H H5 := fun bb o e _ => s5 _ _ (f4.get (by rw [List.mem_singleton]; exact ne_of_none e nF) ((s2.trans s3) _ _ e))
      have ra5 : RAt H5 ids rw' R := ra.same fun bb o e => s5 _ _ (f4.get (by rw [List.mem_singleton]; exact ne_of_none e nF) ((s2.trans s3) _ _ e))
      refine ⟨_, rfl, _, rfl, _, rfl, _, rfl, _, _, rfl, rfl, _, rfl, ?_⟩
      refine ⟨ids, rw', t5, R, (lv : Int) + 1, [(y1 : Int), (y2 : Int), (y3 : Int), (y4 : Int)], _, rfl, ra5, ok, e5, .node lv y1 y2 y3 y4 l47 r1 r2 r3 r4, by lia, fun o R6 H6 f6 ra6 mo6 e6 => ⟨(by show 3 ≤ sizeLine; decide), fun d hd => ?_⟩⟩
      have s7 := same_up (o := .tup [.str joinT, .ref t5, .int o]) hd
      exact k d (.joined y1 y2 y3 y4 o) R6 _ ((x5.trans f6).trans (Same.fx s7)) (ra6.same s7) (mo6.mono (by lia)) ⟨t5, upd_same, s7 _ _ (f6.tup e5)⟩ ⟨⟨m1, m2, m3, m4⟩, lv, _, l47, mo6.lev r1, mo6.lev r2, mo6.lev r3, mo6.lev r4, e6⟩
end
end J

set_option maxHeartbeats 200000
set_option Elab.async false
set_option linter.all false
set_option maxRecDepth 100000
set_option maxHeartbeats 4000000
/-! k15: deeds done by a grove. -/
namespace J
open PySem L2
theorem k_ll : decide (V.str leafT = V.str (Str.ofString "leaf")) = true := by decide +kernel
theorem k_sl : decide (V.str solidT = V.str (Str.ofString "leaf")) = false := by decide +kernel
theorem k_pl : decide (V.str partT = V.str (Str.ofString "leaf")) = false := by decide +kernel
theorem k_jl : decide (V.str joinT = V.str (Str.ofString "leaf")) = false := by decide +kernel
theorem k_ss : decide (V.str solidT = V.str (Str.ofString "solid")) = true := by decide +kernel
theorem k_ps : decide (V.str partT = V.str (Str.ofString "solid")) = false := by decide +kernel
theorem k_js : decide (V.str joinT = V.str (Str.ofString "solid")) = false := by decide +kernel
theorem k_pp : decide (V.str partT = V.str (Str.ofString "part")) = true := by decide +kernel
theorem k_jp : decide (V.str joinT = V.str (Str.ofString "part")) = false := by decide +kernel
section
variable {P : Program} {w : World} {K : PySem.W.Frag} {mg : Str → Option Value} {base : Heap} {a : Ad}
inductive SpDone (a : Ad) (vs : List V) (H : Hp) (Q : VK) : Prop
  | mk (g : GA) (G : Gv) (R : Rws) (kn d : Addr) (ks : List (Key × V)) (D : Deed) (pool : List Nat) (_ : vs = [.ref g.p, .ref d, .ref kn]) (_ : Full a H g G) (_ : ROk R) (_ : H kn = some (.dK ks)) (_ : KnOk R G ks) (_ : ∀ p ∈ pool, ∃ v, valV ks (Sum.inl (p : Int)) = some v) (_ : DAt H d D) (_ : DOk R pool D) (_ : G.length < 700000) (_ : ∀ (n m : Nat) (G' : Gv) (H' : Hp), Fr g H H' → GroveAt a H' g G' → Goes G G' 48 → Rel R G' n D.own m → Q (.int m) H') : SpDone a vs H Q
def spDone (a : Ad) : Sp := fun vs H Q _ => SpDone a vs H Q
theorem ok_done {f : Addr} {fd : FuncData} (F : Fun K "_law_done" "_law_done" s__law_done f fd) (T : Top K mg a) (M_Grove_leaf : CalM P w K mg base CX0 3 a.c_Grove "leaf" p_Grove_leaf (spLeaf a)) (M_Grove_solid : CalM P w K mg base CX0 4 a.c_Grove "solid" p_Grove_solid (spSolid a)) (M_Grove_quarters : CalM P w K mg base CX0 4 a.c_Grove "quarters" p_Grove_quarters (spQua a)) (M_Grove_joined : CalM P w K mg base CX0 4 a.c_Grove "joined" p_Grove_joined (spJoin a)) : FnOk P w K mg base CX0 5 f fd p__law_done (spDone a) := by
  refine F.ok sc__law_done (fun vs H Q E h => ?_) (fun cdv A outer s H vs Q E hr h => ?_)
  · obtain ⟨g, G, R, kn, d, ks, D, pool, rfl, _⟩ := h
    rfl
  · obtain ⟨g, G, R, kn, d, ks, D, pool, rfl, fu, rk, hk, kok, pk, da, dok, few, k⟩ := h
    refine ⟨_, (@pss_cons _ _ _ _ _ (@ps_if _ _ _ _ _ _ _ _ (@pt_cmpR _ _ _ _ _ _ _ _ (@op_eq _) (@pe_ix _ _ _ _ _ _ _ (@ix_tup _) (pv 1) (@pe_int _ _ _ _) (fun _ _ => rfl)) (@pe_str _ _ _ _) (nomark _)) (@pss_one _ _ _ (@ps_ret _ _ _ _ (@pe_calm _ _ _ _ _ _ _ _ _ _ _ _ _ _ _ _ (pv 0) M_Grove_leaf (rm hr) pass0 (@pa_cons _ _ _ _ _ (@pe_ix _ _ _ _ _ _ _ (@ix_tup _) (@pe_ix _ _ _ _ _ _ _ (@ix_tup _) (pv 1) (@pe_int _ _ _ _) (fun _ _ => rfl)) (@pe_int _ _ _ _) (fun _ _ => rfl)) (@pa_nil _) rfl) rfl rfl rfl))) (@pss_nil _)) (@pss_cons _ _ _ _ _ (@ps_if _ _ _ _ _ _ _ _ (@pt_cmpR _ _ _ _ _ _ _ _ (@op_eq _) (@pe_ix _ _ _ _ _ _ _ (@ix_tup _) (pv 1) (@pe_int _ _ _ _) (fun _ _ => rfl)) (@pe_str _ _ _ _) (nomark _)) (@pss_one _ _ _ (@ps_ret _ _ _ _ (@pe_calm _ _ _ _ _ _ _ _ _ _ _ _ _ _ _ _ (pv 0) M_Grove_solid (rm hr) pass0 (@pa_cons _ _ _ _ _ (@pe_ix _ _ _ _ _ _ _ (@ix_tup _) (@pe_ix _ _ _ _ _ _ _ (@ix_tup _) (pv 1) (@pe_int _ _ _ _) (fun _ _ => rfl)) (@pe_int _ _ _ _) (fun _ _ => rfl)) (@pa_cons _ _ _ _ _ (@pe_ix _ _ _ _ _ _ _ (@ix_tup _) (@pe_ix _ _ _ _ _ _ _ (@ix_tup _) (pv 1) (@pe_int _ _ _ _) (fun _ _ => rfl)) (@pe_int _ _ _ _) (fun _ _ => rfl)) (@pa_nil _) rfl) rfl) rfl rfl rfl))) (@pss_nil _)) (@pss_cons _ _ _ _ _ (@ps_if _ _ _ _ _ _ _ _ (@pt_cmpR _ _ _ _ _ _ _ _ (@op_eq _) (@pe_ix _ _ _ _ _ _ _ (@ix_tup _) (pv 1) (@pe_int _ _ _ _) (fun _ _ => rfl)) (@pe_str _ _ _ _) (nomark _)) (@pss_cons _ _ _ _ _ (@ps_set _ _ (3) _ _ _ _ sc__law_done.nd rfl (Or.inl rfl) (@pe_calm _ _ _ _ _ _ _ _ _ _ _ _ _ _ _ _ (pv 0) M_Grove_quarters (rm hr) pass0 (@pa_cons _ _ _ _ _ (@pe_dget _ _ _ _ _ _ (hu_of hr) (pv 2) (@pe_ix _ _ _ _ _ _ _ (@ix_tup _) (@pe_ix _ _ _ _ _ _ _ (@ix_tup _) (pv 1) (@pe_int _ _ _ _) (fun _ _ => rfl)) (@pe_int _ _ _ _) (fun _ _ => rfl)) (fun _ _ => rfl)) (@pa_nil _) rfl) rfl rfl rfl) rfl (by first | exact .inl rfl | exact .inr rfl | assumption)) (@pss_cons _ _ _ _ _ (@ps_if _ _ _ _ _ _ _ _ (@PW.pt _ _ _ (@pw_or _ _ _ _ _ _ _ (@pt_not _ _ _ _ (@pt_val _ _ _ (@pe_callB _ _ _ _ _ _ _ _ _ (@call_isi _) rfl T.b_isinstance PyProof.Rows.boot_isinstance (@pa_cons _ _ _ _ _ (pv 3) (@pa_cons _ _ _ _ _ (@pe_bltn _ _ ((.ty "tuple")) _ _ rfl T.b_tuple PyProof.Rows.boot_tuple rfl (by decide) (by decide)) (@pa_nil _) rfl) rfl) (by decide) (by decide) rfl rfl) (by intro _ ; rfl))) (@pw_or1 _ _ _ _ (@pt_cmpR _ _ _ _ _ _ _ _ (@op_ne _) (@pe_callB _ _ _ _ _ _ _ _ _ (@call_len_seq _) rfl T.b_len PySem.boot_len (@pa_cons _ _ _ _ _ (pv 3) (@pa_nil _) rfl) (by decide) (by decide) rfl rfl) (@pe_int _ _ _ _) (nomark _))))) (@pss_one _ _ _ (@ps_ret _ _ _ _ (@pe_non _ _ _))) (@pss_nil _)) (@pss_one _ _ _ (@ps_ret _ _ _ _ (@pe_ix _ _ _ _ _ _ _ (@ix_tup _) (pv 3) (@pe_ix _ _ _ _ _ _ _ (@ix_tup _) (@pe_ix _ _ _ _ _ _ _ (@ix_tup _) (pv 1) (@pe_int _ _ _ _) (fun _ _ => rfl)) (@pe_int _ _ _ _) (fun _ _ => rfl)) (fun _ _ => rfl)))))) (@pss_nil _)) (@pss_cons _ _ _ _ _ (@ps_setComp _ _ _ _ _ _ _ _ _ _ _ _ _ _ (3) _ _ _ rfl sc__law_done.nd rfl rfl (@CScope.of _ ((defScope s__law_done)) (n__law_done) _ (["_law_one", "_law_known"]) (1) ([2]) rfl rfl (by decide +kernel)) (@pi_tup _ _ _ _ (@pe_ix _ _ _ _ _ _ _ (@ix_tup _) (pv 1) (@pe_int _ _ _ _) (fun _ _ => rfl))) (fun _ _ _ => (@pgc_name _ _ _ _ _ _ _ _ (0) (by decide +kernel) rfl rfl)) (fun _ _ _ => (@pts_nil _)) (fun _ _ _ => (@pe_dget _ _ _ _ _ _ (hu_of hr) (pv 1) (pv 0) (fun _ _ => rfl))) rfl (by intro _ ; rfl)) (@pss_one _ _ _ (@ps_ret _ _ _ _ (@pe_calm _ _ _ _ _ _ _ _ _ _ _ _ _ _ _ _ (pv 0) M_Grove_joined (rm hr) pass0 (@pa_cons _ _ _ _ _ (@pe_ix _ _ _ _ _ _ _ (@ix_list _) (pv 3) (@pe_int _ _ _ _) (fun _ _ => rfl)) (@pa_cons _ _ _ _ _ (@pe_ix _ _ _ _ _ _ _ (@ix_list _) (pv 3) (@pe_int _ _ _ _) (fun _ _ => rfl)) (@pa_cons _ _ _ _ _ (@pe_ix _ _ _ _ _ _ _ (@ix_list _) (pv 3) (@pe_int _ _ _ _) (fun _ _ => rfl)) (@pa_cons _ _ _ _ _ (@pe_ix _ _ _ _ _ _ _ (@ix_list _) (pv 3) (@pe_int _ _ _ _) (fun _ _ => rfl)) (@pa_nil _) rfl) rfl) rfl) rfl) rfl rfl rfl))))))), ?_⟩
    try dsimp only [cxK]
    obtain ⟨t, hd, ht⟩ := da
    have kof : ∀ p ∈ pool, ∃ m n : Nat, valV ks (Sum.inl (p : Int)) = some (.int m) ∧ Rel R G n p m := fun p hp => by
      obtain ⟨v, ev⟩ := pk p hp
      obtain ⟨m, n, rfl, r⟩ := kok.val p v ev
      exact ⟨m, n, ev, r⟩
    cases D with
    | leaf st o =>
      obtain ⟨s8, ev⟩ := dok
      refine ⟨_, rfl, d, _, 0, .str leafT, rfl, rfl, SqT.of hd, atI_nat (j := 0) rfl, rfl, _, rfl, ?_⟩
      rw [k_ll]
      refine iteT ⟨_, rfl, g.p, g.dx, _, rfl, fu.at'.hp, no_leaf g, _, rfl, d, _, 1, .ref t, rfl, rfl, SqT.of hd, atI_nat (j := 1) rfl, t, _, 0, .int st, rfl, rfl, SqT.of ht, atI_nat (j := 0) rfl, g.p, (st : Int), rfl, by lia, by lia, ?_⟩
      exact k 0 st G H (Fr.refl g H) fu.at' ((Goes.refl fu.ok).mono (by lia)) (EvR.rel s8 ev rfl)
    | solid l st o =>
      obtain ⟨l48, s8, ev⟩ := dok
      refine ⟨_, rfl, d, _, 0, .str solidT, rfl, rfl, SqT.of hd, atI_nat (j := 0) rfl, rfl, _, rfl, ?_⟩
      rw [k_sl]
      refine iteF ⟨_, rfl, d, _, 0, .str solidT, rfl, rfl, SqT.of hd, atI_nat (j := 0) rfl, rfl, _, rfl, ?_⟩
      rw [k_ss]
      refine iteT ⟨_, rfl, g.p, g.dx, _, rfl, fu.at'.hp, no_solid g, _, rfl, d, _, 1, .ref t, rfl, rfl, SqT.of hd, atI_nat (j := 1) rfl, t, _, 0, .int l, rfl, rfl, SqT.of ht, atI_nat (j := 0) rfl, _, rfl, d, _, 1, .ref t, rfl, rfl, SqT.of hd, atI_nat (j := 1) rfl, t, _, 1, .int st, rfl, rfl, SqT.of ht, atI_nat (j := 1) rfl, ?_⟩
      exact ⟨g, G, l, st, rfl, fu.at', fu.ok, l48, s8, by lia, fun n G' H' fr hg go so => k l n G' H' fr hg (go.mono (by lia)) (EvR.rel s8 ev so)⟩
    | part b kk o =>
      obtain ⟨hb, k4, r, er, l1, eo⟩ := dok
      obtain ⟨mb, n, evb, rel⟩ := kof b hb
      refine ⟨_, rfl, d, _, 0, .str partT, rfl, rfl, SqT.of hd, atI_nat (j := 0) rfl, rfl, _, rfl, ?_⟩
      rw [k_pl]
      refine iteF ⟨_, rfl, d, _, 0, .str partT, rfl, rfl, SqT.of hd, atI_nat (j := 0) rfl, rfl, _, rfl, ?_⟩
      rw [k_ps]
      refine iteF ⟨_, rfl, d, _, 0, .str partT, rfl, rfl, SqT.of hd, atI_nat (j := 0) rfl, rfl, _, rfl, ?_⟩
      rw [k_pp]
      have main : ∃ q : Sq, G[mb]? = some q ∧ q.lev ≠ 0 ∧ q.parts.length = 4 ∧ ∃ m : Nat, q.parts[kk]? = some (m : Int) ∧ ∃ n', Rel R G n' o m := by
        cases rel with
        | leaf _ _ v h8 e =>
          rw [er] at e
          cases e
          exact absurd (show (1 : Int) ≤ 0 from l1) (by decide)
        | node n _ _ x y z w' x' y' z' w'' v e e' rx ry rz rw' =>
          rw [er] at e
          cases e
          refine ⟨_, e', (by show (n : Int) + 1 ≠ 0; lia), rfl, ?_⟩
          match kk, k4, eo with
          | 0, _, eo => cases (Option.some.inj eo : (x : Int) = _); exact ⟨x', rfl, n, rx⟩
          | 1, _, eo => cases (Option.some.inj eo : (y : Int) = _); exact ⟨y', rfl, n, ry⟩
          | 2, _, eo => cases (Option.some.inj eo : (z : Int) = _); exact ⟨z', rfl, n, rz⟩
          | 3, _, eo => cases (Option.some.inj eo : (w' : Int) = _); exact ⟨w'', rfl, n, rw'⟩
      obtain ⟨q, eq, q0, q4, m, em, n', relm⟩ := main
      refine iteT ⟨_, rfl, g.p, g.dx, _, rfl, fu.at'.hp, no_quarters g, _, rfl, _, rfl, d, _, 1, .ref t, rfl, rfl, SqT.of hd, atI_nat (j := 1) rfl, t, _, 0, .int b, rfl, rfl, SqT.of ht, atI_nat (j := 0) rfl, kn, .int mb, rfl, DGet.kv (k := Sum.inl (b : Int)) hk evb, g, G, mb, q, rfl, fu.at', eq, q0, fun t2 ht2 => ?_⟩
      refine ⟨_, rfl, _, _, _, .type "tuple", true, rfl, rfl, .of (.tup ht2), kit_t K, true, rfl, iteF ⟨_, rfl, t2, _, rfl, .inr (SqT.of ht2), rfl, _, rfl, ?_⟩⟩
      rw [List.length_map, q4]
      refine iteNS rfl ⟨_, rfl, _, rfl, d, _, 1, .ref t, rfl, rfl, SqT.of hd, atI_nat (j := 1) rfl, t, _, 1, .int kk, rfl, rfl, SqT.of ht, atI_nat (j := 1) rfl, t2, _, (kk : Int), .int m, rfl, rfl, SqT.of ht2, atI_nat (by rw [List.getElem?_map, em]; rfl), ?_⟩
      exact k n' m G H (Fr.refl g H) fu.at' ((Goes.refl fu.ok).mono (by lia)) relm
    | joined x y z w' o =>
      obtain ⟨⟨hx, hy, hz, hw⟩, l, v, l47, lx, ly, lz, lw, eo⟩ := dok
      obtain ⟨mx, nx, vx, rx⟩ := kof x hx
      obtain ⟨my, ny, vy, ry⟩ := kof y hy
      obtain ⟨mz, nz, vz, rz⟩ := kof z hz
      obtain ⟨mw, nw, vw, rw'⟩ := kof w' hw
      obtain rfl : nx = l := Int.ofNat.inj (rx.rlev.uniq lx)
      obtain rfl : ny = nx := Int.ofNat.inj (ry.rlev.uniq ly)
      obtain rfl : nz = ny := Int.ofNat.inj (rz.rlev.uniq lz)
      obtain rfl : nw = nz := Int.ofNat.inj (rw'.rlev.uniq lw)
      refine ⟨_, rfl, d, _, 0, .str joinT, rfl, rfl, SqT.of hd, atI_nat (j := 0) rfl, rfl, _, rfl, ?_⟩
      rw [k_jl]
      refine iteF ⟨_, rfl, d, _, 0, .str joinT, rfl, rfl, SqT.of hd, atI_nat (j := 0) rfl, rfl, _, rfl, ?_⟩
      rw [k_js]
      refine iteF ⟨_, rfl, d, _, 0, .str joinT, rfl, rfl, SqT.of hd, atI_nat (j := 0) rfl, rfl, _, rfl, ?_⟩
      rw [k_jp]
      refine iteF ⟨_, rfl, d, _, 1, .ref t, rfl, rfl, SqT.of hd, atI_nat (j := 1) rfl, t, rfl, ⟨_, SqT.of ht⟩, ?_⟩
      have mem : ∀ (j : Nat) v, (nV [x, y, z, w'])[j]? = some v → ∃ p m : Nat, v = .int p ∧ valV ks (Sum.inl (p : Int)) = some (.int m) ∧ [mx, my, mz, mw][j]? = some m := fun j v e => by
        match j, e with
        | 0, e => cases e; exact ⟨x, mx, rfl, vx, rfl⟩
        | 1, e => cases e; exact ⟨y, my, rfl, vy, rfl⟩
        | 2, e => cases e; exact ⟨z, mz, rfl, vz, rfl⟩
        | 3, e => cases e; exact ⟨w', mw, rfl, vw, rfl⟩
        | j + 4, e => cases e
      refine blk_tup (xs := nV [x, y, z, w']) (fun j acc H2 => H = H2 ∧ acc = nV ([mx, my, mz, mw].take j)) ⟨rfl, rfl⟩ (fun j acc H2 _ z => z.1 ▸ SqT.of ht) ?_ ?_
      · rintro j v acc H2 ev ⟨rfl, rfl⟩
        obtain ⟨p, m, rfl, vp, em⟩ := mem j v ev
        refine ⟨⟨[some (.int p)], rfl, rfl⟩, by rw [nV_len, List.length_take]; exact lt_ln (by show min j 4 < 10000000; lia), tyes ⟨_, rfl, _, rfl, kn, .int m, rfl, DGet.kv (k := Sum.inl (p : Int)) hk vp, rfl, ?_⟩⟩
        unfold nV
        rw [List.take_add_one, em, List.map_append]
        rfl
      · rintro acc H2 ⟨rfl, rfl⟩ qd hq
        have s3 := same_up (o := .lst [.int mx, .int my, .int mz, .int mw]) hq
        have h3 : upd H qd (.lst [.int mx, .int my, .int mz, .int mw]) qd = some (.lst [.int mx, .int my, .int mz, .int mw]) := upd_same
        show (tSeq _ _) _ _ (upd H qd (.lst [.int mx, .int my, .int mz, .int mw]))
        generalize upd H qd (.lst [.int mx, .int my, .int mz, .int mw]) = H3 at s3 h3 ⊢
        refine ⟨_, rfl, g.p, g.dx, _, rfl, (fu.same s3).at'.hp, no_joined g, _, rfl, qd, _, 0, .int mx, rfl, rfl, SqL.of h3, atI_nat (j := 0) rfl, _, rfl, qd, _, 1, .int my, rfl, rfl, SqL.of h3, atI_nat (j := 1) rfl, _, rfl, qd, _, 2, .int mz, rfl, rfl, SqL.of h3, atI_nat (j := 2) rfl, _, rfl, qd, _, 3, .int mw, rfl, rfl, SqL.of h3, atI_nat (j := 3) rfl, ?_⟩
        refine ⟨g, G, mx, my, mz, mw, (nw : Int), rfl, (fu.same s3).at', fu.ok, ⟨rx.lev fu.ok, ry.lev fu.ok, rz.lev fu.ok, rw'.lev fu.ok⟩, by lia, by lia, fun n G' H' fr hg go e => ?_⟩
        exact k (nw + 1) n G' H' ((Same.fr s3).trans fr) hg (go.mono (by lia)) (.node nw o n x y z w' mx my mz mw v eo e (rx.go (More.refl rk) go) (ry.go (More.refl rk) go) (rz.go (More.refl rk) go) (rw'.go (More.refl rk) go))
end
end J

set_option maxHeartbeats 200000
set_option Elab.async false
set_option linter.all false
set_option maxRecDepth 100000
set_option maxHeartbeats 4000000
/-! k15: all that is known is looked at again. -/
namespace J
open PySem L2
/-- one grove's side: its squares, what is known of it -/
structure Side (a : Ad) (H : Hp) (g : GA) (G : Gv) (kn bk : Addr) (R : Rws) (ks bs : List (Key × V)) : Prop where
  fu : Full a H g G
  hk : H kn = some (.dK ks)
  hb : H bk = some (.dK bs)
  kok : KnOk R G ks
  bok : BkOk R G bs
def sAll (g : GA) (kn bk : Addr) : List Addr := [g.lv, g.pt, g.nm, g.br, g.am, g.bx, kn, bk]
theorem Side.fx {a : Ad} {H H' : Hp} {g : GA} {G : Gv} {kn bk : Addr} {R : Rws} {ks bs : List (Key × V)} {l : List Addr} (h : Side a H g G kn bk R ks bs) (f : Fx l H H') (n : ∀ x ∈ sAll g kn bk, x ∉ l) : Side a H' g G kn bk R ks bs :=
  ⟨h.fu.fx f fun x hx => n x (by simp [sAll, gAll] at *; lia), f.get (n _ (by simp [sAll])) h.hk, f.get (n _ (by simp [sAll])) h.hb, h.kok, h.bok⟩
theorem Side.same {a : Ad} {H H' : Hp} {g : GA} {G : Gv} {kn bk : Addr} {R : Rws} {ks bs : List (Key × V)} (h : Side a H g G kn bk R ks bs) (s : Same H H') : Side a H' g G kn bk R ks bs := h.fx (l := []) (Same.fx s) fun _ _ => by simp
theorem Side.more {a : Ad} {H : Hp} {g : GA} {G : Gv} {kn bk : Addr} {R R' : Rws} {ks bs : List (Key × V)} {n : Nat} (h : Side a H g G kn bk R ks bs) (mo : More R R' n) : Side a H g G kn bk R' ks bs := ⟨h.fu, h.hk, h.hb, h.kok.go mo (Goes.refl h.fu.ok), h.bok.go mo (Goes.refl h.fu.ok)⟩
section
variable {P : Program} {w : World} {K : PySem.W.Frag} {mg : Str → Option Value} {base : Heap} {a : Ad}
inductive SpLook (a : Ad) (vs : List V) (H : Hp) (Q : VK) : Prop
  | mk (g : GA) (G : Gv) (R : Rws) (kn bk ids rw : Addr) (ks bs : List (Key × V)) (_ : vs = [.ref g.p, .ref kn, .ref bk, .ref rw]) (_ : Side a H g G kn bk R ks bs) (_ : RAt H ids rw R) (_ : ROk R) (_ : (sAll g kn bk).Nodup) (_ : ids ∉ [g.am, g.bx, kn, bk] ∧ rw ∉ [g.am, g.bx, kn, bk]) (_ : R.length < 800000) (_ : G.length < 800000) (_ : ∀ H', Fx [g.am, g.bx, kn, bk] H H' → Q (.bl true) H') : SpLook a vs H Q
def spLook (a : Ad) : Sp := fun vs H Q _ => SpLook a vs H Q
theorem ok_look {f : Addr} {fd : FuncData} (F : Fun K "_law_looked" "_law_looked" s__law_looked f fd) (T : Top K mg a) (C__law_same : Cal P w K mg base CX0 1 "_law_same" p__law_same spSame) (C__law_agreed : Cal P w K mg base CX0 2 "_law_agreed" p__law_agreed spAgr) (M_Grove_level_of : CalM P w K mg base CX0 3 a.c_Grove "level_of" p_Grove_level_of (spLev a)) (M_Grove_quarters : CalM P w K mg base CX0 4 a.c_Grove "quarters" p_Grove_quarters (spQua a)) (M_Grove_state_of : CalM P w K mg base CX0 4 a.c_Grove "state_of" p_Grove_state_of (spSta a))
    (M_Grove_living : CalM P w K mg base CX0 51 a.c_Grove "living" p_Grove_living (spLiv a)) : FnOk P w K mg base CX0 52 f fd p__law_looked (spLook a) := by
  refine F.ok sc__law_looked (fun vs H Q E h => ?_) (fun cdv A outer s H vs Q E hr h => ?_)
  · obtain ⟨g, G, R, kn, bk, ids, rw', ks, bs, rfl, _⟩ := h
    rfl
  · obtain ⟨g, G, R, kn, bk, ids, rw', ks, bs, rfl, sd, ra, rk, nd, ⟨ni, nr⟩, fewR, fewG, q⟩ := h
    refine ⟨_, (@pss_cons _ _ _ _ _ (@ps_for _ _ _ _ _ _ _ _ PassesOwn.never rfl (@pi_list _ _ _ _ (@pe_callTy _ _ _ _ _ _ _ _ _ (@call_list_d _ rfl) rfl T.b_list PyProof.Rows.boot_list (@pa_cons _ _ _ _ _ (pv 1) (@pa_nil _) rfl) (by decide) (by decide) rfl rfl)) (@pg_name _ _ (4) _ sc__law_looked.nd rfl (Or.inl rfl) (by first | exact .inl rfl | exact .inr rfl | assumption)) (@pss_cons _ _ _ _ _ (@ps_set _ _ (5) _ _ _ _ sc__law_looked.nd rfl (Or.inl rfl) (@pe_ix _ _ _ _ _ _ _ (@ix_tup _) (@pe_ix _ _ _ _ _ _ _ (@ix_list _) (pv 3) (pv 4) (fun _ _ => rfl)) (@pe_int _ _ _ _) (fun _ _ => rfl)) rfl (by first | exact .inl rfl | exact .inr rfl | assumption)) (@pss_cons _ _ _ _ _ (@ps_set _ _ (6) _ _ _ _ sc__law_looked.nd rfl (Or.inl rfl) (@pe_dget _ _ _ _ _ _ (hu_of hr) (pv 1) (pv 4) (fun _ _ => rfl)) rfl (by first | exact .inl rfl | exact .inr rfl | assumption)) (@pss_cons _ _ _ _ _ (@ps_if _ _ _ _ _ _ _ _ (@PW.pt _ _ _ (@pw_or _ _ _ _ _ _ _ (@pt_not _ _ _ _ (@pt_val _ _ _ (@pe_cal _ _ _ _ _ _ _ _ _ _ _ _ C__law_same (rm hr) rfl pass0 (@pa_cons _ _ _ _ _ (@pe_calm _ _ _ _ _ _ _ _ _ _ _ _ _ _ _ _ (pv 0) M_Grove_level_of (rm hr) pass0 (@pa_cons _ _ _ _ _ (pv 6) (@pa_nil _) rfl) rfl rfl rfl) (@pa_cons _ _ _ _ _ (pv 5) (@pa_nil _) rfl) rfl) (by decide) rfl rfl) (by intro _ ; rfl))) (@pw_or1 _ _ _ _ (@pt_not _ _ _ _ (@pt_val _ _ _ (@pe_cal _ _ _ _ _ _ _ _ _ _ _ _ C__law_same (rm hr) rfl pass0 (@pa_cons _ _ _ _ _ (@pe_calm _ _ _ _ _ _ _ _ _ _ _ _ _ _ _ _ (pv 0) M_Grove_living (rm hr) pass0 (@pa_cons _ _ _ _ _ (pv 6) (@pa_nil _) rfl) rfl rfl rfl) (@pa_cons _ _ _ _ _ (@pe_ix _ _ _ _ _ _ _ (@ix_tup _) (@pe_ix _ _ _ _ _ _ _ (@ix_list _) (pv 3) (pv 4) (fun _ _ => rfl)) (@pe_int _ _ _ _) (fun _ _ => rfl)) (@pa_nil _) rfl) rfl) (by decide) rfl rfl) (by intro _ ; rfl)))))) (@pss_one _ _ _ (@ps_ret _ _ _ _ (@pe_bl _ _ _ _))) (@pss_nil _)) (@pss_cons _ _ _ _ _ (@ps_if _ _ _ _ _ _ _ _ (@PW.pt _ _ _ (@pw_and _ _ _ _ _ _ _ (@pt_cmpR _ _ _ _ _ _ _ _ (@op_eq _) (pv 5) (@pe_int _ _ _ _) (nomark _)) (@pw_and1 _ _ _ _ (@pt_not _ _ _ _ (@pt_val _ _ _ (@pe_cal _ _ _ _ _ _ _ _ _ _ _ _ C__law_same (rm hr) rfl pass0 (@pa_cons _ _ _ _ _ (@pe_calm _ _ _ _ _ _ _ _ _ _ _ _ _ _ _ _ (pv 0) M_Grove_state_of (rm hr) pass0 (@pa_cons _ _ _ _ _ (pv 6) (@pa_nil _) rfl) rfl rfl rfl) (@pa_cons _ _ _ _ _ (@pe_ix _ _ _ _ _ _ _ (@ix_tup _) (@pe_ix _ _ _ _ _ _ _ (@ix_tup _) (@pe_ix _ _ _ _ _ _ _ (@ix_list _) (pv 3) (pv 4) (fun _ _ => rfl)) (@pe_int _ _ _ _) (fun _ _ => rfl)) (@pe_int _ _ _ _) (fun _ _ => rfl)) (@pa_nil _) rfl) rfl) (by decide) rfl rfl) (by intro _ ; rfl)))))) (@pss_one _ _ _ (@ps_ret _ _ _ _ (@pe_bl _ _ _ _))) (@pss_nil _)) (@pss_one _ _ _ (@ps_if _ _ _ _ _ _ _ _ (@pt_cmpR _ _ _ _ _ _ _ _ (@op_gt _) (pv 5) (@pe_int _ _ _ _) (nomark _)) (@pss_cons _ _ _ _ _ (@ps_set _ _ (7) _ _ _ _ sc__law_looked.nd rfl (Or.inl rfl) (@pe_calm _ _ _ _ _ _ _ _ _ _ _ _ _ _ _ _ (pv 0) M_Grove_quarters (rm hr) pass0 (@pa_cons _ _ _ _ _ (pv 6) (@pa_nil _) rfl) rfl rfl rfl) rfl (by first | exact .inl rfl | exact .inr rfl | assumption)) (@pss_cons _ _ _ _ _ (@ps_if _ _ _ _ _ _ _ _ (@PW.pt _ _ _ (@pw_or _ _ _ _ _ _ _ (@pt_not _ _ _ _ (@pt_val _ _ _ (@pe_callB _ _ _ _ _ _ _ _ _ (@call_isi _) rfl T.b_isinstance PyProof.Rows.boot_isinstance (@pa_cons _ _ _ _ _ (pv 7) (@pa_cons _ _ _ _ _ (@pe_bltn _ _ ((.ty "tuple")) _ _ rfl T.b_tuple PyProof.Rows.boot_tuple rfl (by decide) (by decide)) (@pa_nil _) rfl) rfl) (by decide) (by decide) rfl rfl) (by intro _ ; rfl))) (@pw_or1 _ _ _ _ (@pt_cmpR _ _ _ _ _ _ _ _ (@op_ne _) (@pe_callB _ _ _ _ _ _ _ _ _ (@call_len_seq _) rfl T.b_len PySem.boot_len (@pa_cons _ _ _ _ _ (pv 7) (@pa_nil _) rfl) (by decide) (by decide) rfl rfl) (@pe_int _ _ _ _) (nomark _))))) (@pss_one _ _ _ (@ps_ret _ _ _ _ (@pe_bl _ _ _ _))) (@pss_nil _)) (@pss_one _ _ _ (@ps_for _ _ _ _ _ _ _ _ PassesOwn.never rfl (@pi_zip _ _ _ _ _ _ _ _ _ true true rfl T.b_zip (@pa_cons _ _ _ _ _ (@pe_ix _ _ _ _ _ _ _ (@ix_tup _) (@pe_ix _ _ _ _ _ _ _ (@ix_list _) (pv 3) (pv 4) (fun _ _ => rfl)) (@pe_int _ _ _ _) (fun _ _ => rfl)) (@pa_cons _ _ _ _ _ (pv 7) (@pa_nil _) rfl) rfl) rfl rfl) (@pg_tup _ _ _ _ _ _ rfl (@pgs_cons _ _ _ _ _ (@pg_name _ _ (8) _ sc__law_looked.nd rfl (Or.inl rfl) (by first | exact .inl rfl | exact .inr rfl | assumption)) (@pgs_cons _ _ _ _ _ (@pg_name _ _ (9) _ sc__law_looked.nd rfl (Or.inl rfl) (by first | exact .inl rfl | exact .inr rfl | assumption)) (@pgs_nil _) rfl) rfl) rfl rfl) (@pss_one _ _ _ (@ps_if _ _ _ _ _ _ _ _ (@pt_not _ _ _ _ (@pt_val _ _ _ (@pe_cal _ _ _ _ _ _ _ _ _ _ _ _ C__law_agreed (rm hr) rfl pass0 (@pa_cons _ _ _ _ _ (pv 1) (@pa_cons _ _ _ _ _ (pv 2) (@pa_cons _ _ _ _ _ (pv 8) (@pa_cons _ _ _ _ _ (pv 9) (@pa_nil _) rfl) rfl) rfl) rfl) (by decide) rfl rfl) (by intro _ ; rfl))) (@pss_one _ _ _ (@ps_ret _ _ _ _ (@pe_bl _ _ _ _))) (@pss_nil _))) (by intro _ ; rfl))))) (@pss_nil _))))))) (by intro _ ; rfl)) (@pss_one _ _ _ (@ps_ret _ _ _ _ (@pe_bl _ _ _ _)))), ?_⟩
    try dsimp only [cxK]
    have nkb : kn ≠ bk := by
      intro z
      subst z
      simp [sAll] at nd
    have napart : ∀ x ∈ gAll g, x ∉ [kn, bk] := by
      intro x hx hy
      simp only [sAll, gAll, List.nodup_cons, List.mem_cons, List.not_mem_nil, or_false, not_or] at *
      rcases hx with rfl | rfl | rfl | rfl | rfl | rfl <;> rcases hy with hy | hy <;> simp_all
    refine ⟨_, rfl, kn, _, rfl, sd.hk, fun L hL => ⟨L, rfl, ⟨_, SqL.of upd_same⟩, ?_⟩⟩
    have s1 := same_up (o := .lst (ks.map fun q => kV q.1)) hL
    have h1 : upd H L (.lst (ks.map fun q => kV q.1)) L = some (.lst (ks.map fun q => kV q.1)) := upd_same
    have nL : L ∉ [g.am, g.bx, kn, bk] := by
      obtain ⟨_, z1, _⟩ := sd.fu.am
      obtain ⟨_, z2, _⟩ := sd.fu.bx
      simp only [List.mem_cons, List.not_mem_nil, or_false, not_or]
      exact ⟨Ne.symm (ne_of_none z1 hL), Ne.symm (ne_of_none z2 hL), Ne.symm (ne_of_none sd.hk hL), Ne.symm (ne_of_none sd.hb hL)⟩
    generalize upd H L (.lst (ks.map fun q => kV q.1)) = H1 at s1 h1 ⊢
    refine for_list (xs := ks.map fun q => kV q.1) (fun j σ H2 => ∃ (ks' bs' : List (Key × V)) (u4 u5 u6 u7 u8 u9 : Option V), σ = [some (.ref g.p), some (.ref kn), some (.ref bk), some (.ref rw'), u4, u5, u6, u7, u8, u9] ∧ Fx [g.am, g.bx, kn, bk] H1 H2 ∧ Side a H2 g G kn bk R ks' bs' ∧ ∀ j, (∃ v, valV ks j = some v) → ∃ v, valV ks' j = some v) ⟨ks, bs, none, none, none, none, none, none, rfl, Fx.refl _ H1, sd.same s1, fun _ h => h⟩ (fun j σ H2 _ ⟨_, _, _, _, _, _, _, _, _, f2, _⟩ => SqL.of (f2.get nL h1)) ?_ ?_
    · rintro j v σ H2 hv ⟨ks', bs', u4, u5, u6, u7, u8, u9, rfl, f2, sd2, mono⟩
      rw [List.getElem?_map] at hv
      obtain ⟨kv, ekv, rfl⟩ := Option.map_eq_some_iff.mp hv
      have mkv := List.mem_of_getElem? ekv
      obtain ⟨i, hi, ek⟩ := sd.kok.keys.lt kv.1 (List.mem_map.mpr ⟨kv, mkv, rfl⟩)
      rw [ek]
      obtain ⟨v', ev'⟩ : ∃ v, valV ks (Sum.inl (i : Int)) = some v := by
        have : ∀ l : List (Key × V), kv ∈ l → ∃ v, valV l kv.1 = some v := by
          intro l
          induction l with
          | nil => intro h; simp at h
          | cons p r ih =>
            intro h
            by_cases e : p.1 = kv.1
            · exact ⟨_, valV_pos e⟩
            · rcases List.mem_cons.mp h with z | z
              · exact absurd (by rw [z]) e
              · obtain ⟨v, hv⟩ := ih z
                exact ⟨v, by rw [valV_neg e]; exact hv⟩
        rw [← ek]
        exact this ks mkv
      obtain ⟨v2, ev2⟩ := mono _ ⟨v', ev'⟩
      obtain ⟨m, n, rfl, rel⟩ := sd2.kok.val i v2 ev2
      obtain ⟨r, er, elr⟩ := rel.rlev
      have ra2 := (ra.same s1).fx f2 ni nr
      obtain ⟨ts, tr, tq, a1, a2, a3, a4⟩ := ra2.get er
      have lev := rel.lev sd2.fu.ok
      obtain ⟨sq, esq, elq⟩ := id lev
      have liv := rel.liv rk sd2.fu.ok
      rw [livOf_eq er] at liv
      refine ⟨_, rfl, _, rfl, rw', _, (i : Int), .ref tr, rfl, rfl, SqL.of a1, atI_nat a2, tr, _, 0, .int r.lev, rfl, rfl, SqT.of a3, atI_nat (j := 0) rfl, ?_⟩
      refine ⟨_, rfl, _, rfl, kn, .int m, rfl, DGet.kv (k := Sum.inl (i : Int)) sd2.hk ev2, ?_⟩
      refine ⟨_, rfl, g.p, g.dx, _, rfl, sd2.fu.at'.hp, no_levelOf g, _, rfl, g, G, m, sq, rfl, sd2.fu.at', esq, _, rfl, r.lev, by rw [elq, elr]; rfl, true, rfl, iteF ?_⟩
      refine ⟨_, rfl, g.p, g.dx, _, rfl, sd2.fu.at'.hp, no_living g, _, rfl, g, G, m, n, rfl, sd2.fu, lev, by lia, fun H3 fq3 fu3 => ?_⟩
      have f3 := (fq3.fx sd2.fu).mono (m := [g.am, g.bx, kn, bk]) (by simp)
      have sd3 : Side a H3 g G kn bk R ks' bs' := ⟨fu3, (fq3.fx sd2.fu).get (by simp only [sAll, List.nodup_cons, List.mem_cons, List.not_mem_nil, or_false, not_or] at nd ⊢; exact ⟨fun z => nd.2.2.2.2.1.2.1 z.symm, fun z => nd.2.2.2.2.2.1.1 z.symm⟩) sd2.hk, (fq3.fx sd2.fu).get (by simp only [sAll, List.nodup_cons, List.mem_cons, List.not_mem_nil, or_false, not_or] at nd ⊢; exact ⟨fun z => nd.2.2.2.2.1.2.2 z.symm, fun z => nd.2.2.2.2.2.1.2 z.symm⟩) sd2.hb, sd2.kok, sd2.bok⟩
      have f13 := f2.trans f3
      have ra3 := (ra.same s1).fx f13 ni nr
      have a13 : H3 rw' = some (.lst (ts.map V.ref)) := f3.get nr a1
      have a33 := f3.tup a3
      have a43 := f3.tup a4
      refine ⟨_, rfl, _, rfl, rw', _, (i : Int), .ref tr, rfl, rfl, SqL.of a13, atI_nat a2, tr, _, 2, .int r.liv, rfl, rfl, SqT.of a33, atI_nat (j := 2) rfl, r.liv, by rw [liv]; rfl, true, rfl, iteF ?_⟩
      apply meetH (fun σ H4 => H3 = H4 ∧ σ = [some (.ref g.p), some (.ref kn), some (.ref bk), some (.ref rw'), some (.int i), some (.int r.lev), some (.int m), u7, u8, u9])
      · intro rest
        refine ⟨_, rfl, rfl, _, rfl, ?_⟩
        cases rel with
        | leaf _ _ v h8 e =>
          rw [er] at e
          cases e
          refine iteT ⟨_, rfl, g.p, g.dx, _, rfl, fu3.at'.hp, no_stateOf g, _, rfl, g, G, m, sq, rfl, fu3.at', esq, elq, ?_⟩
          exact ⟨_, rfl, _, rfl, rw', _, (i : Int), .ref tr, rfl, rfl, SqL.of a13, atI_nat a2, tr, _, 1, .ref tq, rfl, rfl, SqT.of a33, atI_nat (j := 1) rfl, tq, _, 0, .int m, rfl, rfl, SqT.of a43, atI_nat (j := 0) rfl, (m : Int), rfl, true, rfl, iteF (rest _ _ ⟨rfl, rfl⟩)⟩
        | node n _ _ x y z w' x' y' z' w'' v e e' rx ry rz rw' =>
          rw [er] at e
          cases e
          rw [decide_eq_false (by intro z; injection z with z; lia)]
          exact iteF (iteF (rest _ _ ⟨rfl, rfl⟩))
      rintro σ H4 ⟨rfl, rfl⟩
      refine ⟨_, rfl, _, _, rfl, rfl, _, rfl, ?_⟩
      cases rel with
      | leaf _ _ v h8 e =>
        rw [er] at e
        cases e
        exact iteF ⟨ks', bs', _, _, _, _, _, _, rfl, f13, sd3, mono⟩
      | node n _ _ x y z w' x' y' z' w'' v e e' rx ry rz rw2 =>
        rw [er] at e
        cases e
        rw [esq] at e'
        cases e'
        rw [decide_eq_true (by lia : (0 : Int) < (n : Int) + 1)]
        refine iteT ⟨_, rfl, g.p, g.dx, _, rfl, fu3.at'.hp, no_quarters g, _, rfl, g, G, m, _, rfl, fu3.at', esq, (by show (n : Int) + 1 ≠ 0; lia), fun t ht => ?_⟩
        have ht : H3 t = some (.tup [.int x', .int y', .int z', .int w'']) := ht
        refine ⟨_, rfl, _, _, _, .type "tuple", true, rfl, rfl, .of (.tup ht), kit_t K, true, rfl, iteF ⟨_, rfl, t, _, rfl, .inr (SqT.of ht), rfl, _, rfl, iteNS rfl ?_⟩⟩
        have a43 : H3 tq = some (.tup [.int x, .int y, .int z, .int w']) := a43
        refine ⟨_, rfl, _, rfl, rw', _, (i : Int), .ref tr, rfl, rfl, SqL.of a13, atI_nat a2, tr, _, 1, .ref tq, rfl, rfl, SqT.of a33, atI_nat (j := 1) rfl, _, rfl, tq, t, rfl, ⟨_, SqT.of a43⟩, ⟨_, SqT.of ht⟩, ?_⟩
        have mem : ∀ (j : Nat) v u, [V.int (x : Int), .int y, .int z, .int w'][j]? = some v → [V.int (x' : Int), .int y', .int z', .int w''][j]? = some u → ∃ p m : Nat, v = .int p ∧ u = .int m ∧ Rel R G n p m := fun j v u e e2 => by
          match j, e, e2 with
          | 0, e, e2 => cases e; cases e2; exact ⟨x, x', rfl, rfl, rx⟩
          | 1, e, e2 => cases e; cases e2; exact ⟨y, y', rfl, rfl, ry⟩
          | 2, e, e2 => cases e; cases e2; exact ⟨z, z', rfl, rfl, rz⟩
          | 3, e, e2 => cases e; cases e2; exact ⟨w', w'', rfl, rfl, rw2⟩
          | j + 4, e, _ => cases e
        refine for_zip (xs := [.int x, .int y, .int z, .int w']) (ys := [.int x', .int y', .int z', .int w'']) (fun j2 σ H4 => ∃ (ks' bs' : List (Key × V)) (u8 u9 : Option V), σ = [some (.ref g.p), some (.ref kn), some (.ref bk), some (.ref rw'), some (.int i), some (.int ((n : Int) + 1)), some (.int m), some (.ref t), u8, u9] ∧ Fx [g.am, g.bx, kn, bk] H3 H4 ∧ Side a H4 g G kn bk R ks' bs' ∧ ∀ j, (∃ v, valV ks j = some v) → ∃ v, valV ks' j = some v) ⟨ks', bs', _, _, rfl, Fx.refl _ H3, sd3, mono⟩ (fun j2 σ H4 ⟨_, _, _, _, _, f4, _⟩ => ⟨SqT.of (f4.tup a43), SqT.of (f4.tup ht)⟩) ?_ ?_
        · rintro j2 vx vy σ H4 T' hx hy ⟨ks4, bs4, u8, u9, rfl, f4, sd4, mono4⟩ nT
          obtain ⟨p, m2, rfl, rfl, rel2⟩ := mem j2 vx vy hx hy
          have s5 := same_up (o := .tup [.int p, .int m2]) nT
          have sd5 := sd4.same s5
          refine gpair upd_same ⟨_, rfl, _, rfl, _, rfl, _, rfl, kn, bk, R, G, ks4, bs4, p, m2, n, rfl, sd5.hk, sd5.hb, nkb, rk, sd5.fu.ok, sd5.kok, sd5.bok, rel2, by lia, by lia, fun H6 ks6 bs6 f6 hk6 hb6 kok6 bok6 _ mono6 => ⟨true, rfl, iteF ?_⟩⟩
          exact ⟨ks6, bs6, _, _, rfl, (f4.trans (Same.fx s5)).trans (f6.mono (by simp)), ⟨sd5.fu.fx f6 napart, hk6, hb6, kok6, bok6⟩, fun j hj => mono6 j (mono4 j hj)⟩
        · rintro σ H4 ⟨ks4, bs4, u8, u9, rfl, f4, sd4, mono4⟩
          exact ⟨ks4, bs4, _, _, _, _, _, _, rfl, f13.trans f4, sd4, mono4⟩
    · rintro σ H2 ⟨ks', bs', u4, u5, u6, u7, u8, u9, rfl, f2, sd2, mono⟩
      exact q H2 ((Same.fx s1).trans f2)
end
end J

set_option maxHeartbeats 200000
set_option Elab.async false
set_option linter.all false
set_option maxRecDepth 100000
set_option maxHeartbeats 4000000
/-! k15: what the law keeps. -/
namespace J
open PySem L2
/-- places that are apart -/
theorem dis {l : List Addr} (nd : l.Nodup) {xs ys : List Addr} (is js : List Nat) (hx : xs.map some = is.map (fun i => l[i]?)) (hy : ys.map some = js.map (fun j => l[j]?)) (h : ∀ i ∈ is, i ∉ js) : ∀ x ∈ xs, x ∉ ys := fun x mx my => by
  have h1 : some x ∈ is.map (fun i => l[i]?) := by rw [← hx]; exact List.mem_map.mpr ⟨x, mx, rfl⟩
  have h2 : some x ∈ js.map (fun i => l[i]?) := by rw [← hy]; exact List.mem_map.mpr ⟨x, my, rfl⟩
  obtain ⟨i, mi, ei⟩ := List.mem_map.mp h1
  obtain ⟨j, mj, ej⟩ := List.mem_map.mp h2
  have : i = j := by
    obtain ⟨li, ei⟩ := List.getElem?_eq_some_iff.mp ei
    obtain ⟨lj, ej⟩ := List.getElem?_eq_some_iff.mp ej
    exact (List.getElem_inj nd).mp (ei.trans ej.symm)
  subst this
  exact h i mi mj
theorem sub_nd {l : List Addr} (nd : l.Nodup) {xs : List Addr} (is : List Nat) (hx : xs.map some = is.map (fun i => l[i]?)) (h : is.Nodup) : xs.Nodup := by
  have h2 : (is.map (fun i => l[i]?)).Nodup := by
    rw [List.nodup_iff_pairwise_ne, List.pairwise_map]
    refine List.Pairwise.imp_of_mem (fun {i j} hi hj ne z => ne ?_) (List.nodup_iff_pairwise_ne.mp h)
    have h1 : l[i]? ∈ xs.map some := by rw [hx]; exact List.mem_map.mpr ⟨i, hi, rfl⟩
    obtain ⟨x, _, ex⟩ := List.mem_map.mp h1
    obtain ⟨li, ei⟩ := List.getElem?_eq_some_iff.mp ex.symm
    rw [← ex] at z
    obtain ⟨lj, ej⟩ := List.getElem?_eq_some_iff.mp z.symm
    exact (List.getElem_inj nd).mp (ei.trans ej.symm)
  rw [← hx, List.nodup_iff_pairwise_ne, List.pairwise_map] at h2
  exact List.nodup_iff_pairwise_ne.mpr (List.Pairwise.imp (fun ne z => ne (congrArg some z)) h2)
structure Pl where
  g : Nat → GA
  k : Nat → Addr
  b : Nat → Addr
  L1 : Addr
  L2 : Addr
  L3 : Addr
  ids : Addr
  rw : Addr
  pl : Addr
  dl : Addr
  S : Addr
def Pl.sa (p : Pl) (j : Nat) : List Addr := sAll (p.g j) (p.k j) (p.b j)
structure Apt (p : Pl) : Prop where
  ap : ∀ i j, i < 2 → j < 2 → i ≠ j → ∀ x ∈ p.sa i, x ∉ p.sa j
  nd : ∀ j, j < 2 → (p.sa j).Nodup
  ot : ∀ j, j < 2 → ∀ x ∈ [p.S, p.dl, p.pl, p.rw, p.ids, p.L3, p.L2, p.L1], x ∉ p.sa j
  on : [p.S, p.dl, p.pl, p.rw, p.ids, p.L3, p.L2, p.L1].Nodup
def upN {α : Type} (f : Nat → α) (j : Nat) (x : α) : Nat → α := fun i => if i = j then x else f i
theorem upN_same {α : Type} {f : Nat → α} {j : Nat} {x : α} : upN f j x j = x := if_pos rfl
theorem upN_ne {α : Type} {f : Nat → α} {i j : Nat} {x : α} (h : i ≠ j) : upN f j x i = f i := if_neg h
structure S15 (a : Ad) (p : Pl) (cs : List Int) (H : Hp) (R : Rws) (G : Nat → Gv) (ks bs : Nat → List (Key × V)) (pool : List Nat) (ds : List (Addr × Deed)) : Prop where
  sd : ∀ j, j < 2 → Side a H (p.g j) (G j) (p.k j) (p.b j) R (ks j) (bs j)
  ra : RAt H p.ids p.rw R
  rk : ROk R
  hp : H p.pl = some (.lst (nV pool))
  hl : H p.dl = some (.lst (ds.map fun d => V.ref d.1))
  hd : ∀ d ∈ ds, DAt H d.1 d.2 ∧ DOk R [] d.2
  l1 : H p.L1 = some (.lst [.ref (p.g 0).p, .ref (p.g 1).p])
  l2 : H p.L2 = some (.lst [.ref (p.k 0), .ref (p.k 1)])
  l3 : H p.L3 = some (.lst [.ref (p.b 0), .ref (p.b 1)])
  s : H p.S = some (.lst (cs.map V.int))
  pk : ∀ q ∈ pool, q < R.length ∧ ∀ j, j < 2 → ∃ v, valV (ks j) (Sum.inl (q : Int)) = some v
theorem DOk.more {R R' : Rws} {n : Nat} (mo : More R R' n) {pool : List Nat} {D : Deed} (h : DOk R pool D) : DOk R' pool D := by
  cases D with
  | leaf s o => exact ⟨h.1, h.2.more mo⟩
  | solid l s o => exact ⟨h.1, h.2.1, h.2.2.more mo⟩
  | part b k o =>
    obtain ⟨h1, h2, r, e, h3⟩ := h
    exact ⟨h1, h2, r, mo.get e, h3⟩
  | joined x y z w o =>
    obtain ⟨h1, l, v, h2, h3, h4, h5, h6, h7⟩ := h
    exact ⟨h1, l, v, h2, mo.lev h3, mo.lev h4, mo.lev h5, mo.lev h6, mo.get h7⟩
theorem DOk.pool {R : Rws} {pool : List Nat} {D : Deed} (h : DOk R [] D) : DOk R pool D := by
  cases D with
  | leaf s o => exact h
  | solid l s o => exact h
  | part b k o => exact absurd h.1 (by simp)
  | joined x y z w o => exact absurd h.1.1 (by simp)
section
variable {a : Ad} {p : Pl} {cs : List Int} {H H' : Hp} {R R' : Rws} {G : Nat → Gv} {ks bs : Nat → List (Key × V)} {pool : List Nat} {ds : List (Addr × Deed)}
theorem S15.rows (A : Apt p) {n : Nat} (h : S15 a p cs H R G ks bs pool ds) (f : Fx [p.ids, p.rw] H H') (ra : RAt H' p.ids p.rw R') (mo : More R R' n) : S15 a p cs H' R' G ks bs pool ds := by
  have o1 := dis A.on [0, 1, 2, 5, 6, 7] [4, 3] (xs := [p.S, p.dl, p.pl, p.L3, p.L2, p.L1]) (ys := [p.ids, p.rw]) rfl rfl (by decide)
  refine ⟨fun j hj => ((h.sd j hj).fx f fun x hx hy => A.ot j hj x ?_ hx).more mo, ra, mo.ok, f.get (o1 _ (by simp)) h.hp, f.get (o1 _ (by simp)) h.hl, fun d hd => ⟨(h.hd d hd).1.fx f, (h.hd d hd).2.more mo⟩, f.get (o1 _ (by simp)) h.l1, f.get (o1 _ (by simp)) h.l2, f.get (o1 _ (by simp)) h.l3, f.get (o1 _ (by simp)) h.s, fun q hq => ⟨Nat.lt_of_lt_of_le (h.pk q hq).1 mo.le, (h.pk q hq).2⟩⟩
  simp only [List.mem_cons, List.not_mem_nil, or_false] at hy ⊢
  rcases hy with rfl | rfl <;> simp
theorem S15.side (A : Apt p) (h : S15 a p cs H R G ks bs pool ds) {j : Nat} (hj : j < 2) (f : Fx (p.sa j) H H') {G' : Gv} {ks' bs' : List (Key × V)} (sd : Side a H' (p.g j) G' (p.k j) (p.b j) R ks' bs') (mono : ∀ i, (∃ v, valV (ks j) i = some v) → ∃ v, valV ks' i = some v) : S15 a p cs H' R (upN G j G') (upN ks j ks') (upN bs j bs') pool ds := by
  have o1 := A.ot j hj
  refine ⟨fun i hi => ?_, h.ra.fx f (o1 _ (by simp)) (o1 _ (by simp)), h.rk, f.get (o1 _ (by simp)) h.hp, f.get (o1 _ (by simp)) h.hl, fun d hd => ⟨(h.hd d hd).1.fx f, (h.hd d hd).2⟩, f.get (o1 _ (by simp)) h.l1, f.get (o1 _ (by simp)) h.l2, f.get (o1 _ (by simp)) h.l3, f.get (o1 _ (by simp)) h.s, fun q hq => ⟨(h.pk q hq).1, fun i hi => ?_⟩⟩
  · by_cases e : i = j
    · subst e
      rw [upN_same, upN_same, upN_same]
      exact sd
    · rw [upN_ne e, upN_ne e, upN_ne e]
      exact (h.sd i hi).fx f (A.ap i j hi hj e)
  · by_cases e : i = j
    · subst e
      rw [upN_same]
      exact mono _ ((h.pk q hq).2 i hi)
    · rw [upN_ne e]
      exact (h.pk q hq).2 i hi
theorem S15.popd (A : Apt p) (h : S15 a p cs H R G ks bs pool ds) {ds' : List (Addr × Deed)} (s : ∀ d ∈ ds', d ∈ ds) : S15 a p cs (upd H p.dl (.lst (ds'.map fun d => V.ref d.1))) R G ks bs pool ds' := by
  have f := fx_up (o' := .lst (ds'.map fun d => V.ref d.1)) h.hl (fun z => z)
  have o1 := dis A.on [0, 2, 3, 4, 5, 6, 7] [1] (xs := [p.S, p.pl, p.rw, p.ids, p.L3, p.L2, p.L1]) (ys := [p.dl]) rfl rfl (by decide)
  refine ⟨fun j hj => (h.sd j hj).fx f fun x hx hy => A.ot j hj x ?_ hx, h.ra.fx f (o1 _ (by simp)) (o1 _ (by simp)), h.rk, f.get (o1 _ (by simp)) h.hp, upd_same, fun d hd => ⟨(h.hd d (s d hd)).1.fx f, (h.hd d (s d hd)).2⟩, f.get (o1 _ (by simp)) h.l1, f.get (o1 _ (by simp)) h.l2, f.get (o1 _ (by simp)) h.l3, f.get (o1 _ (by simp)) h.s, h.pk⟩
  rw [List.mem_singleton] at hy
  subst hy
  simp
theorem S15.put (A : Apt p) (h : S15 a p cs H R G ks bs pool ds) {q : Nat} (hq : q < R.length) (kn : ∀ j, j < 2 → ∃ v, valV (ks j) (Sum.inl (q : Int)) = some v) : S15 a p cs (upd H p.pl (.lst (nV (pool ++ [q])))) R G ks bs (pool ++ [q]) ds := by
  have f := fx_up (o' := .lst (nV (pool ++ [q]))) h.hp (fun z => z)
  have o1 := dis A.on [0, 1, 3, 4, 5, 6, 7] [2] (xs := [p.S, p.dl, p.rw, p.ids, p.L3, p.L2, p.L1]) (ys := [p.pl]) rfl rfl (by decide)
  refine ⟨fun j hj => (h.sd j hj).fx f fun x hx hy => A.ot j hj x ?_ hx, h.ra.fx f (o1 _ (by simp)) (o1 _ (by simp)), h.rk, upd_same, f.get (o1 _ (by simp)) h.hl, fun d hd => ⟨(h.hd d hd).1.fx f, (h.hd d hd).2⟩, f.get (o1 _ (by simp)) h.l1, f.get (o1 _ (by simp)) h.l2, f.get (o1 _ (by simp)) h.l3, f.get (o1 _ (by simp)) h.s, fun x hx => ?_⟩
  · rw [List.mem_singleton] at hy
    subst hy
    simp
  · rcases List.mem_append.mp hx with z | z
    · exact h.pk x z
    · rw [List.mem_singleton] at z
      subst z
      exact ⟨hq, kn⟩
end
/-! ### all that is laid is apart -/
structure Nw (H : Hp) (l : List Addr) : Prop where
  nd : l.Nodup
  s : ∀ x ∈ l, ∃ o, H x = some o
theorem Nw.same {H H' : Hp} {l : List Addr} (s : Same H H') (h : Nw H l) : Nw H' l := ⟨h.nd, fun x hx => by
  obtain ⟨o, e⟩ := h.s x hx
  exact ⟨o, s _ _ e⟩⟩
theorem Nw.fx {H H' : Hp} {l m : List Addr} (f : Fx m H H') (n : ∀ x ∈ m, ∃ o, H' x = some o) (h : Nw H l) : Nw H' l := ⟨h.nd, fun x hx => by
  by_cases z : x ∈ m
  · exact n x z
  · obtain ⟨o, e⟩ := h.s x hx
    exact ⟨o, f.get z e⟩⟩
theorem Nw.out {H : Hp} {l : List Addr} (h : Nw H l) {x : Addr} (n : H x = none) : x ∉ l := fun z => by
  obtain ⟨o, e⟩ := h.s x z
  rw [n] at e
  cases e
theorem Nw.new {H : Hp} {l : List Addr} (h : Nw H l) {x : Addr} {o : HO} (n : H x = none) : Nw (upd H x o) (x :: l) := ⟨List.nodup_cons.mpr ⟨h.out n, h.nd⟩, fun y hy => by
  rcases List.mem_cons.mp hy with rfl | hy
  · exact ⟨o, upd_same⟩
  · obtain ⟨o', e⟩ := h.s y hy
    exact ⟨o', by rw [upd_ne (ne_of_none e n)]; exact e⟩⟩
theorem Full.nw {a : Ad} {H : Hp} {g : GA} {G : Gv} (h : Full a H g G) : Nw H (gAll g) := by
  obtain ⟨⟨_, h2, ⟨ts, h3, _⟩, h5, h6⟩, _, _, h7, ⟨ks, h8, _⟩, ⟨ks', h9, _⟩, n1, n2, n3⟩ := h
  have t : ∀ {x y : Addr} {o o' : HO}, H x = some o → H y = some o' → o ≠ o' → x ≠ y := fun {x y o o'} e e' n => ne_of e e' n
  refine ⟨?_, fun x hx => ?_⟩
  · simp only [gAll, List.nodup_cons, List.mem_cons, List.not_mem_nil, or_false, not_or, not_false_eq_true, List.nodup_nil, and_true]
    exact ⟨⟨h6, t h2 h5 (by intro z; cases z), Ne.symm n1, t h2 h8 (by intro z; cases z), t h2 h9 (by intro z; cases z)⟩, ⟨t h3 h5 (by intro z; cases z), Ne.symm n2, t h3 h8 (by intro z; cases z), t h3 h9 (by intro z; cases z)⟩, ⟨t h5 h7 (by intro z; cases z), t h5 h8 (by intro z; cases z), t h5 h9 (by intro z; cases z)⟩, ⟨t h7 h8 (by intro z; cases z), t h7 h9 (by intro z; cases z)⟩, n3⟩
  · simp only [gAll, List.mem_cons, List.not_mem_nil, or_false] at hx
    rcases hx with rfl | rfl | rfl | rfl | rfl | rfl
    · exact ⟨_, h2⟩
    · exact ⟨_, h3⟩
    · exact ⟨_, h5⟩
    · exact ⟨_, h7⟩
    · exact ⟨_, h8⟩
    · exact ⟨_, h9⟩
theorem Nw.app {H H' : Hp} {l m : List Addr} (h : Nw H l) (s : Same H H') (h2 : Nw H' m) (n : ∀ x ∈ m, H x = none) : Nw H' (m ++ l) := ⟨List.nodup_append.mpr ⟨h2.nd, h.nd, fun x hx y hy z => by
  obtain ⟨o, e⟩ := h.s y hy
  rw [← z, n x hx] at e
  cases e⟩, fun x hx => by
  rcases List.mem_append.mp hx with z | z
  · exact h2.s x z
  · exact (h.same s).s x z⟩
def two {α : Type} (x y : α) : Nat → α
  | 0 => x
  | _ => y
def mkPl (g0 g1 : GA) (k0 k1 b0 b1 L1 L2 L3 ids rw pl dl S : Addr) : Pl := ⟨two g0 g1, two k0 k1, two b0 b1, L1, L2, L3, ids, rw, pl, dl, S⟩
theorem apt_of {g0 g1 : GA} {k0 k1 b0 b1 L1 L2 L3 ids rw pl dl S : Addr} (nd : (S :: dl :: pl :: rw :: ids :: L3 :: b1 :: b0 :: L2 :: k1 :: k0 :: L1 :: (gAll g1 ++ gAll g0)).Nodup) : Apt (mkPl g0 g1 k0 k1 b0 b1 L1 L2 L3 ids rw pl dl S) where
  ap := fun i j hi hj ne => by
    match i, j, hi, hj, ne with
    | 0, 0, _, _, ne => exact absurd rfl ne
    | 1, 1, _, _, ne => exact absurd rfl ne
    | 0, 1, _, _, _ => exact dis nd [18, 19, 20, 21, 22, 23, 10, 7] [12, 13, 14, 15, 16, 17, 9, 6] rfl rfl (by decide)
    | 1, 0, _, _, _ => exact dis nd [12, 13, 14, 15, 16, 17, 9, 6] [18, 19, 20, 21, 22, 23, 10, 7] rfl rfl (by decide)
  nd := fun j hj => by
    match j, hj with
    | 0, _ => exact sub_nd nd [18, 19, 20, 21, 22, 23, 10, 7] rfl (by decide)
    | 1, _ => exact sub_nd nd [12, 13, 14, 15, 16, 17, 9, 6] rfl (by decide)
  ot := fun j hj => by
    match j, hj with
    | 0, _ => exact dis nd [0, 1, 2, 3, 4, 5, 8, 11] [18, 19, 20, 21, 22, 23, 10, 7] rfl rfl (by decide)
    | 1, _ => exact dis nd [0, 1, 2, 3, 4, 5, 8, 11] [12, 13, 14, 15, 16, 17, 9, 6] rfl rfl (by decide)
  on := sub_nd nd [0, 1, 2, 3, 4, 5, 8, 11] rfl (by decide)
end J

set_option maxHeartbeats 200000
set_option Elab.async false
set_option linter.all false
set_option maxRecDepth 100000
set_option maxHeartbeats 8000000
/-! k15: the law. -/
namespace J
open PySem L2
theorem cut_90 (ns : List Int) : ∃ cs : List Int, cutV (ns.map V.int) none (some 90) = cs.map V.int ∧ cs.length ≤ 90 := by
  refine ⟨(ns.drop (HT.sIx (ns.map V.int).length 0 none)).take (HT.sIx (ns.map V.int).length (ns.map V.int).length (some 90) - HT.sIx (ns.map V.int).length 0 none), ?_, ?_⟩
  · unfold cutV
    rw [List.map_take, List.map_drop]
  · rw [List.length_take]
    have h2 : HT.sIx (ns.map V.int).length (ns.map V.int).length (some 90) = min 90 (ns.map V.int).length := by
      show (if (90 : Int) < 0 then ((90 : Int) + (((ns.map V.int).length : Nat) : Int)).toNat else min (90 : Int).toNat (ns.map V.int).length) = _
      rw [if_neg (by decide)]
      rfl
    rw [h2]
    lia
theorem none_up {H : Hp} {x y : Addr} {o : HO} (h : upd H x o y = none) : H y = none := by
  by_cases e : y = x
  · subst e
    rw [upd_same] at h
    cases h
  · rw [upd_ne e] at h
    exact h
theorem NewG.none {a : Ad} {H H' : Hp} {x dx : Addr} {o o' : HO} {g : GA} {G : Gv} {B : List Int} {am : List (Key × V)} (N : NewG a (upd (upd H dx o) x o') H' g G B am) : ∀ y ∈ gAll g, H y = none := fun y hy => by
  obtain ⟨f1, f2, f3, f4, f5, f6⟩ := N.fresh
  simp only [gAll, List.mem_cons, List.not_mem_nil, or_false] at hy
  rcases hy with rfl | rfl | rfl | rfl | rfl | rfl
  · exact none_up (none_up f1)
  · exact none_up (none_up f2)
  · exact none_up (none_up f3)
  · exact none_up (none_up f4)
  · exact none_up (none_up f5)
  · exact none_up (none_up f6)
theorem Same.fxn {H H3 H4 : Hp} {m : List Addr} (s : Same H H3) (f : Fx m H3 H4) (n : ∀ y ∈ m, H y = none) : Same H H4 := fun b o e => f.get (fun z => by rw [n b z] at e; cases e) (s _ _ e)
theorem nV_snoc (l : List Nat) (q : Nat) : nV l ++ [.int q] = nV (l ++ [q]) := by
  unfold nV
  rw [List.map_append]
  rfl
theorem nV_flat : ∀ l : List Nat, (nV l).all flatV = true
  | [] => rfl
  | q :: r => by
    show (flatV (.int q) && (nV r).all flatV) = true
    rw [nV_flat r]
    rfl
theorem at_two {x y : V} {α : Type} {f : Nat → α} {c : α → V} (hx : c (f 0) = x) (hy : c (f 1) = y) {j : Nat} (h : j < 2) : atI [x, y] (0 + (j : Int)) = some (c (f j)) := by
  rw [Int.zero_add]
  match j, h with
  | 0, _ => rw [hx]; exact atI_nat (j := 0) rfl
  | 1, _ => rw [hy]; exact atI_nat (j := 1) rfl
section
variable {P : Program} {w : World} {K : PySem.W.Frag} {mg : Str → Option Value} {base : Heap} {a : Ad}
theorem ok_law {f : Addr} {fd : FuncData} (F : Fun K "law" "law" s_law f fd) (T : Top K mg a) (C_Grove : CalC P w K mg base CX0 2 "Grove" a.c_Grove p_Grove_init (spGInit a)) (M_Grove_solid : CalM P w K mg base CX0 4 a.c_Grove "solid" p_Grove_solid (spSolid a)) (C__law_even : Cal P w K mg base CX0 2 "_law_even" p__law_even spEven) (C__law_deed : Cal P w K mg base CX0 3 "_law_deed" p__law_deed spDeed) (C__law_done : Cal P w K mg base CX0 5 "_law_done" p__law_done (spDone a)) (C__law_agreed : Cal P w K mg base CX0 2 "_law_agreed" p__law_agreed spAgr) (C__law_looked : Cal P w K mg base CX0 52 "_law_looked" p__law_looked (spLook a)) : FnOk P w K mg base CX0 53 f fd p_law (spLaw K) := by
  refine F.ok sc_law (fun vs H Q E h => ?_) (fun cdv A outer s H vs Q E hr h => ?_)
  · obtain ⟨l, ns, rfl, _⟩ := h
    rfl
  · obtain ⟨l, ns, rfl, hS, hlen, kq⟩ := h
    obtain ⟨cs, ecs, lcs⟩ := cut_90 ns
    refine ⟨_, (@pss_cons _ _ _ _ _ (@ps_set _ _ (1) _ _ _ _ sc_law.nd rfl (Or.inl rfl) (@pe_lst _ _ _ _ (@pa_cons _ _ _ _ _ (@pe_calC0 _ _ _ _ _ _ _ _ _ _ C_Grove (rm hr) rfl pass0 (by decide)) (@pa_cons _ _ _ _ _ (@pe_calC0 _ _ _ _ _ _ _ _ _ _ C_Grove (rm hr) rfl pass0 (by decide)) (@pa_nil _) rfl) rfl)) rfl (by first | exact .inl rfl | exact .inr rfl | assumption)) (@pss_cons _ _ _ _ _ (@ps_expr _ _ _ _ (@pe_calm _ _ _ _ _ _ _ _ _ _ _ _ _ _ _ _ (@pe_ix _ _ _ _ _ _ _ (@ix_list _) (pv 1) (@pe_int _ _ _ _) (fun _ _ => rfl)) M_Grove_solid (rm hr) pass0 (@pa_int _ _ _ _ _ _ (@pa_int _ _ _ _ _ _ (@pa_nil _))) rfl rfl rfl) rfl) (@pss_cons _ _ _ _ _ (@ps_set _ _ (2) _ _ _ _ sc_law.nd rfl (Or.inl rfl) (@pe_lst _ _ _ _ (@pa_cons _ _ _ _ _ (@pe_dnewK _ _) (@pa_cons _ _ _ _ _ (@pe_dnewK _ _) (@pa_nil _) rfl) rfl)) rfl (by first | exact .inl rfl | exact .inr rfl | assumption)) (@pss_cons _ _ _ _ _ (@ps_set _ _ (3) _ _ _ _ sc_law.nd rfl (Or.inl rfl) (@pe_lst _ _ _ _ (@pa_cons _ _ _ _ _ (@pe_dnewK _ _) (@pa_cons _ _ _ _ _ (@pe_dnewK _ _) (@pa_nil _) rfl) rfl)) rfl (by first | exact .inl rfl | exact .inr rfl | assumption)) (@pss_cons _ _ _ _ _ (@ps_set _ _ (4) _ _ _ _ sc_law.nd rfl (Or.inl rfl) (@pe_dnewT _ _) rfl (by first | exact .inl rfl | exact .inr rfl | assumption)) (@pss_cons _ _ _ _ _ (@ps_set _ _ (5) _ _ _ _ sc_law.nd rfl (Or.inl rfl) (@pe_lst _ _ _ _ (@pa_nil _)) rfl (by first | exact .inl rfl | exact .inr rfl | assumption)) (@pss_cons _ _ _ _ _ (@ps_set _ _ (6) _ _ _ _ sc_law.nd rfl (Or.inl rfl) (@pe_lst _ _ _ _ (@pa_nil _)) rfl (by first | exact .inl rfl | exact .inr rfl | assumption)) (@pss_cons _ _ _ _ _ (@ps_set _ _ (7) _ _ _ _ sc_law.nd rfl (Or.inl rfl) (@pe_lst _ _ _ _ (@pa_tup _ _ _ _ _ _ _ (@pa_str _ _ _ _ _ _ (@pa_tup _ _ _ _ _ _ _ (@pa_int _ _ _ _ _ _ (@pa_nil _)) (@pa_cons _ _ _ _ _ (@pe_cal _ _ _ _ _ _ _ _ _ _ _ _ C__law_even (rm hr) rfl pass0 (@pa_cons _ _ _ _ _ (pv 4) (@pa_cons _ _ _ _ _ (pv 5) (@pa_int _ _ _ _ _ _ (@pa_int _ _ _ _ _ _ (@pa_nil _))) rfl) rfl) (by decide) rfl rfl) (@pa_nil _) rfl))) (@pa_tup _ _ _ _ _ _ _ (@pa_str _ _ _ _ _ _ (@pa_tup _ _ _ _ _ _ _ (@pa_int _ _ _ _ _ _ (@pa_nil _)) (@pa_cons _ _ _ _ _ (@pe_cal _ _ _ _ _ _ _ _ _ _ _ _ C__law_even (rm hr) rfl pass0 (@pa_cons _ _ _ _ _ (pv 4) (@pa_cons _ _ _ _ _ (pv 5) (@pa_int _ _ _ _ _ _ (@pa_int _ _ _ _ _ _ (@pa_nil _))) rfl) rfl) (by decide) rfl rfl) (@pa_nil _) rfl))) (@pa_nil _)))) rfl (by first | exact .inl rfl | exact .inr rfl | assumption)) (@pss_cons _ _ _ _ _ (@ps_for _ _ _ _ _ _ _ _ PassesOwn.never rfl (@pi_list _ _ _ _ (@pe_op _ _ _ _ _ _ _ _ (@op_cat _) (@pe_lst _ _ _ _ (@pa_int _ _ _ _ _ _ (@pa_int _ _ _ _ _ _ (@pa_nil _)))) (@pe_slice _ _ _ _ _ _ _ _ _ _ (@sl_list _) (pv 0) (@po_none _) (@po_some _ _ _ (@pe_int _ _ _ _))))) (@pg_name _ _ (8) _ sc_law.nd rfl (Or.inl rfl) (by first | exact .inl rfl | exact .inr rfl | assumption)) (@pss_cons _ _ _ _ _ (@ps_if _ _ _ _ _ _ _ _ (@pt_cmpR _ _ _ _ _ _ _ _ (@op_gt _) (@pe_callB _ _ _ _ _ _ _ _ _ (@call_len_seq _) rfl T.b_len PySem.boot_len (@pa_cons _ _ _ _ _ (pv 7) (@pa_nil _) rfl) (by decide) (by decide) rfl rfl) (@pe_int _ _ _ _) (nomark _)) (@pss_one _ _ _ (@ps_set _ _ (9) _ _ _ _ sc_law.nd rfl (Or.inl rfl) (@pe_bm0 _ _ _ _ _ _ _ _ _ PySem.F.plainAttrs_list PySem.F.slot_list_pop PySem.F.type_list_pop (@mt_pop _) (pv 7) rfl rfl) rfl (by first | exact .inl rfl | exact .inr rfl | assumption))) (@pss_one _ _ _ (@ps_set _ _ (9) _ _ _ _ sc_law.nd rfl (Or.inl rfl) (@pe_cal _ _ _ _ _ _ _ _ _ _ _ _ C__law_deed (rm hr) rfl pass0 (@pa_cons _ _ _ _ _ (pv 8) (@pa_cons _ _ _ _ _ (pv 4) (@pa_cons _ _ _ _ _ (pv 5) (@pa_cons _ _ _ _ _ (pv 6) (@pa_nil _) rfl) rfl) rfl) rfl) (by decide) rfl rfl) rfl (by first | exact .inl rfl | exact .inr rfl | assumption)))) (@pss_cons _ _ _ _ _ (@ps_for _ _ _ _ _ _ _ _ PassesOwn.never rfl (@pi_range1 _ _ _ _ _ _ rfl T.b_range (@pa_int _ _ _ _ _ _ (@pa_nil _)) rfl) (@pg_name _ _ (10) _ sc_law.nd rfl (Or.inl rfl) (by first | exact .inl rfl | exact .inr rfl | assumption)) (@pss_one _ _ _ (@ps_if _ _ _ _ _ _ _ _ (@pt_not _ _ _ _ (@pt_val _ _ _ (@pe_cal _ _ _ _ _ _ _ _ _ _ _ _ C__law_agreed (rm hr) rfl pass0 (@pa_cons _ _ _ _ _ (@pe_ix _ _ _ _ _ _ _ (@ix_list _) (pv 2) (pv 10) (fun _ _ => rfl)) (@pa_cons _ _ _ _ _ (@pe_ix _ _ _ _ _ _ _ (@ix_list _) (pv 3) (pv 10) (fun _ _ => rfl)) (@pa_cons _ _ _ _ _ (@pe_ix _ _ _ _ _ _ _ (@ix_tup _) (pv 9) (@pe_int _ _ _ _) (fun _ _ => rfl)) (@pa_cons _ _ _ _ _ (@pe_cal _ _ _ _ _ _ _ _ _ _ _ _ C__law_done (rm hr) rfl pass0 (@pa_cons _ _ _ _ _ (@pe_ix _ _ _ _ _ _ _ (@ix_list _) (pv 1) (pv 10) (fun _ _ => rfl)) (@pa_cons _ _ _ _ _ (pv 9) (@pa_cons _ _ _ _ _ (@pe_ix _ _ _ _ _ _ _ (@ix_list _) (pv 2) (pv 10) (fun _ _ => rfl)) (@pa_nil _) rfl) rfl) rfl) (by decide) rfl rfl) (@pa_nil _) rfl) rfl) rfl) rfl) (by decide) rfl rfl) (by intro _ ; rfl))) (@pss_one _ _ _ (@ps_ret _ _ _ _ (@pe_bl _ _ _ _))) (@pss_nil _))) (by intro _ ; rfl)) (@pss_one _ _ _ (@ps_if _ _ _ _ _ _ _ _ (@pt_cmpR _ _ _ _ _ _ _ _ (@op_notIn_seq _) (@pe_ix _ _ _ _ _ _ _ (@ix_tup _) (pv 9) (@pe_int _ _ _ _) (fun _ _ => rfl)) (pv 6) rfl) (@pss_one _ _ _ (@ps_expr _ _ _ _ (@pe_bm _ _ _ _ _ _ _ _ _ _ _ _ PySem.F.plainAttrs_list PySem.F.slot_list_append PySem.F.type_list_append (@mt_append _) (pv 6) (@pa_cons _ _ _ _ _ (@pe_ix _ _ _ _ _ _ _ (@ix_tup _) (pv 9) (@pe_int _ _ _ _) (fun _ _ => rfl)) (@pa_nil _) rfl) rfl rfl rfl rfl rfl) rfl)) (@pss_nil _))))) (by intro _ ; rfl)) (@pss_one _ _ _ (@ps_ret _ _ _ _ (@pe_and _ _ _ _ _ _ _ (@pe_cal _ _ _ _ _ _ _ _ _ _ _ _ C__law_looked (rm hr) rfl pass0 (@pa_cons _ _ _ _ _ (@pe_ix _ _ _ _ _ _ _ (@ix_list _) (pv 1) (@pe_int _ _ _ _) (fun _ _ => rfl)) (@pa_cons _ _ _ _ _ (@pe_ix _ _ _ _ _ _ _ (@ix_list _) (pv 2) (@pe_int _ _ _ _) (fun _ _ => rfl)) (@pa_cons _ _ _ _ _ (@pe_ix _ _ _ _ _ _ _ (@ix_list _) (pv 3) (@pe_int _ _ _ _) (fun _ _ => rfl)) (@pa_cons _ _ _ _ _ (pv 5) (@pa_nil _) rfl) rfl) rfl) rfl) (by decide) rfl rfl) (@pe_one _ _ _ _ _ (@pe_cal _ _ _ _ _ _ _ _ _ _ _ _ C__law_looked (rm hr) rfl pass0 (@pa_cons _ _ _ _ _ (@pe_ix _ _ _ _ _ _ _ (@ix_list _) (pv 1) (@pe_int _ _ _ _) (fun _ _ => rfl)) (@pa_cons _ _ _ _ _ (@pe_ix _ _ _ _ _ _ _ (@ix_list _) (pv 2) (@pe_int _ _ _ _) (fun _ _ => rfl)) (@pa_cons _ _ _ _ _ (@pe_ix _ _ _ _ _ _ _ (@ix_list _) (pv 3) (@pe_int _ _ _ _) (fun _ _ => rfl)) (@pa_cons _ _ _ _ _ (pv 5) (@pa_nil _) rfl) rfl) rfl) rfl) (by decide) rfl rfl)))))))))))))), ?_⟩
    try dsimp only [cxK]
    -- two groves
    intro x dx nx ndx nex
    refine ⟨x, dx, rfl, upd_same, fun g0 H1 gp N => ⟨rfl, ?_⟩⟩
    have s1 : Same H H1 := fun b o e => N.kp b o (by rw [upd_ne (ne_of_none e nx), upd_ne (ne_of_none e ndx)]; exact e) (gp ▸ ne_of_none e nx)
    subst gp
    have fu0 := Full.new N
    have w0 := fu0.nw
    clear N
    intro x2 dx2 nx2 ndx2 nex2
    refine ⟨x2, dx2, rfl, upd_same, fun g1 H2 gp N => ⟨rfl, ?_⟩⟩
    have s2 : Same H1 H2 := fun b o e => N.kp b o (by rw [upd_ne (ne_of_none e nx2), upd_ne (ne_of_none e ndx2)]; exact e) (gp ▸ ne_of_none e nx2)
    subst gp
    have fu1 := Full.new N
    have w1 := w0.app s2 fu1.nw N.none
    have fu0 := fu0.same s2
    have n1 : ∀ y ∈ gAll g1, H y = none := fun y hy => Same.noneOf s1 (N.none y hy)
    have sH := s1.trans s2
    clear N
    refine ⟨(by show 2 ≤ sizeLine; decide), fun L1 hL1 => ?_⟩
    have s3 := same_up (o := .lst [.ref g0.p, .ref g1.p]) hL1
    have w3 := w1.new (o := .lst [.ref g0.p, .ref g1.p]) hL1
    have l1 : upd H2 L1 (.lst [.ref g0.p, .ref g1.p]) L1 = some (.lst [.ref g0.p, .ref g1.p]) := upd_same
    show (tSeq _ _) _ _ (upd H2 L1 (.lst [.ref g0.p, .ref g1.p]))
    generalize upd H2 L1 (.lst [.ref g0.p, .ref g1.p]) = H3 at s3 w3 l1 ⊢
    have fu0 := fu0.same s3
    have fu1 := fu1.same s3
    have sH := sH.trans s3
    refine ⟨_, rfl, L1, _, 1, .ref g1.p, rfl, rfl, SqL.of l1, atI_nat (j := 1) rfl, g1.p, g1.dx, _, rfl, fu1.at'.hp, no_solid g1, ?_⟩
    refine ⟨g1, G0, 3, 5, rfl, fu1.at', fu1.ok, by decide, by decide, by rw [g0_len]; decide, fun n5 G1 H4 fr4 hg4 go4 _ => ?_⟩
    have x4 := fr4.fx fu1.at'
    have fu0 := fu0.fx x4 (dis w3.nd [7, 8, 9, 10, 11, 12] [1, 2, 3] rfl rfl (by decide))
    have fu1 := fu1.fr fr4 hg4 go4
    have l1 := x4.get (dis w3.nd (xs := [L1]) [0] [1, 2, 3] rfl rfl (by decide) L1 (by simp)) l1
    have w4 := w3.fx x4 fun y hy => fu1.nw.s y (by simp [gAll] at *; lia)
    have lG1 : G1.length ≤ 59 := by have := go4.few; rw [g0_len] at this; exact this
    have sH := Same.fxn sH x4 fun y hy => n1 y (by simp [gAll] at *; lia)
    clear x4 fr4 hg4 w3 w1 w0 s3
    -- known, back
    intro k0 hk0
    have s5 := same_up (o := .dK []) hk0
    have w5 := w4.new (o := .dK []) hk0
    have e5 : upd H4 k0 (.dK []) k0 = some (.dK []) := upd_same
    generalize upd H4 k0 (.dK []) = H5 at s5 w5 e5 ⊢
    intro k1 hk1
    have s6 := same_up (o := .dK []) hk1
    have w6 := w5.new (o := .dK []) hk1
    have e6 : upd H5 k1 (.dK []) k1 = some (.dK []) := upd_same
    generalize upd H5 k1 (.dK []) = H6 at s6 w6 e6 ⊢
    refine ⟨(by show 2 ≤ sizeLine; decide), fun L2 hL2 => ?_⟩
    have s7 := same_up (o := .lst [.ref k0, .ref k1]) hL2
    have w7 := w6.new (o := .lst [.ref k0, .ref k1]) hL2
    have e7 : upd H6 L2 (.lst [.ref k0, .ref k1]) L2 = some (.lst [.ref k0, .ref k1]) := upd_same
    show (tSeq _ _) _ _ (upd H6 L2 (.lst [.ref k0, .ref k1]))
    generalize upd H6 L2 (.lst [.ref k0, .ref k1]) = H7 at s7 w7 e7 ⊢
    intro b0 hb0
    have s8 := same_up (o := .dK []) hb0
    have w8 := w7.new (o := .dK []) hb0
    have e8 : upd H7 b0 (.dK []) b0 = some (.dK []) := upd_same
    generalize upd H7 b0 (.dK []) = H8 at s8 w8 e8 ⊢
    intro b1 hb1
    have s9 := same_up (o := .dK []) hb1
    have w9 := w8.new (o := .dK []) hb1
    have e9 : upd H8 b1 (.dK []) b1 = some (.dK []) := upd_same
    generalize upd H8 b1 (.dK []) = H9 at s9 w9 e9 ⊢
    refine ⟨(by show 2 ≤ sizeLine; decide), fun L3 hL3 => ?_⟩
    have s10 := same_up (o := .lst [.ref b0, .ref b1]) hL3
    have w10 := w9.new (o := .lst [.ref b0, .ref b1]) hL3
    have e10 : upd H9 L3 (.lst [.ref b0, .ref b1]) L3 = some (.lst [.ref b0, .ref b1]) := upd_same
    show (tSeq _ _) _ _ (upd H9 L3 (.lst [.ref b0, .ref b1]))
    generalize upd H9 L3 (.lst [.ref b0, .ref b1]) = H10 at s10 w10 e10 ⊢
    -- ids, rows, pool
    intro ids hids
    have s11 := same_up (o := .dT []) hids
    have w11 := w10.new (o := .dT []) hids
    have e11 : upd H10 ids (.dT []) ids = some (.dT []) := upd_same
    show (tSeq _ _) _ _ (upd H10 ids (.dT []))
    generalize upd H10 ids (.dT []) = H11 at s11 w11 e11 ⊢
    refine ⟨(by show 0 ≤ sizeLine; decide), fun rw' hrw => ?_⟩
    have s12 := same_up (o := .lst []) hrw
    have w12 := w11.new (o := .lst []) hrw
    have e12 : upd H11 rw' (.lst []) rw' = some (.lst []) := upd_same
    show (tSeq _ _) _ _ (upd H11 rw' (.lst []))
    generalize upd H11 rw' (.lst []) = H12 at s12 w12 e12 ⊢
    refine ⟨(by show 0 ≤ sizeLine; decide), fun pl hpl => ?_⟩
    have s13 := same_up (o := .lst []) hpl
    have w13 := w12.new (o := .lst []) hpl
    have e13 : upd H12 pl (.lst []) pl = some (.lst []) := upd_same
    show (tSeq _ _) _ _ (upd H12 pl (.lst []))
    generalize upd H12 pl (.lst []) = H13 at s13 w13 e13 ⊢
    have t12 := s12.trans s13
    have t11 := s11.trans t12
    have t10 := s10.trans t11
    have t9 := s9.trans t10
    have t8 := s8.trans t9
    have t7 := s7.trans t8
    have t6 := s6.trans t7
    have t5 := s5.trans t6
    have nI : H ids = none := Same.noneOf (sH.trans (s5.trans (s6.trans (s7.trans (s8.trans (s9.trans s10)))))) hids
    have nR : H rw' = none := Same.noneOf (sH.trans (s5.trans (s6.trans (s7.trans (s8.trans (s9.trans (s10.trans s11))))))) hrw
    have nIR : ∀ y ∈ [ids, rw'], H y = none := fun y hy => by
      simp only [List.mem_cons, List.not_mem_nil, or_false] at hy
      rcases hy with rfl | rfl
      · exact nI
      · exact nR
    have sH := sH.trans t5
    have sd0 : Side a H13 g0 G0 k0 b0 [] [] [] := ⟨fu0.same t5, t6 _ _ e5, t9 _ _ e8, kn0 _ _, bk0 _ _⟩
    have sd1 : Side a H13 g1 G1 k1 b1 [] [] [] := ⟨fu1.same t5, t7 _ _ e6, t10 _ _ e9, kn0 _ _, bk0 _ _⟩
    have ra : RAt H13 ids rw' [] := ⟨t12 _ _ e11, [], s13 _ _ e12, .nil⟩
    have l1 := t5 _ _ l1
    have l2 := t8 _ _ e7
    have l3 := t11 _ _ e10
    clear fu0 fu1 e5 e6 e7 e8 e9 e10 e11 e12 t5 t6 t7 t8 t9 t10 t11 t12 s5 s6 s7 s8 s9 s10 s11 s12 s13 w4 w5 w6 w7 w8 w9 w10 w11 w12
    -- the first two deeds
    refine ⟨(by show 1 ≤ sizeLine; decide), fun t1 ht1 => ?_⟩
    have s14 := same_up (o := .tup [.int 0]) ht1
    have e14 : upd H13 t1 (.tup [.int 0]) t1 = some (.tup [.int 0]) := upd_same
    show ∃ _, _
    generalize upd H13 t1 (.tup [.int 0]) = H14 at s14 e14 ⊢
    refine ⟨_, rfl, _, rfl, ids, rw', [], 0, 0, rfl, ra.same s14, rok0, by decide, by decide, by decide, fun o0 R1 H15 f15 ra15 mo15 ev15 => ?_⟩
    have w15 := (w13.same s14).fx f15 fun y hy => by
      simp only [List.mem_cons, List.not_mem_nil, or_false] at hy
      obtain ⟨z1, ts, z2, _⟩ := ra15
      rcases hy with rfl | rfl
      · exact ⟨_, z1⟩
      · exact ⟨_, z2⟩
    refine ⟨(by show 3 ≤ sizeLine; decide), fun d0 hd0 => ?_⟩
    have s16 := same_up (o := .tup [.str leafT, .ref t1, .int o0]) hd0
    have e16 : upd H15 d0 (.tup [.str leafT, .ref t1, .int o0]) d0 = some (.tup [.str leafT, .ref t1, .int o0]) := upd_same
    show _ ∧ _
    generalize upd H15 d0 (.tup [.str leafT, .ref t1, .int o0]) = H16 at s16 e16 ⊢
    have D0 : DAt H16 d0 (.leaf 0 o0) := ⟨t1, e16, s16 _ _ (f15.tup e14)⟩
    have F16 : Fx [ids, rw'] H13 H16 := ((Same.fx s14).trans f15).trans (Same.fx s16)
    refine ⟨(by show 1 ≤ sizeLine; decide), fun t2 ht2 => ?_⟩
    have s17 := same_up (o := .tup [.int 1]) ht2
    have e17 : upd H16 t2 (.tup [.int 1]) t2 = some (.tup [.int 1]) := upd_same
    show ∃ _, _
    generalize upd H16 t2 (.tup [.int 1]) = H17 at s17 e17 ⊢
    have fR1 := mo15.few
    refine ⟨_, rfl, _, rfl, ids, rw', R1, 0, 1, rfl, (ra15.same s16).same s17, mo15.ok, by decide, by decide, by simp at fR1; lia, fun o1 R2 H18 f18 ra18 mo18 ev18 => ?_⟩
    have w18 := ((w15.same s16).same s17).fx f18 fun y hy => by
      simp only [List.mem_cons, List.not_mem_nil, or_false] at hy
      obtain ⟨z1, ts, z2, _⟩ := ra18
      rcases hy with rfl | rfl
      · exact ⟨_, z1⟩
      · exact ⟨_, z2⟩
    refine ⟨(by show 3 ≤ sizeLine; decide), fun d1 hd1 => ?_⟩
    have s19 := same_up (o := .tup [.str leafT, .ref t2, .int o1]) hd1
    have e19 : upd H18 d1 (.tup [.str leafT, .ref t2, .int o1]) d1 = some (.tup [.str leafT, .ref t2, .int o1]) := upd_same
    show _ ∧ _
    generalize upd H18 d1 (.tup [.str leafT, .ref t2, .int o1]) = H19 at s19 e19 ⊢
    have D1 : DAt H19 d1 (.leaf 1 o1) := ⟨t2, e19, s19 _ _ (f18.tup e17)⟩
    have D0 : DAt H19 d0 (.leaf 0 o0) := ((D0.fx (l := []) (Same.fx s17)).fx f18).fx (l := []) (Same.fx s19)
    have F19 : Fx [ids, rw'] H13 H19 := ((F16.trans (Same.fx s17)).trans f18).trans (Same.fx s19)
    refine ⟨(by show 2 ≤ sizeLine; decide), fun dl hdl => ?_⟩
    have s20 := same_up (o := .lst [.ref d0, .ref d1]) hdl
    have w20 := (w18.same s19).new (o := .lst [.ref d0, .ref d1]) hdl
    have e20 : upd H19 dl (.lst [.ref d0, .ref d1]) dl = some (.lst [.ref d0, .ref d1]) := upd_same
    show (tSeq _ _) _ _ (upd H19 dl (.lst [.ref d0, .ref d1]))
    generalize upd H19 dl (.lst [.ref d0, .ref d1]) = H20 at s20 w20 e20 ⊢
    have sH := (Same.fxn sH F19 nIR).trans s20
    -- the cells
    refine ⟨(by show 2 ≤ sizeLine; decide), fun Z hZ => ?_⟩
    have s21 := same_up (o := .lst [.int 0, .int 0]) hZ
    have e21 : upd H20 Z (.lst [.int 0, .int 0]) Z = some (.lst [.int 0, .int 0]) := upd_same
    show ∃ _, _
    generalize upd H20 Z (.lst [.int 0, .int 0]) = H21 at s21 e21 ⊢
    refine ⟨_, rfl, _, rfl, l, _, rfl, (sH.trans s21).seq hS, fun C hC => ?_⟩
    rw [ecs]
    have s22 := same_up (o := .lst (cs.map V.int)) hC
    have e22 : upd H21 C (.lst (cs.map V.int)) C = some (.lst (cs.map V.int)) := upd_same
    generalize upd H21 C (.lst (cs.map V.int)) = H22 at s22 e22 ⊢
    refine ⟨Z, C, _, _, rfl, rfl, s22 _ _ e21, e22, by rw [List.length_map]; exact le_ln (by show 2 + cs.length ≤ 10000000; lia), fun S hSn => ⟨S, rfl, ⟨_, SqL.of upd_same⟩, ?_⟩⟩
    have ecs2 : [V.int 0, V.int 0] ++ cs.map V.int = (0 :: 0 :: cs).map V.int := rfl
    rw [ecs2]
    have les : (0 :: 0 :: cs : List Int).length ≤ 92 := by show cs.length + 1 + 1 ≤ 92; lia
    generalize (0 :: 0 :: cs : List Int) = es at les ⊢
    have s23 := same_up (o := .lst (es.map V.int)) hSn
    have w23 := ((w20.same s21).same s22).new (o := .lst (es.map V.int)) hSn
    have e23 : upd H22 S (.lst (es.map V.int)) S = some (.lst (es.map V.int)) := upd_same
    generalize upd H22 S (.lst (es.map V.int)) = H23 at s23 w23 e23 ⊢
    have t20 := (s21.trans s22).trans s23
    have AP := apt_of w23.nd
    have F23 := F19.trans (Same.fx (s20.trans t20))
    have mo2 := mo15.trans mo18
    have ot0 := AP.ot 0 (by decide)
    have ot1 := AP.ot 1 (by decide)
    have oo := dis AP.on [2, 5, 6, 7] [4, 3] (xs := [pl, L3, L2, L1]) (ys := [ids, rw']) rfl rfl (by decide)
    have dis0 : ∀ x ∈ sAll g0 k0 b0, x ∉ [ids, rw'] := fun x hx hy => ot0 x (by
      simp only [List.mem_cons, List.not_mem_nil, or_false] at hy ⊢
      rcases hy with rfl | rfl
      · exact .inr (.inr (.inr (.inr (.inl rfl))))
      · exact .inr (.inr (.inr (.inl rfl)))) hx
    have dis1 : ∀ x ∈ sAll g1 k1 b1, x ∉ [ids, rw'] := fun x hx hy => ot1 x (by
      simp only [List.mem_cons, List.not_mem_nil, or_false] at hy ⊢
      rcases hy with rfl | rfl
      · exact .inr (.inr (.inr (.inr (.inl rfl))))
      · exact .inr (.inr (.inr (.inl rfl)))) hx
    have B0 : S15 a (mkPl g0 g1 k0 k1 b0 b1 L1 L2 L3 ids rw' pl dl S) es H23 R2 (two G0 G1) (fun _ => []) (fun _ => []) [] [(d0, .leaf 0 o0), (d1, .leaf 1 o1)] := by
      refine ⟨fun j hj => ?_, ((ra18.same s19).same s20).same t20, mo2.ok, F23.get (oo pl (by simp)) e13, t20 _ _ e20, fun d hd => ?_, F23.get (oo L1 (by simp)) l1, F23.get (oo L2 (by simp)) l2, F23.get (oo L3 (by simp)) l3, e23, fun q hq => by simp at hq⟩
      · match j, hj with
        | 0, _ => exact (sd0.fx F23 dis0).more mo2
        | 1, _ => exact (sd1.fx F23 dis1).more mo2
      · simp only [List.mem_cons, List.not_mem_nil, or_false] at hd
        rcases hd with rfl | rfl
        · exact ⟨D0.fx (l := []) (Same.fx (s20.trans t20)), by decide, ev15.more mo18⟩
        · exact ⟨D1.fx (l := []) (Same.fx (s20.trans t20)), by decide, ev18⟩
    have lR : R2.length ≤ 2 := by have := mo2.few; simpa using this
    have lG : ∀ j, j < 2 → (two G0 G1 j).length ≤ 100 := fun j hj => by
      match j, hj with
      | 0, _ => show G0.length ≤ 100; rw [g0_len]; decide
      | 1, _ => show G1.length ≤ 100; lia
    generalize hds : [(d0, Deed.leaf 0 o0), (d1, Deed.leaf 1 o1)] = ds0 at B0
    have lds : ds0.length = 2 := by rw [← hds]; rfl
    generalize hP : mkPl g0 g1 k0 k1 b0 b1 L1 L2 L3 ids rw' pl dl S = p at AP B0
    have q1 : L1 = p.L1 := by rw [← hP]; rfl
    have q2 : L2 = p.L2 := by rw [← hP]; rfl
    have q3 : L3 = p.L3 := by rw [← hP]; rfl
    have q4 : ids = p.ids := by rw [← hP]; rfl
    have q5 : rw' = p.rw := by rw [← hP]; rfl
    have q6 : pl = p.pl := by rw [← hP]; rfl
    have q7 : dl = p.dl := by rw [← hP]; rfl
    have q8 : S = p.S := by rw [← hP]; rfl
    rw [q1, q2, q3, q4, q5, q6, q7, q8]
    clear oo dis0 dis1 ot0 ot1 F23 F19 F16 t20 w23 w20 w18 w15 w13 e23 e22 e21 e20 e19 e17 e16 e14 e13 s23 s22 s21 s20 s19 s17 s16 s14 sd0 sd1 ra l1 l2 l3 D0 D1 nIR nI nR sH f15 f18 ra15 ra18
    generalize two G0 G1 = Gz at lG B0
    refine for_list (xs := es.map V.int) (fun i σ H7 => ∃ (R : Rws) (G : Nat → Gv) (ks bs : Nat → List (Key × V)) (pool : List Nat) (ds : List (Addr × Deed)) (u8 u9 u10 : Option V), σ = [some (.ref l), some (.ref p.L1), some (.ref p.L2), some (.ref p.L3), some (.ref p.ids), some (.ref p.rw), some (.ref p.pl), some (.ref p.dl), u8, u9, u10] ∧ S15 a p es H7 R G ks bs pool ds ∧ ds.length = 2 - i ∧ pool.length ≤ i ∧ (1 ≤ i → 0 < pool.length) ∧ R.length ≤ 2 + 49 * i ∧ ∀ j, j < 2 → (G j).length ≤ 100 + 48 * i) ⟨R2, Gz, _, _, [], ds0, none, none, none, rfl, B0, lds, Nat.le_refl _, fun h => absurd h (by decide), by lia, fun j hj => by have := lG j hj; lia⟩ (fun i σ H7 _ ⟨_, _, _, _, _, _, _, _, _, _, B, _⟩ => SqL.of B.s) ?_ ?_
    · rintro i v σ H7 hv ⟨R, G, ks, bs, pool, ds, u8, u9, u10, rfl, B, lds, lp, pp, lR, lG⟩
      have hi : i < es.length := by
        have := (List.getElem?_eq_some_iff.mp hv).1
        rw [List.length_map] at this
        exact this
      rw [List.getElem?_map] at hv
      obtain ⟨cell, ecell, rfl⟩ := Option.map_eq_some_iff.mp hv
      refine ⟨_, rfl, p.dl, _, rfl, .inl (SqL.of B.hl), _, _, rfl, rfl, _, rfl, ?_⟩
      apply meetH (fun σ H8 => ∃ (R' : Rws) (ds' : List (Addr × Deed)) (d : Addr) (D : Deed), S15 a p es H8 R' G ks bs pool ds' ∧ DAt H8 d D ∧ DOk R' pool D ∧ More R R' 49 ∧ ds'.length = 2 - (i + 1) ∧ σ = [some (.ref l), some (.ref p.L1), some (.ref p.L2), some (.ref p.L3), some (.ref p.ids), some (.ref p.rw), some (.ref p.pl), some (.ref p.dl), some (.int cell), some (.ref d), u10])
      · intro rest
        rcases List.eq_nil_or_concat ds with rfl | ⟨ds', d, eds⟩
        · refine iteF ⟨_, rfl, _, rfl, _, rfl, _, rfl, p.ids, p.rw, p.pl, R, pool, cell, rfl, B.ra, B.rk, B.hp, ?_, pp (by simp at lds; lia), by lia, fun q hq => (B.pk q hq).1, by lia, fun d D R' H8 f8 ra8 mo8 da8 dok8 => rest _ _ ⟨R', [], d, D, B.rows AP f8 ra8 mo8, da8, dok8, mo8, by simp at lds ⊢; lia, rfl⟩⟩
          exact fun z => dis AP.on [2] [3] (xs := [p.pl]) (ys := [p.rw]) rfl rfl (by decide) p.pl (by simp) (by simp [z])
        · rw [List.concat_eq_append] at eds
          subst eds
          have hd := B.hd d (by simp)
          rw [decide_eq_true (by simp : (0 : Int) < (((ds' ++ [d]).map fun d => V.ref d.1).length : Nat))]
          refine iteT ⟨_, rfl, .inl ⟨rfl, _, SqL.of B.hl⟩, p.dl, _, .ref d.1, rfl, rfl, B.hl, by simp, ?_⟩
          have B8 := B.popd AP (ds' := ds') fun x hx => by simp [hx]
          rw [List.map_append, List.map_cons, List.map_nil, List.dropLast_concat]
          refine rest _ _ ⟨R, ds', d.1, d.2, B8, hd.1.fx (fx_up B.hl (fun z => z)), hd.2.pool, (More.refl B.rk).mono (by lia), by simp at lds; lia, rfl⟩
      rintro σ H8 ⟨R', ds', d, D, B8, da8, dok8, mo8, lds', rfl⟩
      have lR' := mo8.few
      have lo := dok8.own_lt B8.rk
      refine ⟨2, rfl, by decide, by decide, ?_⟩
      refine for_range (n := 2) (fun j σ H9 => ∃ (G' : Nat → Gv) (ks' bs' : Nat → List (Key × V)) (u10 : Option V), σ = [some (.ref l), some (.ref p.L1), some (.ref p.L2), some (.ref p.L3), some (.ref p.ids), some (.ref p.rw), some (.ref p.pl), some (.ref p.dl), some (.int cell), some (.ref d), u10] ∧ S15 a p es H9 R' G' ks' bs' pool ds' ∧ DAt H9 d D ∧ (∀ j', j' < j → ∃ v, valV (ks' j') (Sum.inl (D.own : Int)) = some v) ∧ (∀ j', j' < 2 → (G' j').length ≤ 100 + 48 * i + 48) ∧ ∀ j', j' < 2 → j ≤ j' → (G' j').length ≤ 100 + 48 * i) ⟨G, ks, bs, u10, rfl, B8, da8, fun j' h => absurd h (Nat.not_lt_zero _), fun j' h => by have := lG j' h; lia, fun j' h _ => lG j' h⟩ ?_ ?_
      · rintro j σ H9 hj ⟨G', ks', bs', u10, rfl, B9, da9, kn9, lG9, lG9'⟩
        have e1 : atI [V.ref (p.g 0).p, V.ref (p.g 1).p] (0 + (j : Int)) = some (.ref (p.g j).p) := at_two (f := p.g) (c := fun g => V.ref g.p) rfl rfl hj
        have e2 : atI [V.ref (p.k 0), V.ref (p.k 1)] (0 + (j : Int)) = some (.ref (p.k j)) := at_two (f := p.k) (c := V.ref) rfl rfl hj
        have e3 : atI [V.ref (p.b 0), V.ref (p.b 1)] (0 + (j : Int)) = some (.ref (p.b j)) := at_two (f := p.b) (c := V.ref) rfl rfl hj
        obtain ⟨td, hd9, _⟩ := id da9
        have sd := B9.sd j hj
        have g1 := lG9' j hj (Nat.le_refl _)
        refine ⟨_, rfl, _, rfl, p.L2, _, _, .ref (p.k j), rfl, rfl, SqL.of B9.l2, e2, _, rfl, _, rfl, p.L3, _, _, .ref (p.b j), rfl, rfl, SqL.of B9.l3, e3, _, rfl, d, _, 2, .int D.own, rfl, rfl, SqT.of hd9, atI_nat (j := 2) rfl, _, rfl, _, rfl, p.L1, _, _, .ref (p.g j).p, rfl, rfl, SqL.of B9.l1, e1, _, rfl, _, rfl, _, rfl, p.L2, _, _, .ref (p.k j), rfl, rfl, SqL.of B9.l2, e2, ?_⟩
        refine ⟨p.g j, G' j, R', p.k j, d, ks' j, D, pool, rfl, sd.fu, B9.rk, sd.hk, sd.kok, fun q hq => (B9.pk q hq).2 j hj, da9, dok8, by lia, fun n m G2 H10 fr10 hg10 go10 rel => ?_⟩
        have x10 := fr10.fx sd.fu.at'
        have nd := AP.nd j hj
        have a1 := dis nd [6, 7] [0, 1, 2] (xs := [p.k j, p.b j]) (ys := [(p.g j).lv, (p.g j).pt, (p.g j).nm]) rfl rfl (by decide)
        have g2 := go10.few
        have sd10 : Side a H10 (p.g j) G2 (p.k j) (p.b j) R' (ks' j) (bs' j) := ⟨sd.fu.fr fr10 hg10 go10, x10.get (a1 _ (by simp)) sd.hk, x10.get (a1 _ (by simp)) sd.hb, sd.kok.go (More.refl B9.rk) go10, sd.bok.go (More.refl B9.rk) go10⟩
        have B10 := B9.side AP hj (x10.mono (by simp [Pl.sa, sAll])) sd10 fun _ h => h
        refine ⟨p.k j, p.b j, R', G2, ks' j, bs' j, D.own, m, n, rfl, sd10.hk, sd10.hb, ?_, B9.rk, sd10.fu.ok, sd10.kok, sd10.bok, rel, by lia, by lia, fun H11 ks2 bs2 f11 hk11 hb11 kok11 bok11 own11 mono11 => ⟨true, rfl, iteF ?_⟩⟩
        · exact fun z => dis nd [6] [7] (xs := [p.k j]) (ys := [p.b j]) rfl rfl (by decide) (p.k j) (by simp) (by simp [z])
        have a2 := dis nd [0, 1, 2, 3, 4, 5] [6, 7] (xs := gAll (p.g j)) (ys := [p.k j, p.b j]) rfl rfl (by decide)
        have sd11 : Side a H11 (p.g j) G2 (p.k j) (p.b j) R' ks2 bs2 := ⟨sd10.fu.fx f11 a2, hk11, hb11, kok11, bok11⟩
        have B11 := B9.side AP hj ((x10.mono (by simp [Pl.sa, sAll])).trans (f11.mono (by simp [Pl.sa, sAll]))) sd11 mono11
        refine ⟨_, _, _, _, rfl, B11, (da9.fx x10).fx f11, fun j' h => ?_, fun j' h => ?_, fun j' h h2 => ?_⟩
        · by_cases e : j' = j
          · subst e
            rw [upN_same]
            exact own11
          · rw [upN_ne e]
            exact kn9 j' (by lia)
        · by_cases e : j' = j
          · subst e
            rw [upN_same]
            lia
          · rw [upN_ne e]
            exact lG9 j' h
        · rw [upN_ne (by lia)]
          exact lG9' j' h (by lia)
      · rintro σ H9 ⟨G', ks', bs', u10, rfl, B9, da9, kn9, lG9, _⟩
        obtain ⟨td, hd9, _⟩ := id da9
        refine ⟨_, rfl, d, _, 2, .int D.own, rfl, rfl, SqT.of hd9, atI_nat (j := 2) rfl, _, rfl, p.pl, _, rfl, .inl (SqL.of B9.hp), rfl, nV_flat _, _, rfl, ite2 (fun hc => ?_) (fun hc => ?_)⟩
        · refine ⟨_, rfl, .inl ⟨rfl, _, SqL.of B9.hp⟩, _, rfl, d, _, 2, .int D.own, rfl, rfl, SqT.of hd9, atI_nat (j := 2) rfl, p.pl, _, .int D.own, rfl, rfl, B9.hp, by rw [nV_len]; exact lt_ln (by lia), ?_⟩
          rw [nV_snoc]
          refine ⟨R', G', ks', bs', pool ++ [D.own], ds', _, _, _, rfl, B9.put AP lo kn9, lds', by rw [List.length_append]; exact Nat.succ_le_succ lp, fun _ => by simp, by lia, fun j hj => by have := lG9 j hj; lia⟩
        · refine ⟨R', G', ks', bs', pool, ds', _, _, _, rfl, B9, lds', by lia, fun _ => ?_, by lia, fun j hj => by have := lG9 j hj; lia⟩
          cases pool with
          | nil => exact absurd rfl hc
          | cons _ _ => simp
    · rintro σ H7 ⟨R, G, ks, bs, pool, ds, u8, u9, u10, rfl, B, lds, lp, pp, lR, lG⟩
      rw [List.length_map] at lR lG
      have g0' := lG 0 (by decide)
      have g1' := lG 1 (by decide)
      have sd0 := B.sd 0 (by decide)
      have sd1 := B.sd 1 (by decide)
      have n0 : p.ids ∉ [(p.g 0).am, (p.g 0).bx, p.k 0, p.b 0] ∧ p.rw ∉ [(p.g 0).am, (p.g 0).bx, p.k 0, p.b 0] := ⟨fun z => AP.ot 0 (by decide) p.ids (by simp) (by simp [Pl.sa, sAll] at *; lia), fun z => AP.ot 0 (by decide) p.rw (by simp) (by simp [Pl.sa, sAll] at *; lia)⟩
      have n1 : p.ids ∉ [(p.g 1).am, (p.g 1).bx, p.k 1, p.b 1] ∧ p.rw ∉ [(p.g 1).am, (p.g 1).bx, p.k 1, p.b 1] := ⟨fun z => AP.ot 1 (by decide) p.ids (by simp) (by simp [Pl.sa, sAll] at *; lia), fun z => AP.ot 1 (by decide) p.rw (by simp) (by simp [Pl.sa, sAll] at *; lia)⟩
      refine ⟨_, rfl, p.L1, _, 0, .ref (p.g 0).p, rfl, rfl, SqL.of B.l1, atI_nat (j := 0) rfl, _, rfl, p.L2, _, 0, .ref (p.k 0), rfl, rfl, SqL.of B.l2, atI_nat (j := 0) rfl, _, rfl, p.L3, _, 0, .ref (p.b 0), rfl, rfl, SqL.of B.l3, atI_nat (j := 0) rfl, _, rfl, ?_⟩
      refine ⟨p.g 0, G 0, R, p.k 0, p.b 0, p.ids, p.rw, ks 0, bs 0, rfl, sd0, B.ra, B.rk, AP.nd 0 (by decide), n0, by lia, by lia, fun H8 f8 => ⟨true, rfl, iteT ?_⟩⟩
      have f8' : Fx (p.sa 0) H7 H8 := f8.mono (by simp [Pl.sa, sAll])
      have ot := AP.ot 0 (by decide)
      have sd1 := sd1.fx f8' (AP.ap 1 0 (by decide) (by decide) (by decide))
      have ra8 := B.ra.fx f8 n0.1 n0.2
      refine ⟨_, rfl, p.L1, _, 1, .ref (p.g 1).p, rfl, rfl, SqL.of (f8'.get (ot _ (by simp)) B.l1), atI_nat (j := 1) rfl, _, rfl, p.L2, _, 1, .ref (p.k 1), rfl, rfl, SqL.of (f8'.get (ot _ (by simp)) B.l2), atI_nat (j := 1) rfl, _, rfl, p.L3, _, 1, .ref (p.b 1), rfl, rfl, SqL.of (f8'.get (ot _ (by simp)) B.l3), atI_nat (j := 1) rfl, _, rfl, ?_⟩
      exact ⟨p.g 1, G 1, R, p.k 1, p.b 1, p.ids, p.rw, ks 1, bs 1, rfl, sd1, ra8, B.rk, AP.nd 1 (by decide), n1, by lia, by lia, fun H9 _ => kq H9⟩
end
end J

set_option maxHeartbeats 200000
set_option Elab.async false
set_option linter.all false
set_option maxRecDepth 100000
set_option maxHeartbeats 4000000
namespace J
open PySem L2
theorem ar1 {α : Type} : ∀ us : List α, us.length = 1 → ∃ a0, us = [a0]
  | [a0], _ => ⟨a0, rfl⟩
theorem ar2 {α : Type} : ∀ us : List α, us.length = 2 → ∃ a0 a1, us = [a0, a1]
  | [a0, a1], _ => ⟨a0, a1, rfl⟩
theorem ar3 {α : Type} : ∀ us : List α, us.length = 3 → ∃ a0 a1 a2, us = [a0, a1, a2]
  | [a0, a1, a2], _ => ⟨a0, a1, a2, rfl⟩
theorem ar4 {α : Type} : ∀ us : List α, us.length = 4 → ∃ a0 a1 a2 a3, us = [a0, a1, a2, a3]
  | [a0, a1, a2, a3], _ => ⟨a0, a1, a2, a3, rfl⟩
theorem ar5 {α : Type} : ∀ us : List α, us.length = 5 → ∃ a0 a1 a2 a3 a4, us = [a0, a1, a2, a3, a4]
  | [a0, a1, a2, a3, a4], _ => ⟨a0, a1, a2, a3, a4, rfl⟩
theorem fin {l : PySem.W.OpenLaw} {w : World} {K : PySem.W.Frag} {h : Heap} {mg : Str → Option Value} {fa : Addr} (X : K.In h) (G : h.Ns mainGlobals mg) (hfa : mg "law" = some (.ref fa))
    {c_Grove : Addr} {f_is_whole : Addr} {od_is_whole an_is_whole : Option Addr} {sl_is_whole : Array (Option Value)} {oc_is_whole kV_is_whole dc_is_whole pm_is_whole cd_is_whole ct_is_whole : Value} {f_is_state : Addr} {od_is_state an_is_state : Option Addr} {sl_is_state : Array (Option Value)} {oc_is_state kV_is_state dc_is_state pm_is_state cd_is_state ct_is_state : Value} {f__law_number : Addr} {od__law_number an__law_number : Option Addr} {sl__law_number : Array (Option Value)} {oc__law_number kV__law_number dc__law_number pm__law_number cd__law_number ct__law_number : Value} {f__law_same : Addr} {od__law_same an__law_same : Option Addr} {sl__law_same : Array (Option Value)} {oc__law_same kV__law_same dc__law_same pm__law_same cd__law_same ct__law_same : Value} {f__law_stir : Addr} {od__law_stir an__law_stir : Option Addr} {sl__law_stir : Array (Option Value)} {oc__law_stir kV__law_stir dc__law_stir pm__law_stir cd__law_stir ct__law_stir : Value} {f__law_own : Addr} {od__law_own an__law_own : Option Addr} {sl__law_own : Array (Option Value)} {oc__law_own kV__law_own dc__law_own pm__law_own cd__law_own ct__law_own : Value} {f__law_even : Addr} {od__law_even an__law_even : Option Addr} {sl__law_even : Array (Option Value)} {oc__law_even kV__law_even dc__law_even pm__law_even cd__law_even ct__law_even : Value} {f__law_deed : Addr} {od__law_deed an__law_deed : Option Addr} {sl__law_deed : Array (Option Value)} {oc__law_deed kV__law_deed dc__law_deed pm__law_deed cd__law_deed ct__law_deed : Value} {f__law_done : Addr} {od__law_done an__law_done : Option Addr} {sl__law_done : Array (Option Value)} {oc__law_done kV__law_done dc__law_done pm__law_done cd__law_done ct__law_done : Value} {f__law_agreed : Addr} {od__law_agreed an__law_agreed : Option Addr} {sl__law_agreed : Array (Option Value)} {oc__law_agreed kV__law_agreed dc__law_agreed pm__law_agreed cd__law_agreed ct__law_agreed : Value} {f__law_looked : Addr} {od__law_looked an__law_looked : Option Addr} {sl__law_looked : Array (Option Value)} {oc__law_looked kV__law_looked dc__law_looked pm__law_looked cd__law_looked ct__law_looked : Value} {f_law : Addr} {od_law an_law : Option Addr} {sl_law : Array (Option Value)} {oc_law kV_law dc_law pm_law cd_law ct_law : Value} {f_Grove_init : Addr} {od_Grove_init an_Grove_init : Option Addr} {sl_Grove_init : Array (Option Value)} {oc_Grove_init kV_Grove_init dc_Grove_init pm_Grove_init cd_Grove_init ct_Grove_init : Value} {f_Grove_kept : Addr} {od_Grove_kept an_Grove_kept : Option Addr} {sl_Grove_kept : Array (Option Value)} {oc_Grove_kept kV_Grove_kept dc_Grove_kept pm_Grove_kept cd_Grove_kept ct_Grove_kept : Value} {f_Grove_linked : Addr} {od_Grove_linked an_Grove_linked : Option Addr} {sl_Grove_linked : Array (Option Value)} {oc_Grove_linked kV_Grove_linked dc_Grove_linked pm_Grove_linked cd_Grove_linked ct_Grove_linked : Value} {f_Grove_check_square : Addr} {od_Grove_check_square an_Grove_check_square : Option Addr} {sl_Grove_check_square : Array (Option Value)} {oc_Grove_check_square kV_Grove_check_square dc_Grove_check_square pm_Grove_check_square cd_Grove_check_square ct_Grove_check_square : Value} {f_Grove_leaf : Addr} {od_Grove_leaf an_Grove_leaf : Option Addr} {sl_Grove_leaf : Array (Option Value)} {oc_Grove_leaf kV_Grove_leaf dc_Grove_leaf pm_Grove_leaf cd_Grove_leaf ct_Grove_leaf : Value} {f_Grove_joined : Addr} {od_Grove_joined an_Grove_joined : Option Addr} {sl_Grove_joined : Array (Option Value)} {oc_Grove_joined kV_Grove_joined dc_Grove_joined pm_Grove_joined cd_Grove_joined ct_Grove_joined : Value} {f_Grove_solid : Addr} {od_Grove_solid an_Grove_solid : Option Addr} {sl_Grove_solid : Array (Option Value)} {oc_Grove_solid kV_Grove_solid dc_Grove_solid pm_Grove_solid cd_Grove_solid ct_Grove_solid : Value} {f_Grove_level_of : Addr} {od_Grove_level_of an_Grove_level_of : Option Addr} {sl_Grove_level_of : Array (Option Value)} {oc_Grove_level_of kV_Grove_level_of dc_Grove_level_of pm_Grove_level_of cd_Grove_level_of ct_Grove_level_of : Value} {f_Grove_quarters : Addr} {od_Grove_quarters an_Grove_quarters : Option Addr} {sl_Grove_quarters : Array (Option Value)} {oc_Grove_quarters kV_Grove_quarters dc_Grove_quarters pm_Grove_quarters cd_Grove_quarters ct_Grove_quarters : Value} {f_Grove_state_of : Addr} {od_Grove_state_of an_Grove_state_of : Option Addr} {sl_Grove_state_of : Array (Option Value)} {oc_Grove_state_of kV_Grove_state_of dc_Grove_state_of pm_Grove_state_of cd_Grove_state_of ct_Grove_state_of : Value} {f_Grove_living : Addr} {od_Grove_living an_Grove_living : Option Addr} {sl_Grove_living : Array (Option Value)} {oc_Grove_living kV_Grove_living dc_Grove_living pm_Grove_living cd_Grove_living ct_Grove_living : Value} {f_Grove_counted : Addr} {od_Grove_counted an_Grove_counted : Option Addr} {sl_Grove_counted : Array (Option Value)} {oc_Grove_counted kV_Grove_counted dc_Grove_counted pm_Grove_counted cd_Grove_counted ct_Grove_counted : Value} {t_STATES : Tok} {t_TOP_LEVEL : Tok}
    (n_c_Grove : PySem.W.nsIn K mainGlobals "Grove" = some (some (.ref c_Grove)))
    (pg_Grove : PySem.W.plainGet K c_Grove Str.empty = true)
    (hd_Grove : PySem.W.hasDictIn K c_Grove = true)
    (po_Grove : PySem.W.plainOver K c_Grove = true)
    (sa_Grove : PySem.W.findIn K (.ref c_Grove) "__setattr__" = some (some (.builtin "object.__setattr__")))
    (mk_Grove : PySem.W.makesIn K c_Grove = true)
    (kc_Grove : PySem.W.keepIn K (.ref c_Grove) = true)
    (na_Grove_levels : PySem.W.findIn K (.ref c_Grove) "levels" = some none)
    (na_Grove_parts : PySem.W.findIn K (.ref c_Grove) "parts" = some none)
    (na_Grove_numbers : PySem.W.findIn K (.ref c_Grove) "numbers" = some none)
    (na_Grove_bares : PySem.W.findIn K (.ref c_Grove) "bares" = some none)
    (na_Grove_amounts : PySem.W.findIn K (.ref c_Grove) "amounts" = some none)
    (na_Grove_boxes : PySem.W.findIn K (.ref c_Grove) "boxes" = some none)
    (a_is_whole : PySem.W.nsIn K mainGlobals "is_whole" = some (some (.ref f_is_whole)))
    (l_is_whole : K.lookup f_is_whole = some ⟨oc_is_whole, od_is_whole, .func (PySem.W.fnOf "is_whole" "is_whole" (defArgs s_is_whole) (defBody s_is_whole) (defScope s_is_whole) .none kV_is_whole dc_is_whole pm_is_whole an_is_whole cd_is_whole ct_is_whole), sl_is_whole⟩)
    (c_is_whole : PySem.W.codeIn K cd_is_whole "is_whole" = true)
    (k_is_whole : PySem.W.keepIn K (.ref f_is_whole) = true)
    (a_is_state : PySem.W.nsIn K mainGlobals "is_state" = some (some (.ref f_is_state)))
    (l_is_state : K.lookup f_is_state = some ⟨oc_is_state, od_is_state, .func (PySem.W.fnOf "is_state" "is_state" (defArgs s_is_state) (defBody s_is_state) (defScope s_is_state) .none kV_is_state dc_is_state pm_is_state an_is_state cd_is_state ct_is_state), sl_is_state⟩)
    (c_is_state : PySem.W.codeIn K cd_is_state "is_state" = true)
    (k_is_state : PySem.W.keepIn K (.ref f_is_state) = true)
    (a__law_number : PySem.W.nsIn K mainGlobals "_law_number" = some (some (.ref f__law_number)))
    (l__law_number : K.lookup f__law_number = some ⟨oc__law_number, od__law_number, .func (PySem.W.fnOf "_law_number" "_law_number" (defArgs s__law_number) (defBody s__law_number) (defScope s__law_number) .none kV__law_number dc__law_number pm__law_number an__law_number cd__law_number ct__law_number), sl__law_number⟩)
    (c__law_number : PySem.W.codeIn K cd__law_number "_law_number" = true)
    (k__law_number : PySem.W.keepIn K (.ref f__law_number) = true)
    (a__law_same : PySem.W.nsIn K mainGlobals "_law_same" = some (some (.ref f__law_same)))
    (l__law_same : K.lookup f__law_same = some ⟨oc__law_same, od__law_same, .func (PySem.W.fnOf "_law_same" "_law_same" (defArgs s__law_same) (defBody s__law_same) (defScope s__law_same) .none kV__law_same dc__law_same pm__law_same an__law_same cd__law_same ct__law_same), sl__law_same⟩)
    (c__law_same : PySem.W.codeIn K cd__law_same "_law_same" = true)
    (k__law_same : PySem.W.keepIn K (.ref f__law_same) = true)
    (a__law_stir : PySem.W.nsIn K mainGlobals "_law_stir" = some (some (.ref f__law_stir)))
    (l__law_stir : K.lookup f__law_stir = some ⟨oc__law_stir, od__law_stir, .func (PySem.W.fnOf "_law_stir" "_law_stir" (defArgs s__law_stir) (defBody s__law_stir) (defScope s__law_stir) .none kV__law_stir dc__law_stir pm__law_stir an__law_stir cd__law_stir ct__law_stir), sl__law_stir⟩)
    (c__law_stir : PySem.W.codeIn K cd__law_stir "_law_stir" = true)
    (k__law_stir : PySem.W.keepIn K (.ref f__law_stir) = true)
    (a__law_own : PySem.W.nsIn K mainGlobals "_law_own" = some (some (.ref f__law_own)))
    (l__law_own : K.lookup f__law_own = some ⟨oc__law_own, od__law_own, .func (PySem.W.fnOf "_law_own" "_law_own" (defArgs s__law_own) (defBody s__law_own) (defScope s__law_own) .none kV__law_own dc__law_own pm__law_own an__law_own cd__law_own ct__law_own), sl__law_own⟩)
    (c__law_own : PySem.W.codeIn K cd__law_own "_law_own" = true)
    (k__law_own : PySem.W.keepIn K (.ref f__law_own) = true)
    (a__law_even : PySem.W.nsIn K mainGlobals "_law_even" = some (some (.ref f__law_even)))
    (l__law_even : K.lookup f__law_even = some ⟨oc__law_even, od__law_even, .func (PySem.W.fnOf "_law_even" "_law_even" (defArgs s__law_even) (defBody s__law_even) (defScope s__law_even) .none kV__law_even dc__law_even pm__law_even an__law_even cd__law_even ct__law_even), sl__law_even⟩)
    (c__law_even : PySem.W.codeIn K cd__law_even "_law_even" = true)
    (k__law_even : PySem.W.keepIn K (.ref f__law_even) = true)
    (a__law_deed : PySem.W.nsIn K mainGlobals "_law_deed" = some (some (.ref f__law_deed)))
    (l__law_deed : K.lookup f__law_deed = some ⟨oc__law_deed, od__law_deed, .func (PySem.W.fnOf "_law_deed" "_law_deed" (defArgs s__law_deed) (defBody s__law_deed) (defScope s__law_deed) .none kV__law_deed dc__law_deed pm__law_deed an__law_deed cd__law_deed ct__law_deed), sl__law_deed⟩)
    (c__law_deed : PySem.W.codeIn K cd__law_deed "_law_deed" = true)
    (k__law_deed : PySem.W.keepIn K (.ref f__law_deed) = true)
    (a__law_done : PySem.W.nsIn K mainGlobals "_law_done" = some (some (.ref f__law_done)))
    (l__law_done : K.lookup f__law_done = some ⟨oc__law_done, od__law_done, .func (PySem.W.fnOf "_law_done" "_law_done" (defArgs s__law_done) (defBody s__law_done) (defScope s__law_done) .none kV__law_done dc__law_done pm__law_done an__law_done cd__law_done ct__law_done), sl__law_done⟩)
    (c__law_done : PySem.W.codeIn K cd__law_done "_law_done" = true)
    (k__law_done : PySem.W.keepIn K (.ref f__law_done) = true)
    (a__law_agreed : PySem.W.nsIn K mainGlobals "_law_agreed" = some (some (.ref f__law_agreed)))
    (l__law_agreed : K.lookup f__law_agreed = some ⟨oc__law_agreed, od__law_agreed, .func (PySem.W.fnOf "_law_agreed" "_law_agreed" (defArgs s__law_agreed) (defBody s__law_agreed) (defScope s__law_agreed) .none kV__law_agreed dc__law_agreed pm__law_agreed an__law_agreed cd__law_agreed ct__law_agreed), sl__law_agreed⟩)
    (c__law_agreed : PySem.W.codeIn K cd__law_agreed "_law_agreed" = true)
    (k__law_agreed : PySem.W.keepIn K (.ref f__law_agreed) = true)
    (a__law_looked : PySem.W.nsIn K mainGlobals "_law_looked" = some (some (.ref f__law_looked)))
    (l__law_looked : K.lookup f__law_looked = some ⟨oc__law_looked, od__law_looked, .func (PySem.W.fnOf "_law_looked" "_law_looked" (defArgs s__law_looked) (defBody s__law_looked) (defScope s__law_looked) .none kV__law_looked dc__law_looked pm__law_looked an__law_looked cd__law_looked ct__law_looked), sl__law_looked⟩)
    (c__law_looked : PySem.W.codeIn K cd__law_looked "_law_looked" = true)
    (k__law_looked : PySem.W.keepIn K (.ref f__law_looked) = true)
    (a_law : PySem.W.nsIn K mainGlobals "law" = some (some (.ref f_law)))
    (l_law : K.lookup f_law = some ⟨oc_law, od_law, .func (PySem.W.fnOf "law" "law" (defArgs s_law) (defBody s_law) (defScope s_law) .none kV_law dc_law pm_law an_law cd_law ct_law), sl_law⟩)
    (c_law : PySem.W.codeIn K cd_law "law" = true)
    (k_law : PySem.W.keepIn K (.ref f_law) = true)
    (a_Grove_init : PySem.W.findIn K (.ref c_Grove) "__init__" = some (some (.ref f_Grove_init)))
    (i_Grove_init : PySem.W.isFn K (.ref f_Grove_init) = true)
    (l_Grove_init : K.lookup f_Grove_init = some ⟨oc_Grove_init, od_Grove_init, .func (PySem.W.fnOf "__init__" "Grove.__init__" (defArgs s_Grove_init) (defBody s_Grove_init) (defScope s_Grove_init) .none kV_Grove_init dc_Grove_init pm_Grove_init an_Grove_init cd_Grove_init ct_Grove_init), sl_Grove_init⟩)
    (c_Grove_init : PySem.W.codeIn K cd_Grove_init "Grove.__init__" = true)
    (k_Grove_init : PySem.W.keepIn K (.ref f_Grove_init) = true)
    (a_Grove_kept : PySem.W.findIn K (.ref c_Grove) "kept" = some (some (.ref f_Grove_kept)))
    (i_Grove_kept : PySem.W.isFn K (.ref f_Grove_kept) = true)
    (l_Grove_kept : K.lookup f_Grove_kept = some ⟨oc_Grove_kept, od_Grove_kept, .func (PySem.W.fnOf "kept" "Grove.kept" (defArgs s_Grove_kept) (defBody s_Grove_kept) (defScope s_Grove_kept) .none kV_Grove_kept dc_Grove_kept pm_Grove_kept an_Grove_kept cd_Grove_kept ct_Grove_kept), sl_Grove_kept⟩)
    (c_Grove_kept : PySem.W.codeIn K cd_Grove_kept "Grove.kept" = true)
    (k_Grove_kept : PySem.W.keepIn K (.ref f_Grove_kept) = true)
    (a_Grove_linked : PySem.W.findIn K (.ref c_Grove) "linked" = some (some (.ref f_Grove_linked)))
    (i_Grove_linked : PySem.W.isFn K (.ref f_Grove_linked) = true)
    (l_Grove_linked : K.lookup f_Grove_linked = some ⟨oc_Grove_linked, od_Grove_linked, .func (PySem.W.fnOf "linked" "Grove.linked" (defArgs s_Grove_linked) (defBody s_Grove_linked) (defScope s_Grove_linked) .none kV_Grove_linked dc_Grove_linked pm_Grove_linked an_Grove_linked cd_Grove_linked ct_Grove_linked), sl_Grove_linked⟩)
    (c_Grove_linked : PySem.W.codeIn K cd_Grove_linked "Grove.linked" = true)
    (k_Grove_linked : PySem.W.keepIn K (.ref f_Grove_linked) = true)
    (a_Grove_check_square : PySem.W.findIn K (.ref c_Grove) "check_square" = some (some (.ref f_Grove_check_square)))
    (i_Grove_check_square : PySem.W.isFn K (.ref f_Grove_check_square) = true)
    (l_Grove_check_square : K.lookup f_Grove_check_square = some ⟨oc_Grove_check_square, od_Grove_check_square, .func (PySem.W.fnOf "check_square" "Grove.check_square" (defArgs s_Grove_check_square) (defBody s_Grove_check_square) (defScope s_Grove_check_square) .none kV_Grove_check_square dc_Grove_check_square pm_Grove_check_square an_Grove_check_square cd_Grove_check_square ct_Grove_check_square), sl_Grove_check_square⟩)
    (c_Grove_check_square : PySem.W.codeIn K cd_Grove_check_square "Grove.check_square" = true)
    (k_Grove_check_square : PySem.W.keepIn K (.ref f_Grove_check_square) = true)
    (a_Grove_leaf : PySem.W.findIn K (.ref c_Grove) "leaf" = some (some (.ref f_Grove_leaf)))
    (i_Grove_leaf : PySem.W.isFn K (.ref f_Grove_leaf) = true)
    (l_Grove_leaf : K.lookup f_Grove_leaf = some ⟨oc_Grove_leaf, od_Grove_leaf, .func (PySem.W.fnOf "leaf" "Grove.leaf" (defArgs s_Grove_leaf) (defBody s_Grove_leaf) (defScope s_Grove_leaf) .none kV_Grove_leaf dc_Grove_leaf pm_Grove_leaf an_Grove_leaf cd_Grove_leaf ct_Grove_leaf), sl_Grove_leaf⟩)
    (c_Grove_leaf : PySem.W.codeIn K cd_Grove_leaf "Grove.leaf" = true)
    (k_Grove_leaf : PySem.W.keepIn K (.ref f_Grove_leaf) = true)
    (a_Grove_joined : PySem.W.findIn K (.ref c_Grove) "joined" = some (some (.ref f_Grove_joined)))
    (i_Grove_joined : PySem.W.isFn K (.ref f_Grove_joined) = true)
    (l_Grove_joined : K.lookup f_Grove_joined = some ⟨oc_Grove_joined, od_Grove_joined, .func (PySem.W.fnOf "joined" "Grove.joined" (defArgs s_Grove_joined) (defBody s_Grove_joined) (defScope s_Grove_joined) .none kV_Grove_joined dc_Grove_joined pm_Grove_joined an_Grove_joined cd_Grove_joined ct_Grove_joined), sl_Grove_joined⟩)
    (c_Grove_joined : PySem.W.codeIn K cd_Grove_joined "Grove.joined" = true)
    (k_Grove_joined : PySem.W.keepIn K (.ref f_Grove_joined) = true)
    (a_Grove_solid : PySem.W.findIn K (.ref c_Grove) "solid" = some (some (.ref f_Grove_solid)))
    (i_Grove_solid : PySem.W.isFn K (.ref f_Grove_solid) = true)
    (l_Grove_solid : K.lookup f_Grove_solid = some ⟨oc_Grove_solid, od_Grove_solid, .func (PySem.W.fnOf "solid" "Grove.solid" (defArgs s_Grove_solid) (defBody s_Grove_solid) (defScope s_Grove_solid) .none kV_Grove_solid dc_Grove_solid pm_Grove_solid an_Grove_solid cd_Grove_solid ct_Grove_solid), sl_Grove_solid⟩)
    (c_Grove_solid : PySem.W.codeIn K cd_Grove_solid "Grove.solid" = true)
    (k_Grove_solid : PySem.W.keepIn K (.ref f_Grove_solid) = true)
    (a_Grove_level_of : PySem.W.findIn K (.ref c_Grove) "level_of" = some (some (.ref f_Grove_level_of)))
    (i_Grove_level_of : PySem.W.isFn K (.ref f_Grove_level_of) = true)
    (l_Grove_level_of : K.lookup f_Grove_level_of = some ⟨oc_Grove_level_of, od_Grove_level_of, .func (PySem.W.fnOf "level_of" "Grove.level_of" (defArgs s_Grove_level_of) (defBody s_Grove_level_of) (defScope s_Grove_level_of) .none kV_Grove_level_of dc_Grove_level_of pm_Grove_level_of an_Grove_level_of cd_Grove_level_of ct_Grove_level_of), sl_Grove_level_of⟩)
    (c_Grove_level_of : PySem.W.codeIn K cd_Grove_level_of "Grove.level_of" = true)
    (k_Grove_level_of : PySem.W.keepIn K (.ref f_Grove_level_of) = true)
    (a_Grove_quarters : PySem.W.findIn K (.ref c_Grove) "quarters" = some (some (.ref f_Grove_quarters)))
    (i_Grove_quarters : PySem.W.isFn K (.ref f_Grove_quarters) = true)
    (l_Grove_quarters : K.lookup f_Grove_quarters = some ⟨oc_Grove_quarters, od_Grove_quarters, .func (PySem.W.fnOf "quarters" "Grove.quarters" (defArgs s_Grove_quarters) (defBody s_Grove_quarters) (defScope s_Grove_quarters) .none kV_Grove_quarters dc_Grove_quarters pm_Grove_quarters an_Grove_quarters cd_Grove_quarters ct_Grove_quarters), sl_Grove_quarters⟩)
    (c_Grove_quarters : PySem.W.codeIn K cd_Grove_quarters "Grove.quarters" = true)
    (k_Grove_quarters : PySem.W.keepIn K (.ref f_Grove_quarters) = true)
    (a_Grove_state_of : PySem.W.findIn K (.ref c_Grove) "state_of" = some (some (.ref f_Grove_state_of)))
    (i_Grove_state_of : PySem.W.isFn K (.ref f_Grove_state_of) = true)
    (l_Grove_state_of : K.lookup f_Grove_state_of = some ⟨oc_Grove_state_of, od_Grove_state_of, .func (PySem.W.fnOf "state_of" "Grove.state_of" (defArgs s_Grove_state_of) (defBody s_Grove_state_of) (defScope s_Grove_state_of) .none kV_Grove_state_of dc_Grove_state_of pm_Grove_state_of an_Grove_state_of cd_Grove_state_of ct_Grove_state_of), sl_Grove_state_of⟩)
    (c_Grove_state_of : PySem.W.codeIn K cd_Grove_state_of "Grove.state_of" = true)
    (k_Grove_state_of : PySem.W.keepIn K (.ref f_Grove_state_of) = true)
    (a_Grove_living : PySem.W.findIn K (.ref c_Grove) "living" = some (some (.ref f_Grove_living)))
    (i_Grove_living : PySem.W.isFn K (.ref f_Grove_living) = true)
    (l_Grove_living : K.lookup f_Grove_living = some ⟨oc_Grove_living, od_Grove_living, .func (PySem.W.fnOf "living" "Grove.living" (defArgs s_Grove_living) (defBody s_Grove_living) (defScope s_Grove_living) .none kV_Grove_living dc_Grove_living pm_Grove_living an_Grove_living cd_Grove_living ct_Grove_living), sl_Grove_living⟩)
    (c_Grove_living : PySem.W.codeIn K cd_Grove_living "Grove.living" = true)
    (k_Grove_living : PySem.W.keepIn K (.ref f_Grove_living) = true)
    (a_Grove_counted : PySem.W.findIn K (.ref c_Grove) "counted" = some (some (.ref f_Grove_counted)))
    (i_Grove_counted : PySem.W.isFn K (.ref f_Grove_counted) = true)
    (l_Grove_counted : K.lookup f_Grove_counted = some ⟨oc_Grove_counted, od_Grove_counted, .func (PySem.W.fnOf "counted" "Grove.counted" (defArgs s_Grove_counted) (defBody s_Grove_counted) (defScope s_Grove_counted) .none kV_Grove_counted dc_Grove_counted pm_Grove_counted an_Grove_counted cd_Grove_counted ct_Grove_counted), sl_Grove_counted⟩)
    (c_Grove_counted : PySem.W.codeIn K cd_Grove_counted "Grove.counted" = true)
    (k_Grove_counted : PySem.W.keepIn K (.ref f_Grove_counted) = true)
    (z_any : PySem.W.nsIn K mainGlobals "any" = some none)
    (z_bool : PySem.W.nsIn K mainGlobals "bool" = some none)
    (z_int : PySem.W.nsIn K mainGlobals "int" = some none)
    (z_isinstance : PySem.W.nsIn K mainGlobals "isinstance" = some none)
    (z_len : PySem.W.nsIn K mainGlobals "len" = some none)
    (z_list : PySem.W.nsIn K mainGlobals "list" = some none)
    (z_min : PySem.W.nsIn K mainGlobals "min" = some none)
    (z_range : PySem.W.nsIn K mainGlobals "range" = some none)
    (z_sum : PySem.W.nsIn K mainGlobals "sum" = some none)
    (z_tuple : PySem.W.nsIn K mainGlobals "tuple" = some none)
    (z_zip : PySem.W.nsIn K mainGlobals "zip" = some none)
    (g_STATES : PySem.W.nsIn K mainGlobals "STATES" = some (some (.int 8 t_STATES)))
    (g_TOP_LEVEL : PySem.W.nsIn K mainGlobals "TOP_LEVEL" = some (some (.int 48 t_TOP_LEVEL)))
    : ∃ fd : FuncData, (∀ (s : Shared) (v : Value), BindsTo s fd ⟨[v], []⟩ [("_law_script", v)]) ∧ ∀ base : Heap, K.In base → base.Ns mainGlobals mg → FnOk l.prog w K mg base CX0 53 fa fd ["_law_script"] (spLaw K) := by
  have e := hfa.symm.trans (PySem.W.mg_of X G a_law)
  cases e
  have no : ∀ {x : Str}, PySem.W.nsIn K mainGlobals x = some none → mg x = none := fun z => PySem.W.mg_none_of X G z
  have T : Top K mg (⟨c_Grove⟩ : Ad) := ⟨no z_any, no z_bool, no z_int, no z_isinstance, no z_len, no z_list, no z_min, no z_range, no z_sum, no z_tuple, no z_zip, ⟨t_STATES, PySem.W.mg_of X G g_STATES⟩, ⟨t_TOP_LEVEL, PySem.W.mg_of X G g_TOP_LEVEL⟩, PySem.W.mg_of X G n_c_Grove, ⟨pg_Grove, hd_Grove, po_Grove, sa_Grove⟩, na_Grove_levels, na_Grove_parts, na_Grove_numbers, na_Grove_bares, na_Grove_amounts, na_Grove_boxes⟩
  have F_is_whole := fun_mk (x := "is_whole") (qual := "is_whole") (st := s_is_whole) l_is_whole c_is_whole k_is_whole
  have b_is_whole := F_is_whole.binds (ps := p_is_whole) fun _ _ _ _ _ _ us hl => by obtain ⟨x0, rfl⟩ := ar1 us hl; exact rfl
  have m_is_whole := PySem.W.mg_of X G a_is_whole
  have F_is_state := fun_mk (x := "is_state") (qual := "is_state") (st := s_is_state) l_is_state c_is_state k_is_state
  have b_is_state := F_is_state.binds (ps := p_is_state) fun _ _ _ _ _ _ us hl => by obtain ⟨x0, rfl⟩ := ar1 us hl; exact rfl
  have m_is_state := PySem.W.mg_of X G a_is_state
  have F__law_number := fun_mk (x := "_law_number") (qual := "_law_number") (st := s__law_number) l__law_number c__law_number k__law_number
  have b__law_number := F__law_number.binds (ps := p__law_number) fun _ _ _ _ _ _ us hl => by obtain ⟨x0, rfl⟩ := ar1 us hl; exact rfl
  have m__law_number := PySem.W.mg_of X G a__law_number
  have F__law_same := fun_mk (x := "_law_same") (qual := "_law_same") (st := s__law_same) l__law_same c__law_same k__law_same
  have b__law_same := F__law_same.binds (ps := p__law_same) fun _ _ _ _ _ _ us hl => by obtain ⟨x0, x1, rfl⟩ := ar2 us hl; exact rfl
  have m__law_same := PySem.W.mg_of X G a__law_same
  have F__law_stir := fun_mk (x := "_law_stir") (qual := "_law_stir") (st := s__law_stir) l__law_stir c__law_stir k__law_stir
  have b__law_stir := F__law_stir.binds (ps := p__law_stir) fun _ _ _ _ _ _ us hl => by obtain ⟨x0, x1, rfl⟩ := ar2 us hl; exact rfl
  have m__law_stir := PySem.W.mg_of X G a__law_stir
  have F__law_own := fun_mk (x := "_law_own") (qual := "_law_own") (st := s__law_own) l__law_own c__law_own k__law_own
  have b__law_own := F__law_own.binds (ps := p__law_own) fun _ _ _ _ _ _ us hl => by obtain ⟨x0, x1, x2, x3, rfl⟩ := ar4 us hl; exact rfl
  have m__law_own := PySem.W.mg_of X G a__law_own
  have F__law_even := fun_mk (x := "_law_even") (qual := "_law_even") (st := s__law_even) l__law_even c__law_even k__law_even
  have b__law_even := F__law_even.binds (ps := p__law_even) fun _ _ _ _ _ _ us hl => by obtain ⟨x0, x1, x2, x3, rfl⟩ := ar4 us hl; exact rfl
  have m__law_even := PySem.W.mg_of X G a__law_even
  have F__law_deed := fun_mk (x := "_law_deed") (qual := "_law_deed") (st := s__law_deed) l__law_deed c__law_deed k__law_deed
  have b__law_deed := F__law_deed.binds (ps := p__law_deed) fun _ _ _ _ _ _ us hl => by obtain ⟨x0, x1, x2, x3, rfl⟩ := ar4 us hl; exact rfl
  have m__law_deed := PySem.W.mg_of X G a__law_deed
  have F__law_done := fun_mk (x := "_law_done") (qual := "_law_done") (st := s__law_done) l__law_done c__law_done k__law_done
  have b__law_done := F__law_done.binds (ps := p__law_done) fun _ _ _ _ _ _ us hl => by obtain ⟨x0, x1, x2, rfl⟩ := ar3 us hl; exact rfl
  have m__law_done := PySem.W.mg_of X G a__law_done
  have F__law_agreed := fun_mk (x := "_law_agreed") (qual := "_law_agreed") (st := s__law_agreed) l__law_agreed c__law_agreed k__law_agreed
  have b__law_agreed := F__law_agreed.binds (ps := p__law_agreed) fun _ _ _ _ _ _ us hl => by obtain ⟨x0, x1, x2, x3, rfl⟩ := ar4 us hl; exact rfl
  have m__law_agreed := PySem.W.mg_of X G a__law_agreed
  have F__law_looked := fun_mk (x := "_law_looked") (qual := "_law_looked") (st := s__law_looked) l__law_looked c__law_looked k__law_looked
  have b__law_looked := F__law_looked.binds (ps := p__law_looked) fun _ _ _ _ _ _ us hl => by obtain ⟨x0, x1, x2, x3, rfl⟩ := ar4 us hl; exact rfl
  have m__law_looked := PySem.W.mg_of X G a__law_looked
  have F_law := fun_mk (x := "law") (qual := "law") (st := s_law) l_law c_law k_law
  have m_law := PySem.W.mg_of X G a_law
  have F_Grove_init := fun_mk (x := "__init__") (qual := "Grove.__init__") (st := s_Grove_init) l_Grove_init c_Grove_init k_Grove_init
  have b_Grove_init := F_Grove_init.binds (ps := p_Grove_init) fun _ _ _ _ _ _ us hl => by obtain ⟨x0, rfl⟩ := ar1 us hl; exact rfl
  have M_Grove : Mk K c_Grove f_Grove_init := ⟨mk_Grove, a_Grove_init, i_Grove_init, kc_Grove⟩
  have F_Grove_kept := fun_mk (x := "kept") (qual := "Grove.kept") (st := s_Grove_kept) l_Grove_kept c_Grove_kept k_Grove_kept
  have b_Grove_kept := F_Grove_kept.binds (ps := p_Grove_kept) fun _ _ _ _ _ _ us hl => by obtain ⟨x0, x1, x2, rfl⟩ := ar3 us hl; exact rfl
  have e_Grove_kept : Meth K c_Grove "kept" f_Grove_kept := ⟨a_Grove_kept, i_Grove_kept, k_Grove_kept⟩
  have F_Grove_linked := fun_mk (x := "linked") (qual := "Grove.linked") (st := s_Grove_linked) l_Grove_linked c_Grove_linked k_Grove_linked
  have b_Grove_linked := F_Grove_linked.binds (ps := p_Grove_linked) fun _ _ _ _ _ _ us hl => by obtain ⟨x0, x1, rfl⟩ := ar2 us hl; exact rfl
  have e_Grove_linked : Meth K c_Grove "linked" f_Grove_linked := ⟨a_Grove_linked, i_Grove_linked, k_Grove_linked⟩
  have F_Grove_check_square := fun_mk (x := "check_square") (qual := "Grove.check_square") (st := s_Grove_check_square) l_Grove_check_square c_Grove_check_square k_Grove_check_square
  have b_Grove_check_square := F_Grove_check_square.binds (ps := p_Grove_check_square) fun _ _ _ _ _ _ us hl => by obtain ⟨x0, x1, rfl⟩ := ar2 us hl; exact rfl
  have e_Grove_check_square : Meth K c_Grove "check_square" f_Grove_check_square := ⟨a_Grove_check_square, i_Grove_check_square, k_Grove_check_square⟩
  have F_Grove_leaf := fun_mk (x := "leaf") (qual := "Grove.leaf") (st := s_Grove_leaf) l_Grove_leaf c_Grove_leaf k_Grove_leaf
  have b_Grove_leaf := F_Grove_leaf.binds (ps := p_Grove_leaf) fun _ _ _ _ _ _ us hl => by obtain ⟨x0, x1, rfl⟩ := ar2 us hl; exact rfl
  have e_Grove_leaf : Meth K c_Grove "leaf" f_Grove_leaf := ⟨a_Grove_leaf, i_Grove_leaf, k_Grove_leaf⟩
  have F_Grove_joined := fun_mk (x := "joined") (qual := "Grove.joined") (st := s_Grove_joined) l_Grove_joined c_Grove_joined k_Grove_joined
  have b_Grove_joined := F_Grove_joined.binds (ps := p_Grove_joined) fun _ _ _ _ _ _ us hl => by obtain ⟨x0, x1, x2, x3, x4, rfl⟩ := ar5 us hl; exact rfl
  have e_Grove_joined : Meth K c_Grove "joined" f_Grove_joined := ⟨a_Grove_joined, i_Grove_joined, k_Grove_joined⟩
  have F_Grove_solid := fun_mk (x := "solid") (qual := "Grove.solid") (st := s_Grove_solid) l_Grove_solid c_Grove_solid k_Grove_solid
  have b_Grove_solid := F_Grove_solid.binds (ps := p_Grove_solid) fun _ _ _ _ _ _ us hl => by obtain ⟨x0, x1, x2, rfl⟩ := ar3 us hl; exact rfl
  have e_Grove_solid : Meth K c_Grove "solid" f_Grove_solid := ⟨a_Grove_solid, i_Grove_solid, k_Grove_solid⟩
  have F_Grove_level_of := fun_mk (x := "level_of") (qual := "Grove.level_of") (st := s_Grove_level_of) l_Grove_level_of c_Grove_level_of k_Grove_level_of
  have b_Grove_level_of := F_Grove_level_of.binds (ps := p_Grove_level_of) fun _ _ _ _ _ _ us hl => by obtain ⟨x0, x1, rfl⟩ := ar2 us hl; exact rfl
  have e_Grove_level_of : Meth K c_Grove "level_of" f_Grove_level_of := ⟨a_Grove_level_of, i_Grove_level_of, k_Grove_level_of⟩
  have F_Grove_quarters := fun_mk (x := "quarters") (qual := "Grove.quarters") (st := s_Grove_quarters) l_Grove_quarters c_Grove_quarters k_Grove_quarters
  have b_Grove_quarters := F_Grove_quarters.binds (ps := p_Grove_quarters) fun _ _ _ _ _ _ us hl => by obtain ⟨x0, x1, rfl⟩ := ar2 us hl; exact rfl
  have e_Grove_quarters : Meth K c_Grove "quarters" f_Grove_quarters := ⟨a_Grove_quarters, i_Grove_quarters, k_Grove_quarters⟩
  have F_Grove_state_of := fun_mk (x := "state_of") (qual := "Grove.state_of") (st := s_Grove_state_of) l_Grove_state_of c_Grove_state_of k_Grove_state_of
  have b_Grove_state_of := F_Grove_state_of.binds (ps := p_Grove_state_of) fun _ _ _ _ _ _ us hl => by obtain ⟨x0, x1, rfl⟩ := ar2 us hl; exact rfl
  have e_Grove_state_of : Meth K c_Grove "state_of" f_Grove_state_of := ⟨a_Grove_state_of, i_Grove_state_of, k_Grove_state_of⟩
  have F_Grove_living := fun_mk (x := "living") (qual := "Grove.living") (st := s_Grove_living) l_Grove_living c_Grove_living k_Grove_living
  have b_Grove_living := F_Grove_living.binds (ps := p_Grove_living) fun _ _ _ _ _ _ us hl => by obtain ⟨x0, x1, rfl⟩ := ar2 us hl; exact rfl
  have e_Grove_living : Meth K c_Grove "living" f_Grove_living := ⟨a_Grove_living, i_Grove_living, k_Grove_living⟩
  have F_Grove_counted := fun_mk (x := "counted") (qual := "Grove.counted") (st := s_Grove_counted) l_Grove_counted c_Grove_counted k_Grove_counted
  have b_Grove_counted := F_Grove_counted.binds (ps := p_Grove_counted) fun _ _ _ _ _ _ us hl => by obtain ⟨x0, x1, rfl⟩ := ar2 us hl; exact rfl
  have e_Grove_counted : Meth K c_Grove "counted" f_Grove_counted := ⟨a_Grove_counted, i_Grove_counted, k_Grove_counted⟩
  refine ⟨PySem.W.fnOf "law" "law" (defArgs s_law) (defBody s_law) (defScope s_law) .none kV_law dc_law pm_law an_law cd_law ct_law, fun s v => .of_eq rfl, fun base _ _ => ?_⟩
  have C_is_whole : Cal l.prog w K mg base CX0 1 "is_whole" p_is_whole spIW := ⟨_, _, ok_iw F_is_whole T, m_is_whole, F_is_whole.kp, b_is_whole⟩
  have C_is_state : Cal l.prog w K mg base CX0 2 "is_state" p_is_state spIS := ⟨_, _, ok_is F_is_state T C_is_whole, m_is_state, F_is_state.kp, b_is_state⟩
  have M_Grove_kept : CalM l.prog w K mg base CX0 1 c_Grove "kept" p_Grove_kept (spKept _) := ⟨⟨_, _, ok_kept F_Grove_kept T, e_Grove_kept, b_Grove_kept⟩, T.cl_Grove⟩
  have C_Grove : CalC l.prog w K mg base CX0 2 "Grove" c_Grove p_Grove_init (spGInit _) := ⟨_, _, ok_ginit F_Grove_init T M_Grove_kept, M_Grove, T.m_Grove, b_Grove_init⟩
  have M_Grove_linked : CalM l.prog w K mg base CX0 2 c_Grove "linked" p_Grove_linked (spLink _) := ⟨⟨_, _, ok_link F_Grove_linked T M_Grove_kept, e_Grove_linked, b_Grove_linked⟩, T.cl_Grove⟩
  have M_Grove_check_square : CalM l.prog w K mg base CX0 2 c_Grove "check_square" p_Grove_check_square (spChk _) := ⟨⟨_, _, ok_chk F_Grove_check_square T C_is_whole, e_Grove_check_square, b_Grove_check_square⟩, T.cl_Grove⟩
  have M_Grove_leaf : CalM l.prog w K mg base CX0 3 c_Grove "leaf" p_Grove_leaf (spLeaf _) := ⟨⟨_, _, ok_leaf F_Grove_leaf T C_is_state, e_Grove_leaf, b_Grove_leaf⟩, T.cl_Grove⟩
  have M_Grove_level_of : CalM l.prog w K mg base CX0 3 c_Grove "level_of" p_Grove_level_of (spLev _) := ⟨⟨_, _, ok_lev F_Grove_level_of T M_Grove_check_square, e_Grove_level_of, b_Grove_level_of⟩, T.cl_Grove⟩
  have M_Grove_quarters : CalM l.prog w K mg base CX0 4 c_Grove "quarters" p_Grove_quarters (spQua _) := ⟨⟨_, _, ok_qua F_Grove_quarters T M_Grove_level_of, e_Grove_quarters, b_Grove_quarters⟩, T.cl_Grove⟩
  have M_Grove_state_of : CalM l.prog w K mg base CX0 4 c_Grove "state_of" p_Grove_state_of (spSta _) := ⟨⟨_, _, ok_sta F_Grove_state_of T M_Grove_level_of, e_Grove_state_of, b_Grove_state_of⟩, T.cl_Grove⟩
  have M_Grove_joined : CalM l.prog w K mg base CX0 4 c_Grove "joined" p_Grove_joined (spJoin _) := ⟨⟨_, _, ok_join F_Grove_joined T M_Grove_check_square M_Grove_linked, e_Grove_joined, b_Grove_joined⟩, T.cl_Grove⟩
  have M_Grove_solid : CalM l.prog w K mg base CX0 4 c_Grove "solid" p_Grove_solid (spSolid _) := ⟨⟨_, _, ok_solid F_Grove_solid T C_is_whole M_Grove_leaf M_Grove_linked, e_Grove_solid, b_Grove_solid⟩, T.cl_Grove⟩
  have M_Grove_counted : CalM l.prog w K mg base CX0 50 c_Grove "counted" p_Grove_counted (spCnt _ 49) := ⟨⟨_, _, ok_cnt F_Grove_counted T e_Grove_counted b_Grove_counted 49, e_Grove_counted, b_Grove_counted⟩, T.cl_Grove⟩
  have M_Grove_living : CalM l.prog w K mg base CX0 51 c_Grove "living" p_Grove_living (spLiv _) := ⟨⟨_, _, ok_liv F_Grove_living T M_Grove_check_square M_Grove_counted, e_Grove_living, b_Grove_living⟩, T.cl_Grove⟩
  have C__law_number : Cal l.prog w K mg base CX0 1 "_law_number" p__law_number spNum := ⟨_, _, ok_num F__law_number T, m__law_number, F__law_number.kp, b__law_number⟩
  have C__law_same : Cal l.prog w K mg base CX0 1 "_law_same" p__law_same spSame := ⟨_, _, ok_same F__law_same T, m__law_same, F__law_same.kp, b__law_same⟩
  have C__law_stir : Cal l.prog w K mg base CX0 1 "_law_stir" p__law_stir spStir := ⟨_, _, ok_stir F__law_stir T, m__law_stir, F__law_stir.kp, b__law_stir⟩
  have C__law_own : Cal l.prog w K mg base CX0 1 "_law_own" p__law_own spOwn := ⟨_, _, ok_own F__law_own T, m__law_own, F__law_own.kp, b__law_own⟩
  have C__law_even : Cal l.prog w K mg base CX0 2 "_law_even" p__law_even spEven := ⟨_, _, ok_even F__law_even T C__law_own, m__law_even, F__law_even.kp, b__law_even⟩
  have C__law_deed : Cal l.prog w K mg base CX0 3 "_law_deed" p__law_deed spDeed := ⟨_, _, ok_deed F__law_deed T C__law_own C__law_even C__law_stir, m__law_deed, F__law_deed.kp, b__law_deed⟩
  have C__law_done : Cal l.prog w K mg base CX0 5 "_law_done" p__law_done (spDone _) := ⟨_, _, ok_done F__law_done T M_Grove_leaf M_Grove_solid M_Grove_quarters M_Grove_joined, m__law_done, F__law_done.kp, b__law_done⟩
  have C__law_agreed : Cal l.prog w K mg base CX0 2 "_law_agreed" p__law_agreed spAgr := ⟨_, _, ok_agr F__law_agreed T C__law_number, m__law_agreed, F__law_agreed.kp, b__law_agreed⟩
  have C__law_looked : Cal l.prog w K mg base CX0 52 "_law_looked" p__law_looked (spLook _) := ⟨_, _, ok_look F__law_looked T C__law_same C__law_agreed M_Grove_level_of M_Grove_quarters M_Grove_state_of M_Grove_living, m__law_looked, F__law_looked.kp, b__law_looked⟩
  exact ok_law F_law T C_Grove M_Grove_solid C__law_even C__law_deed C__law_done C__law_agreed C__law_looked
theorem walk {l : PySem.W.OpenLaw} {q : Program} {loose : List Str} {XP : (Str → Option Value) → Heap → Prop} {YP : World → Heap → Prop} {d : DefRec} {K : Params → PySem.W.Frag} (hn : l.most = some 63) (hdf : d.params.defaults = [])
    (hY : ∀ (w : World) (h : Heap), YP w h → (K w.params).In h)
    (F : ∀ (w : World) (mg : Str → Option Value) (fa : Addr) (h : Heap), (K w.params).In h → h.Ns mainGlobals mg → mg d.name = some (.ref fa) →
      ∃ fd : FuncData, (∀ (s : Shared) (u : Value), BindsTo s fd ⟨[u], []⟩ [("_law_script", u)]) ∧ ∀ base : Heap, (K w.params).In base → base.Ns mainGlobals mg → FnOk l.prog w (K w.params) mg base CX0 53 fa fd ["_law_script"] (spLaw (K w.params))) :
    PySem.W.WalkO q loose XP YP l.row.toRowW d [] (fun f vs => PySem.call f vs) :=
  L2.walk_of (n := 63) (k := 53) (x := "_law_script") (CX := fun _ => CX0) (sp := fun w => spLaw (K w.params)) hn (by decide) hdf ⟨rfl, by decide, by decide⟩ hY F (fun _ _ a ns hl _ hS => ⟨a, ns, rfl, hS, hl, fun _ => rfl⟩) fun _ _ _ _ _ z => z
end J
open PySem PySem.W PyProof.Rows
set_option maxRecDepth 100000 in
set_option maxHeartbeats 0 in
theorem PySem.Challenge.cw_jumpfield_k15_whole_alike_parts_are_one_holds : PySem.Challenge.rw_jumpfield_k15_whole_alike_parts_are_one.Holds := by
  w_on; o_law; k_head; (case hw => w_witness2)
  k_fill
  refine J.walk (l := PySem.Challenge.rw_jumpfield_k15_whole_alike_parts_are_one) rfl rfl (fun w h Y => PySem.W.kIn_of Y) ?F
  case F =>
    intro w mg fa h KX G hmg
    refine' J.fin KX G hmg ?n_c_Grove ?pg_Grove ?hd_Grove ?po_Grove ?sa_Grove ?mk_Grove ?kc_Grove ?na_Grove_levels ?na_Grove_parts ?na_Grove_numbers ?na_Grove_bares ?na_Grove_amounts ?na_Grove_boxes ?a_is_whole ?l_is_whole ?c_is_whole ?k_is_whole ?a_is_state ?l_is_state ?c_is_state ?k_is_state ?a__law_number ?l__law_number ?c__law_number ?k__law_number ?a__law_same ?l__law_same ?c__law_same ?k__law_same ?a__law_stir ?l__law_stir ?c__law_stir ?k__law_stir ?a__law_own ?l__law_own ?c__law_own ?k__law_own ?a__law_even ?l__law_even ?c__law_even ?k__law_even ?a__law_deed ?l__law_deed ?c__law_deed ?k__law_deed ?a__law_done ?l__law_done ?c__law_done ?k__law_done ?a__law_agreed ?l__law_agreed ?c__law_agreed ?k__law_agreed ?a__law_looked ?l__law_looked ?c__law_looked ?k__law_looked ?a_law ?l_law ?c_law ?k_law ?a_Grove_init ?i_Grove_init ?l_Grove_init ?c_Grove_init ?k_Grove_init ?a_Grove_kept ?i_Grove_kept ?l_Grove_kept ?c_Grove_kept ?k_Grove_kept ?a_Grove_linked ?i_Grove_linked ?l_Grove_linked ?c_Grove_linked ?k_Grove_linked ?a_Grove_check_square ?i_Grove_check_square ?l_Grove_check_square ?c_Grove_check_square ?k_Grove_check_square ?a_Grove_leaf ?i_Grove_leaf ?l_Grove_leaf ?c_Grove_leaf ?k_Grove_leaf ?a_Grove_joined ?i_Grove_joined ?l_Grove_joined ?c_Grove_joined ?k_Grove_joined ?a_Grove_solid ?i_Grove_solid ?l_Grove_solid ?c_Grove_solid ?k_Grove_solid ?a_Grove_level_of ?i_Grove_level_of ?l_Grove_level_of ?c_Grove_level_of ?k_Grove_level_of ?a_Grove_quarters ?i_Grove_quarters ?l_Grove_quarters ?c_Grove_quarters ?k_Grove_quarters ?a_Grove_state_of ?i_Grove_state_of ?l_Grove_state_of ?c_Grove_state_of ?k_Grove_state_of ?a_Grove_living ?i_Grove_living ?l_Grove_living ?c_Grove_living ?k_Grove_living ?a_Grove_counted ?i_Grove_counted ?l_Grove_counted ?c_Grove_counted ?k_Grove_counted ?z_any ?z_bool ?z_int ?z_isinstance ?z_len ?z_list ?z_min ?z_range ?z_sum ?z_tuple ?z_zip ?g_STATES ?g_TOP_LEVEL
    (case n_c_Grove => k_is)
    (case pg_Grove => k_is)
    (case hd_Grove => k_is)
    (case po_Grove => k_is)
    (case sa_Grove => k_is)
    (case mk_Grove => k_is)
    (case kc_Grove => k_is)
    (case na_Grove_levels => k_is)
    (case na_Grove_parts => k_is)
    (case na_Grove_numbers => k_is)
    (case na_Grove_bares => k_is)
    (case na_Grove_amounts => k_is)
    (case na_Grove_boxes => k_is)
    (case a_is_whole => k_is)
    (case l_is_whole => k_is)
    (case c_is_whole => k_is)
    (case k_is_whole => k_is)
    (case a_is_state => k_is)
    (case l_is_state => k_is)
    (case c_is_state => k_is)
    (case k_is_state => k_is)
    (case a__law_number => k_is)
    (case l__law_number => k_is)
    (case c__law_number => k_is)
    (case k__law_number => k_is)
    (case a__law_same => k_is)
    (case l__law_same => k_is)
    (case c__law_same => k_is)
    (case k__law_same => k_is)
    (case a__law_stir => k_is)
    (case l__law_stir => k_is)
    (case c__law_stir => k_is)
    (case k__law_stir => k_is)
    (case a__law_own => k_is)
    (case l__law_own => k_is)
    (case c__law_own => k_is)
    (case k__law_own => k_is)
    (case a__law_even => k_is)
    (case l__law_even => k_is)
    (case c__law_even => k_is)
    (case k__law_even => k_is)
    (case a__law_deed => k_is)
    (case l__law_deed => k_is)
    (case c__law_deed => k_is)
    (case k__law_deed => k_is)
    (case a__law_done => k_is)
    (case l__law_done => k_is)
    (case c__law_done => k_is)
    (case k__law_done => k_is)
    (case a__law_agreed => k_is)
    (case l__law_agreed => k_is)
    (case c__law_agreed => k_is)
    (case k__law_agreed => k_is)
    (case a__law_looked => k_is)
    (case l__law_looked => k_is)
    (case c__law_looked => k_is)
    (case k__law_looked => k_is)
    (case a_law => k_is)
    (case l_law => k_is)
    (case c_law => k_is)
    (case k_law => k_is)
    (case a_Grove_init => k_is)
    (case i_Grove_init => k_is)
    (case l_Grove_init => k_is)
    (case c_Grove_init => k_is)
    (case k_Grove_init => k_is)
    (case a_Grove_kept => k_is)
    (case i_Grove_kept => k_is)
    (case l_Grove_kept => k_is)
    (case c_Grove_kept => k_is)
    (case k_Grove_kept => k_is)
    (case a_Grove_linked => k_is)
    (case i_Grove_linked => k_is)
    (case l_Grove_linked => k_is)
    (case c_Grove_linked => k_is)
    (case k_Grove_linked => k_is)
    (case a_Grove_check_square => k_is)
    (case i_Grove_check_square => k_is)
    (case l_Grove_check_square => k_is)
    (case c_Grove_check_square => k_is)
    (case k_Grove_check_square => k_is)
    (case a_Grove_leaf => k_is)
    (case i_Grove_leaf => k_is)
    (case l_Grove_leaf => k_is)
    (case c_Grove_leaf => k_is)
    (case k_Grove_leaf => k_is)
    (case a_Grove_joined => k_is)
    (case i_Grove_joined => k_is)
    (case l_Grove_joined => k_is)
    (case c_Grove_joined => k_is)
    (case k_Grove_joined => k_is)
    (case a_Grove_solid => k_is)
    (case i_Grove_solid => k_is)
    (case l_Grove_solid => k_is)
    (case c_Grove_solid => k_is)
    (case k_Grove_solid => k_is)
    (case a_Grove_level_of => k_is)
    (case i_Grove_level_of => k_is)
    (case l_Grove_level_of => k_is)
    (case c_Grove_level_of => k_is)
    (case k_Grove_level_of => k_is)
    (case a_Grove_quarters => k_is)
    (case i_Grove_quarters => k_is)
    (case l_Grove_quarters => k_is)
    (case c_Grove_quarters => k_is)
    (case k_Grove_quarters => k_is)
    (case a_Grove_state_of => k_is)
    (case i_Grove_state_of => k_is)
    (case l_Grove_state_of => k_is)
    (case c_Grove_state_of => k_is)
    (case k_Grove_state_of => k_is)
    (case a_Grove_living => k_is)
    (case i_Grove_living => k_is)
    (case l_Grove_living => k_is)
    (case c_Grove_living => k_is)
    (case k_Grove_living => k_is)
    (case a_Grove_counted => k_is)
    (case i_Grove_counted => k_is)
    (case l_Grove_counted => k_is)
    (case c_Grove_counted => k_is)
    (case k_Grove_counted => k_is)
    (case z_any => k_is)
    (case z_bool => k_is)
    (case z_int => k_is)
    (case z_isinstance => k_is)
    (case z_len => k_is)
    (case z_list => k_is)
    (case z_min => k_is)
    (case z_range => k_is)
    (case z_sum => k_is)
    (case z_tuple => k_is)
    (case z_zip => k_is)
    (case g_STATES => k_is)
    (case g_TOP_LEVEL => k_is)

set_option maxHeartbeats 200000
