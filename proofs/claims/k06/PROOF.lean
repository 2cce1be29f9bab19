import PyProof.Rows.All
import Wide.All
import OpenK.AllK
import Wide.FinOn
import Lean
import PyProof.EqAt
import PyProof.EqKinds
import PyProof.TupleCall
import PyProof.Rows.CatFin
import PyProof.StrLawsIn
import KE.IntTextLaws
import KE.IntTextText
import PyProof.SumAny
import PyProof.SeqI3
import PyProof.WalkInts
import PyProof.NeKinds
import KE.KDictLaws
import PyProof.DictIter
import PyProof.DictWalks
import PyProof.Rows.DictUnroll
import KE.KSortTup
import PyProof.StrLawsTight
import PyProof.StrLawsChain
import PyProof.Rows.StrLawsPart
import PyProof.Rows.StrFirst
import PyProof.Rows.ReprOcc
import PyProof.Rows.StrItems
import PySem.Challenge.RW_jumpfield_k06_no_rule
set_option Elab.async false
set_option linter.all false
set_option maxRecDepth 100000
/-! THE HAND LAYER, for ints, bools, texts, own classes, LISTS and tuples (index, slices, in, append, pop ..), calls, loops. Paste it whole ahead of your own text; what your proof does not reach may be deleted. -/
namespace L2
open PySem PySem.Spec PyProof.Rows

/-- a key: an int or a str -/
abbrev Key := Sum Int Str
def keyIs : Key → Value → Bool
  | .inl k, v => Value.isInt k v
  | .inr x, v => Value.isStrOf x v
def keyH (w : World) : Key → Int
  | .inl k => hashInt k
  | .inr x => hashStr w x
theorem keyIs_shape : ∀ {k : Key} {v : Value}, keyIs k v = true → (∃ i t, k = Sum.inl i ∧ v = Value.int i t) ∨ (∃ x t, k = Sum.inr x ∧ v = Value.str x t)
  | .inl i, v, h => by
    obtain ⟨t, e⟩ := Value.isInt_shape (k := i) (v := v) h
    exact .inl ⟨i, t, rfl, e⟩
  | .inr x, v, h => by
    obtain ⟨t, e⟩ := Value.isStrOf_shape (x := x) (v := v) h
    exact .inr ⟨x, t, rfl, e⟩
theorem key_ll (a b : Int) : decide ((Sum.inl a : Key) = Sum.inl b) = (a == b) := by
  by_cases e : a = b
  · subst e; simp
  · have h : ¬ (Sum.inl a : Key) = Sum.inl b := fun q => e (Sum.inl.inj q)
    rw [decide_eq_false h]
    exact (beq_eq_false_iff_ne.mpr e).symm
theorem key_rr (a b : Str) : decide ((Sum.inr a : Key) = Sum.inr b) = decide (a = b) := by
  by_cases e : a = b
  · subst e; simp
  · have h : ¬ (Sum.inr a : Key) = Sum.inr b := fun q => e (Sum.inr.inj q)
    rw [decide_eq_false h, decide_eq_false e]
theorem key_lr (a : Int) (b : Str) : decide ((Sum.inl a : Key) = Sum.inr b) = false := decide_eq_false (fun q => nomatch q)
theorem key_rl (a : Str) (b : Int) : decide ((Sum.inr a : Key) = Sum.inl b) = false := decide_eq_false (fun q => nomatch q)

def mixKind (prog : Program) (w : World) : PySem.KeyKind prog w Key where
  is := keyIs
  hash := keyH w
  inj := fun v a b ha hb => by
    rcases keyIs_shape ha with ⟨i, t, rfl, rfl⟩ | ⟨x, t, rfl, rfl⟩
    · rcases keyIs_shape hb with ⟨j, u, rfl, e⟩ | ⟨y, u, rfl, e⟩
      · injection e with e1 _; rw [e1]
      · exact nomatch e
    · rcases keyIs_shape hb with ⟨j, u, rfl, e⟩ | ⟨y, u, rfl, e⟩
      · exact nomatch e
      · injection e with e1 _; rw [e1]
  byValue := fun k v h => by
    rcases keyIs_shape h with ⟨i, t, rfl, rfl⟩ | ⟨x, t, rfl, rfl⟩ <;> rfl
  pyHash := fun hv h => by
    rcases keyIs_shape hv with ⟨i, t, rfl, rfl⟩ | ⟨x, t, rfl, rfl⟩
    · exact wpAny_pyHash_int h
    · exact wpAny_pyHash_str h
  eqBool := fun hu hv h => by
    rcases keyIs_shape hu with ⟨i, t, rfl, rfl⟩ | ⟨x, t, rfl, rfl⟩
    · rcases keyIs_shape hv with ⟨j, u, rfl, rfl⟩ | ⟨y, u, rfl, rfl⟩
      · rw [key_ll] at h; exact wpAny_eqBool_int h
      · rw [key_lr] at h; exact SeqAt.EqAt.int_str i t y u _ _ _ _ h
    · rcases keyIs_shape hv with ⟨j, u, rfl, rfl⟩ | ⟨y, u, rfl, rfl⟩
      · rw [key_rl] at h; exact SeqAt.EqAt.str_int x t j u _ _ _ _ h
      · rw [key_rr] at h; exact wpAny_eqBool_str h
  «strs» := fun k x t v h => by
    rcases keyIs_shape h with ⟨i, u, rfl, e⟩ | ⟨y, u, rfl, e⟩
    · exact nomatch e
    · injection e with e1 _
      subst e1
      cases v <;> rfl

end L2

namespace L2
open PySem PySem.Spec PyProof.Rows

/-- a value, without the heap -/
inductive V where
  | non | bl (b : Bool) | int (i : Int) | str (x : Str) | byt (b : Array UInt8) | flt (b : UInt64) | ref (a : Addr) | ty (n : String)
  deriving DecidableEq

def RelV : V → Value → Prop
  | .non, u => u = Value.none
  | .bl b, u => u = Value.bool b
  | .int i, u => ∃ t, u = Value.int i t
  | .str x, u => ∃ t, u = Value.str x t
  | .byt b, u => ∃ t, u = Value.bytes b t
  | .flt b, u => ∃ t, u = Value.float b t
  | .ref a, u => u = Value.ref a
  | .ty n, u => u = Value.type n

abbrev Vals : List V → List Value → Prop := Paired RelV
theorem Vals.length {xs : List V} {us : List Value} (r : Vals xs us) : xs.length = us.length := Paired.length r
theorem Vals.get : ∀ {xs : List V} {us : List Value} {i : Nat} {x : V}, Vals xs us → xs[i]? = some x → ∃ u, us[i]? = some u ∧ RelV x u
  | _, _, _, _, .nil, e => by simp at e
  | _, _, 0, _, .cons r _, e => by simp at e; subst e; exact ⟨_, rfl, r⟩
  | _, _, i + 1, x, .cons _ t, e => by
    obtain ⟨u, h1, h2⟩ := Vals.get (i := i) (x := x) t (by simpa using e)
    exact ⟨u, by simpa using h1, h2⟩
theorem Vals.append : ∀ {xs ys : List V} {us ws : List Value}, Vals xs us → Vals ys ws → Vals (xs ++ ys) (us ++ ws)
  | _, _, _, _, .nil, s => s
  | _, _, _, _, .cons r t, s => .cons r (Vals.append t s)
theorem Vals.take : ∀ {xs : List V} {us : List Value} (n : Nat), Vals xs us → Vals (xs.take n) (us.take n)
  | _, _, 0, _ => .nil
  | _, _, _ + 1, .nil => .nil
  | _, _, n + 1, .cons r t => .cons r (Vals.take n t)
theorem Vals.drop : ∀ {xs : List V} {us : List Value} (n : Nat), Vals xs us → Vals (xs.drop n) (us.drop n)
  | _, _, 0, r => r
  | _, _, _ + 1, .nil => .nil
  | _, _, n + 1, .cons _ t => Vals.drop n t
theorem Vals.none_of : ∀ {xs : List V} {us : List Value} {i : Nat}, Vals xs us → xs[i]? = none → us[i]? = none := fun {xs us i} r e => by
  have h1 := r.length
  have h2 : xs.length ≤ i := List.getElem?_eq_none_iff.mp e
  exact List.getElem?_eq_none_iff.mpr (by lia)

def RelO : Option V → Option Value → Prop
  | some v, some u => RelV v u
  | none, none => True
  | _, _ => False
def KV {κ : Type} : List (κ × V) → List (κ × Value) → Prop := Paired fun (p : κ × V) (q : κ × Value) => p.1 = q.1 ∧ RelV p.2 q.2

/-- a key of a dict (00_mix): an int or a text -/
def kV : Key → V
  | .inl i => .int i
  | .inr x => .str x

/-- what stands at a tracked address -/
inductive HO where
  /-- a list -/
  | lst (xs : List V)
  /-- a tuple (never changes) -/
  | tup (xs : List V)
  /-- a dict whose keys are ints and texts; one whose keys are tuples of ints and texts (the empty one is both) -/
  | dK (kvs : List (Key × V)) | dT (kvs : List (List Key × V))
  /-- a set of ints: its members, its size -/
  | set (S : Int → Bool) (n : Nat)
  /-- an instance of the class at C, its dict at dx, its attributes -/
  | ins (C dx : Addr) (fs : List (Str × V))
  /-- the dict of the instance at x -/
  | own (x : Addr)
  /-- the dict of an exception -/
  | xd (fs : List (Str × V))
  /-- a bound method, f of x -/
  | met (f x : Addr)
  /-- a range object lo, lo + 1, .. below hi -/
  | rng (lo hi : Int)
  /-- a thing that is known to the object (the script; a dict while a loop walks it): read, never written while it is so -/
  | frz (o : Obj) (u : HO)
  /-- a code object's table -/
  | tbl (ps : Array Value)
  /-- any other thing, by what is true of its one object (a def of one's own: SetO a S n := HO.ext fun h => ..) -/
  | ext (φ : Heap → Prop)

abbrev Hp := Addr → Option HO
def upd (H : Hp) (a : Addr) (o : HO) : Hp := fun b => if b = a then some o else H b
theorem upd_same {H : Hp} {a : Addr} {o : HO} : upd H a o a = some o := by unfold upd; rw [if_pos rfl]
theorem upd_ne {H : Hp} {a b : Addr} {o : HO} (h : b ≠ a) : upd H a o b = H b := by unfold upd; rw [if_neg h]
theorem upd_upd {H : Hp} {a : Addr} {o u : HO} : upd (upd H a o) a u = upd H a u := by
  funext b; unfold upd; split <;> rfl
/-- two objects of different content stand apart -/
theorem ne_of {H : Hp} {a b : Addr} {o u : HO} (h : H a = some o) (h' : H b = some u) (d : o ≠ u) : a ≠ b := by
  intro e; subst e; rw [h] at h'; exact d (Option.some.inj h')
theorem ne_of_none {H : Hp} {a b : Addr} {o : HO} (h : H a = some o) (h' : H b = none) : a ≠ b := by
  intro e; subst e; rw [h] at h'; cases h'

section
variable (P : Program) (w : World)
def ObjOk (H : Hp) (h : Heap) (a : Addr) : HO → Prop
  | .lst xs => xs.length ≤ sizeLine ∧ ∃ (its : List Value) (n : Nat), Vals xs its ∧ h.get? a = some { cls := .type "list", data := .seq its.toArray n }
  | .tup xs => xs.length ≤ sizeLine ∧ ∃ its : List Value, Vals xs its ∧ IsTup h a its.toArray
  | .dK kvs => kvs.length ≤ sizeLine ∧ (a == sysModules) = false ∧ ∃ vs, KV kvs vs ∧ h.DictOf (mixKind P w) a vs
  | .dT kvs => kvs.length ≤ sizeLine ∧ (a == sysModules) = false ∧ ∃ xs : List (List Key × Addr × Value),
      Paired (fun (p : List Key × V) (q : List Key × Addr × Value) => p.1 = q.1 ∧ H q.2.1 = some (.tup (p.1.map kV)) ∧ RelV p.2 q.2.2) kvs xs ∧
      ∃ o es ep, h.get? a = some o ∧ o.ExactDict ∧ o.data = .dict es ep ∧ es.toList = xs.map (entryOfKey (tupleKind (mixKind P w))) ∧ (xs.map (·.1)).Nodup
  | .set S n => h.SetOf (intKind P w) a S n
  | .ins C dx fs => H dx = some (.own a) ∧ fs.length ≤ 1000 ∧ dx ≠ a ∧ h.get? a = some (PySem.W.instObj C dx) ∧
      ∃ mA, h.Ns1 dx mA ∧ (∀ f, RelO (fs.lookup f) (mA f)) ∧ PySem.Within mA (fs.map (·.1))
  | .own _ => ∃ o, h.get? a = some o
  | .xd fs => ∃ mA, h.Ns1 a mA ∧ ∀ f, RelO (fs.lookup f) (mA f)
  | .rng lo hi => ∃ t u v, h.get? a = some { cls := .type "range", data := .fields #[.int lo t, .int hi u, .int 1 v] }
  | .frz o u => h.get? a = some o ∧ ObjOk H h a u
  | .tbl ps => h.get? a = some { cls := .none, data := .fields ps }
  | .met f x => h.get? a = some (PySem.W.methodObj (.ref f) (.ref x))
  | .ext φ => φ h ∧ (∃ o, h.get? a = some o) ∧ ∀ h1 h2 : Heap, φ h1 → (∀ o, h1.get? a = some o → h2.get? a = some o) → φ h2
/-- the abstract heap is held -/
def HOk (H : Hp) (h : Heap) : Prop := ∀ a o, H a = some o → ObjOk P w H h a o
end

section
variable {P : Program} {w : World} {H H' : Hp} {h h' : Heap} {a : Addr} {o : HO}
theorem ObjOk.lt (x : ObjOk P w H h a o) : a < h.objs.size := by
  cases o with
  | lst xs => obtain ⟨_, _, _, _, e⟩ := x; exact Heap.lt_size e
  | tup xs => obtain ⟨_, _, _, p⟩ := x; exact p.lt
  | dK kvs => obtain ⟨_, _, _, _, o, _, _, e, _⟩ := x; exact Heap.lt_size e
  | dT kvs => obtain ⟨_, _, _, _, o, _, _, e, _⟩ := x; exact Heap.lt_size e
  | set S n => obtain ⟨o, _, _, _, e, _⟩ := x; exact Heap.lt_size e
  | ins C dx fs => obtain ⟨_, _, _, e, _⟩ := x; exact Heap.lt_size e
  | own y => obtain ⟨_, e⟩ := x; exact Heap.lt_size e
  | xd fs => obtain ⟨_, ⟨_, _, _, e, _⟩, _⟩ := x; exact Heap.lt_size e
  | rng lo hi => obtain ⟨_, _, _, e⟩ := x; exact Heap.lt_size e
  | frz ob u => obtain ⟨e, _⟩ := x; exact Heap.lt_size e
  | tbl ps => exact Heap.lt_size (show h.get? a = some _ from x)
  | met f y => exact Heap.lt_size (show h.get? a = some _ from x)
  | ext φ => obtain ⟨_, ⟨_, e⟩, _⟩ := x; exact Heap.lt_size e
theorem Paired.mapP {α β : Type} {F G : α → β → Prop} : ∀ {l₁ : List α} {l₂ : List β}, Paired F l₁ l₂ → (∀ a b, F a b → G a b) → Paired G l₁ l₂
  | _, _, .nil, _ => .nil
  | _, _, .cons r t, f => .cons (f _ _ r) (Paired.mapP t f)
/-- what an object's description leans on: its own object, its own dict, the tuples -/
theorem ObjOk.stay (x : ObjOk P w H h a o) (k : ∀ b u, (b = a ∨ H b = some (.own a)) → h.get? b = some u → h'.get? b = some u)
    (ho : ∀ b, H b = some (.own a) → H' b = some (.own a)) (ht : ∀ b xs, H b = some (.tup xs) → H' b = some (.tup xs)) : ObjOk P w H' h' a o := by
  induction o with
  | lst xs => obtain ⟨z, its, n, r, e⟩ := x; exact ⟨z, its, n, r, k _ _ (.inl rfl) e⟩
  | tup xs => obtain ⟨z, its, r, ob, e, c⟩ := x; exact ⟨z, its, r, ob, k _ _ (.inl rfl) e, c⟩
  | dK kvs => obtain ⟨z, y, vs, r, ob, es, ep, e, c⟩ := x; exact ⟨z, y, vs, r, ob, es, ep, k _ _ (.inl rfl) e, c⟩
  | dT kvs =>
    obtain ⟨z, y, xs, r, ob, es, ep, e, c⟩ := x
    exact ⟨z, y, xs, Paired.mapP r fun p q z => ⟨z.1, ht _ _ z.2.1, z.2.2⟩, ob, es, ep, k _ _ (.inl rfl) e, c⟩
  | set S n => obtain ⟨ob, es, ep, t, e, c⟩ := x; exact ⟨ob, es, ep, t, k _ _ (.inl rfl) e, c⟩
  | ins C dx fs =>
    obtain ⟨d, z, ne, e, mA, ⟨od, es, ep, e2, c⟩, r⟩ := x
    exact ⟨ho _ d, z, ne, k _ _ (.inl rfl) e, mA, ⟨od, es, ep, k _ _ (.inr d) e2, c⟩, r⟩
  | own y => obtain ⟨ob, e⟩ := x; exact ⟨ob, k _ _ (.inl rfl) e⟩
  | xd fs => obtain ⟨mA, ⟨od, es, ep, e, c⟩, r⟩ := x; exact ⟨mA, ⟨od, es, ep, k _ _ (.inl rfl) e, c⟩, r⟩
  | rng lo hi => obtain ⟨t, u, v, e⟩ := x; exact ⟨t, u, v, k _ _ (.inl rfl) e⟩
  | frz ob u ih => obtain ⟨e, q⟩ := x; exact ⟨k _ _ (.inl rfl) e, ih q⟩
  | tbl ps =>
    have e : h.get? a = some { cls := .none, data := .fields ps } := x
    show h'.get? a = some { cls := .none, data := .fields ps }
    exact k a _ (.inl rfl) e
  | met f y =>
    have e : h.get? a = some (PySem.W.methodObj (.ref f) (.ref y)) := x
    show h'.get? a = some (PySem.W.methodObj (.ref f) (.ref y))
    exact k a _ (.inl rfl) e
  | ext φ => obtain ⟨p, ⟨o, e⟩, st⟩ := x; exact ⟨st _ _ p fun o q => k _ _ (.inl rfl) q, ⟨o, k _ _ (.inl rfl) e⟩, st⟩
theorem HOk.lt (x : HOk P w H h) (e : H a = some o) : a < h.objs.size := (x a o e).lt
theorem HOk.fresh (x : HOk P w H h) (e : h.objs.size ≤ a) : H a = none := by
  cases q : H a with
  | none => rfl
  | some u => exact absurd (Nat.lt_of_lt_of_le (x.lt q) e) (Nat.lt_irrefl _)
/-- every object of the heap is kept -/
theorem HOk.kept (x : HOk P w H h) (k : ∀ b u, h.get? b = some u → h'.get? b = some u) : HOk P w H h' := fun a o e =>
  (x a o e).stay (fun b u _ q => k b u q) (fun _ q => q) fun _ _ q => q
/-- a new object is laid and tracked -/
theorem HOk.laid (x : HOk P w H h) (k : ∀ b u, h.get? b = some u → h'.get? b = some u) (hp : h.objs.size ≤ a) (new : ObjOk P w (upd H a o) h' a o) : HOk P w (upd H a o) h' := fun b u e => by
  have hn := x.fresh hp
  by_cases hb : b = a
  · subst hb; rw [upd_same] at e; cases e; exact new
  · rw [upd_ne hb] at e
    exact (x b u e).stay (fun c v _ q => k c v q) (fun c q => by rw [upd_ne (ne_of_none q hn)]; exact q) fun c xs q => by rw [upd_ne (ne_of_none q hn)]; exact q
end

/-- what may be read as u: it is u, or a known u -/
def Rd (H : Hp) (a : Addr) (u : HO) : Prop := H a = some u ∨ ∃ o, H a = some (.frz o u)
theorem Rd.ok {P : Program} {w : World} {H : Hp} {h : Heap} {a : Addr} {u : HO} (r : Rd H a u) (x : HOk P w H h) : ObjOk P w H h a u := by
  rcases r with r | ⟨o, r⟩
  · exact x a u r
  · obtain ⟨_, q⟩ := x a _ r
    exact q
/-- what may be written -/
def Mut : Option HO → Prop
  | some (.lst _) => True
  | some (.dK _) => True
  | some (.dT _) => True
  | some (.set _ _) => True
  | some (.ins _ _ _) => True
  | some (.ext _) => True
  | _ => False
section
variable {P : Program} {w : World} {H : Hp} {h h' : Heap} {x e : Addr} {o' : HO}
/-- the object at e is changed: x itself, or the dict of the instance x -/
theorem HOk.write (ok : HOk P w H h) (mu : Mut (H x)) (he : e = x ∨ H e = some (.own x)) (k : ∀ b u, b ≠ e → h.get? b = some u → h'.get? b = some u) (heo : ∃ u, h'.get? e = some u)
    (new : ObjOk P w (upd H x o') h' x o') : HOk P w (upd H x o') h' := fun b u q => by
  have nown : ∀ c y, H c = some (.own y) → c ≠ x := fun c y r z => by subst z; rw [r] at mu; exact mu
  have ntup : ∀ c xs, H c = some (.tup xs) → c ≠ x := fun c xs r z => by subst z; rw [r] at mu; exact mu
  by_cases hb : b = x
  · subst hb; rw [upd_same] at q; cases q; exact new
  · rw [upd_ne hb] at q
    by_cases hbe : b = e
    · have q' : H b = some (.own x) := by
        rcases he with z | z
        · exact absurd (hbe.trans z) hb
        · rw [hbe]; exact z
      rw [q] at q'; cases q'
      obtain ⟨v, hv⟩ := heo
      exact ⟨v, by rw [hbe]; exact hv⟩
    · refine (ok b u q).stay (fun c v hc r => k c v ?_ r) (fun c r => by rw [upd_ne (nown c b r)]; exact r) fun c xs r => by rw [upd_ne (ntup c xs r)]; exact r
      rcases hc with rfl | hc
      · exact hbe
      · rintro rfl
        rcases he with z | z
        · exact nown c b hc z
        · rw [hc] at z; cases z; exact hb rfl
end

/-! ### kept unless tracked; of the frames at fs (the callers') the slots may change (an exception that passes writes there); of the records at ex (iterators) nothing is said -/
structure Un (fs ex : List Addr) (H H' : Hp) (h h' : Heap) : Prop where
  keep : ∀ b o, h.get? b = some o → H b = none → b ∉ fs → b ∉ ex → h'.get? b = some o
  slot : ∀ b o, h.get? b = some o → H b = none → b ∈ fs → b ∉ ex → ∃ sl, h'.get? b = some { o with slots := sl }
  free : ∀ b o, h.get? b = some o → H b = none → b ∉ ex → H' b = none
  there : ∀ b o, h.get? b = some o → b ∉ ex → ∃ o', h'.get? b = some o'
  tups : ∀ b xs, H b = some (.tup xs) → H' b = some (.tup xs)
  frzs : ∀ b o u, H b = some (.frz o u) → H' b = some (.frz o u)
  tbls : ∀ b ps, H b = some (.tbl ps) → ∃ more, H' b = some (.tbl (ps ++ more))
section
variable {fs fs' ex ex' : List Addr} {H H1 H2 : Hp} {h h1 h2 h' : Heap} {a x e : Addr} {o : HO}
theorem Un.any (u : Un fs ex H H1 h h1) {b : Addr} {ob : Obj} (q : h.get? b = some ob) (n : H b = none) (hx : b ∉ ex) : ∃ sl, h1.get? b = some { ob with slots := sl } := by
  by_cases hb : b ∈ fs
  · exact u.slot b ob q n hb hx
  · exact ⟨ob.slots, u.keep b ob q n hb hx⟩
theorem Un.kept (k : ∀ b u, h.get? b = some u → h'.get? b = some u) : Un fs ex H H h h' :=
  ⟨fun b ob q _ _ _ => k b ob q, fun b ob q _ _ _ => ⟨ob.slots, k b ob q⟩, fun _ _ _ n _ => n, fun b ob q _ => ⟨ob, k b ob q⟩, fun _ _ q => q, fun _ _ _ q => q, fun _ ps q => ⟨#[], by rw [q]; simp⟩⟩
theorem Un.refl : Un fs ex H H h h := Un.kept fun _ _ q => q
theorem Un.laid (k : ∀ b u, h.get? b = some u → h'.get? b = some u) (hp : h.objs.size ≤ a) (hn : H a = none) : Un fs ex H (upd H a o) h h' where
  keep := fun b u q _ _ _ => k b u q
  slot := fun b u q _ _ _ => ⟨u.slots, k b u q⟩
  free := fun b u q n _ => by rw [upd_ne (Nat.ne_of_lt (Nat.lt_of_lt_of_le (Heap.lt_size q) hp))]; exact n
  there := fun b u q _ => ⟨u, k b u q⟩
  tups := fun b xs q => by rw [upd_ne (ne_of_none q hn)]; exact q
  frzs := fun b u xs q => by rw [upd_ne (ne_of_none q hn)]; exact q
  tbls := fun b ps q => ⟨#[], by rw [upd_ne (ne_of_none q hn), q]; simp⟩
theorem Un.write (mu : Mut (H x)) (he : e = x ∨ H e = some (.own x)) (k : ∀ b u, b ≠ e → h.get? b = some u → h'.get? b = some u) (heo : ∃ u, h'.get? e = some u) : Un fs ex H (upd H x o) h h' := by
  have hx : ∀ b, H b = none → b ≠ x := fun b n z => by subst z; rw [n] at mu; exact mu
  have hb : ∀ b, H b = none → b ≠ e := fun b n z => by
    subst z
    rcases he with r | r
    · exact hx b n r
    · rw [n] at r; cases r
  have hm : ∀ b u, H b = some u → ¬ Mut (some u) → b ≠ x := fun b u q nm z => by subst z; rw [q] at mu; exact nm mu
  refine ⟨fun b u q n _ _ => k b u (hb b n) q, fun b u q n _ _ => ⟨u.slots, k b u (hb b n) q⟩, fun b u q n _ => by rw [upd_ne (hx b n)]; exact n, fun b u q _ => ?_,
    fun b xs q => by rw [upd_ne (hm b _ q fun z => z)]; exact q, fun b u xs q => by rw [upd_ne (hm b _ q fun z => z)]; exact q, fun b ps q => ⟨#[], by rw [upd_ne (hm b _ q fun z => z), q]; simp⟩⟩
  by_cases hbe : b = e
  · subst hbe; exact heo
  · exact ⟨u, k b u hbe q⟩
end

/-! ### the heap without what is tracked -/
def trk (h : Heap) (H : Hp) : List Addr := (List.range h.objs.size).filter fun a => (H a).isSome
def hidT (h : Heap) (H : Hp) : Heap := PySem.W.hideAll h (trk h H)
theorem hidT_size (h : Heap) (H : Hp) : (hidT h H).objs.size = h.objs.size := PySem.W.hideAll_size _ _
theorem hidT_get {h : Heap} {H : Hp} {b : Addr} {o : Obj} (e : h.get? b = some o) (n : H b = none) : (hidT h H).get? b = some o :=
  PySem.W.hideAll_get _ e fun hm => by
    have q : (H b).isSome = true := (List.mem_filter.mp hm).2
    rw [n] at q; simp at q
theorem of_hidT {h : Heap} {H : Hp} {b : Addr} {o : Obj} (e : (hidT h H).get? b = some o) : h.get? b = some o ∧ H b = none := by
  have e' : h.get? b = some o := PySem.W.of_hideAll (trk h H) e
  refine ⟨e', ?_⟩
  cases q : H b with
  | none => rfl
  | some x =>
    have hm : b ∈ trk h H := List.mem_filter.mpr ⟨List.mem_range.mpr (Heap.lt_size e'), by simp [q]⟩
    have z : (hidT h H).get? b = none := PySem.W.hideAll_none (trk h H) hm
    rw [z] at e; cases e

/-! ### OpenK's ledger, filled with every new object but one -/
end L2

namespace L2
open PySem PySem.Spec PyProof.Rows

/-- the module's facts, over the base: the heap at the law's entry without what is tracked there -/
structure Mod (K : PySem.W.Frag) (mg : Str → Option Value) (base : Heap) : Prop where
  kin : K.In base
  glob : base.Ns mainGlobals mg
  blt : ∃ mb, base.Ns builtinsNs mb ∧ ∀ x : Str, x ≠ "__name__" → mb x = bootBuiltins x
  nolimit : base.NoLimit

/-- the context: a def's body (or a comprehension's block) running. base: fixed through the whole law; s₀, H₀: the entry; outer: the frames whose slots others may change (a def's callers); stack: all frames that run;
   ex: iterators that were made ahead of the entry and are walked here (a comprehension's); fn: the names whose cells were made at the entry (a def: all; a comprehension's block: its own); calm: not within an except suite; pn: pins that every state bears; xe: what is wanted of an exception that leaves the code -/
structure Cx where
  prog : Program
  w : World
  K : PySem.W.Frag
  mg : Str → Option Value
  base : Heap
  A : Around
  N : List Str
  s₀ : Shared
  H₀ : Hp
  env : Env
  outer : List Env
  stack : List Env
  ex : List Addr
  fn : Str → Bool
  calm : Bool
  pn : List (Addr × Obj)
  xe : Value → Shared → Prop
/-- the callers' frames -/
def frs (l : List Env) : List Addr := l.filterMap (·.frame)
abbrev Cx.fs (X : Cx) : List Addr := frs X.outer

def Vis (sc : Scope) (x : Str) : Prop := sc.names.lookup x = some .local ∨ sc.names.lookup x = some .cell ∨ sc.names.lookup x = some .free
def Loc (sc : Scope) (x : Str) : Prop := sc.names.lookup x = some .local ∨ sc.names.lookup x = some .cell
def Look (env : Env) (h : Heap) (m : Str → Option Value) (x : Str) (u : Value) : Prop :=
  (env.kindOf x = some .local ∧ m x = some u) ∨ ((env.kindOf x = some .cell ∨ env.kindOf x = some .free) ∧ ∃ c, env.cells.lookup x = some c ∧ h.IsCell c (some u))

structure Cx.Ok (X : Cx) : Prop where
  mod : Mod X.K X.mg X.base
  kind : X.env.scope.kind = .function
  glob : X.env.globals = mainGlobals
  blt : X.env.builtins = builtinsNs
  above : X.s₀.heap.objs.size ≤ X.env.locals
  inj : ∀ x y c, X.env.cells.lookup x = some c → X.env.cells.lookup y = some c → x = y
  has : ∀ x, (X.env.kindOf x = some .cell ∨ X.env.kindOf x = some .free) → ∃ c, X.env.cells.lookup x = some c
  cab : ∀ x c, X.fn x = true → X.env.cells.lookup x = some c → X.s₀.heap.objs.size ≤ c
  hd : X.calm = true → X.A.handled = none
  frames : X.A.frames = some X.stack
  stk : X.stack = X.outer ∨ (X.stack = X.env :: X.outer ∧ X.env.frame = some X.env.locals)
  exf : ∀ b ∈ X.ex, b ≠ X.env.locals ∧ ∀ x c, X.env.cells.lookup x = some c → c ≠ b
  bs : ∀ b o, X.base.get? b = some o → X.s₀.heap.get? b = some o ∧ X.H₀ b = none
  bsz : X.base.objs.size ≤ X.s₀.heap.objs.size
  noex : ∀ b o, X.base.get? b = some o → b ∉ X.ex
  exfs : ∀ b ∈ X.ex, b ∉ X.fs
  funs : X.s₀.heap.FunFrames X.base X.outer
  frf : ∀ b ∈ X.fs, X.H₀ b = none

structure Inv (X : Cx) (pins : List (Addr × Obj)) (σ : List (Option V)) (H : Hp) (s : Shared) : Prop where
  ok : X.Ok
  os : s.os = X.s₀.os
  bare : AllBare s.gens
  base : Un X.fs X.ex X.H₀ H X.s₀.heap s.heap
  loc : ∃ m, s.heap.Ns X.env.locals m ∧ ∀ (i : Nat) (x : Str) (v : V), X.N[i]? = some x → σ[i]? = some (some v) → Vis X.env.scope x → ∃ u, RelV v u ∧ Look X.env s.heap m x u
  cell : ∀ x c, X.env.cells.lookup x = some c → ∃ v, s.heap.IsCell c v
  free : H X.env.locals = none
  freeC : ∀ x c, X.env.cells.lookup x = some c → H c = none
  pin : ∀ p ∈ X.pn ++ pins, s.heap.get? p.1 = some p.2 ∧ H p.1 = none ∧ p.1 ≠ X.env.locals ∧ p.1 ∉ X.fs ∧ ∀ v, p.2.data ≠ .cell v
  hok : HOk X.prog X.w H s.heap
  len : σ.length = X.N.length

section
variable {X : Cx} {pins : List (Addr × Obj)} {σ : List (Option V)} {H H' : Hp} {s : Shared} {h' : Heap}

theorem Cx.Ok.nofr (ok : X.Ok) {b : Addr} {o : Obj} (e : X.base.get? b = some o) : b ∉ X.fs := fun hb => by
  have := (ok.funs.mem hb).1
  rw [e] at this; cases this
theorem Inv.bs (I : Inv X pins σ H s) : ∀ b o, X.base.get? b = some o → s.heap.get? b = some o ∧ H b = none := fun b o e =>
  ⟨I.base.keep b o (I.ok.bs b o e).1 (I.ok.bs b o e).2 (I.ok.nofr e) (I.ok.noex b o e), I.base.free b o (I.ok.bs b o e).1 (I.ok.bs b o e).2 (I.ok.noex b o e)⟩
theorem Inv.bk (I : Inv X pins σ H s) : ∀ b o, X.base.get? b = some o → s.heap.get? b = some o := fun b o e => (I.bs b o e).1
theorem Inv.mod (I : Inv X pins σ H s) : Mod X.K X.mg X.base := I.ok.mod
theorem Inv.kIn (I : Inv X pins σ H s) : X.K.In s.heap := I.ok.mod.kin.keeps I.bk
theorem Inv.lt (I : Inv X pins σ H s) : X.env.locals < s.heap.objs.size := let ⟨_, hn, _⟩ := I.loc; hn.lt
theorem Inv.sz (I : Inv X pins σ H s) : X.s₀.heap.objs.size ≤ s.heap.objs.size := Nat.le_trans I.ok.above (Nat.le_of_lt I.lt)
theorem Inv.nofs (I : Inv X pins σ H s) {a : Addr} (h : s.heap.objs.size ≤ a) : a ∉ X.fs := fun hb => by
  obtain ⟨_, o, ho, _⟩ := I.ok.funs.mem hb
  exact absurd (Nat.lt_of_lt_of_le (Heap.lt_size ho) (Nat.le_trans I.sz h)) (Nat.lt_irrefl _)
theorem Inv.cne (I : Inv X pins σ H s) : ∀ x c, X.env.cells.lookup x = some c → c ≠ X.env.locals := fun x c e z => by
  obtain ⟨v, o, ho, hd⟩ := I.cell x c e
  obtain ⟨m, ⟨o', es, ep, ho', hd', _⟩, _⟩ := I.loc
  rw [z, ho'] at ho; cases ho; rw [hd'] at hd; cases hd
theorem Inv.funs (I : Inv X pins σ H s) : s.heap.FunFrames X.base X.outer := by
  have all : ∀ (l : List Env), (∀ b ∈ frs l, b ∈ X.fs) → X.s₀.heap.FunFrames X.base l → s.heap.FunFrames X.base l := by
    intro l
    induction l with
    | nil => intro _ _; trivial
    | cons env r ih =>
      intro hs hl
      obtain ⟨hk, ⟨L, o, hf, hn, ho, hd⟩, hr⟩ := hl
      have hL : L ∈ X.fs := hs L (by unfold frs; rw [List.filterMap_cons, hf]; exact List.mem_cons_self)
      obtain ⟨sl, e⟩ := I.base.slot L o ho (I.ok.frf L hL) hL fun z => I.ok.exfs L z hL
      exact ⟨hk, ⟨L, _, hf, hn, e, hd⟩, ih (fun b hb => hs b (by unfold frs; rw [List.filterMap_cons, hf]; exact List.mem_cons_of_mem _ hb)) hr⟩
  exact all X.outer (fun _ hb => hb) I.ok.funs

/-- the frames that run, for a call -/
theorem Inv.stack (I : Inv X pins σ H s) : s.heap.FunFrames X.base X.stack := by
  rcases I.ok.stk with e | ⟨e, hf⟩
  · rw [e]; exact I.funs
  · rw [e]
    obtain ⟨m, hn, _⟩ := I.loc
    refine .cons (by rw [I.ok.kind]; decide) hf hn ?_ I.funs
    exact Heap.get?_none_of_le (Nat.le_trans I.ok.bsz I.ok.above)
theorem Inv.stkSub (I : Inv X pins σ H s) : ∀ b ∈ frs X.stack, b ∈ X.env.locals :: X.fs := fun b hb => by
  rcases I.ok.stk with e | ⟨e, hf⟩
  · rw [e] at hb; exact List.mem_cons_of_mem _ hb
  · rw [e] at hb
    unfold frs at hb
    rw [List.filterMap_cons, hf] at hb
    exact hb
theorem Inv.stkFree (I : Inv X pins σ H s) : ∀ b ∈ frs X.stack, H b = none := fun b hb => by
  rcases List.mem_cons.mp (I.stkSub b hb) with e | hb
  · rw [e]; exact I.free
  · obtain ⟨_, o, ho, _⟩ := I.ok.funs.mem hb
    exact I.base.free b o ho (I.ok.frf b hb) fun z => I.ok.exfs b z hb

/-- THE STEP: the untracked objects but the frame and the records at ch are kept (the callers' frames up to slots), the frame's map is kept, the new abstract heap is held -/
theorem Inv.step {g' : Array GenState} {t' : Nat} {d' : Drawn} {ch : List Addr} (I : Inv X pins σ H s)
    (hch : ∀ b ∈ ch, (b ∈ X.ex ∨ X.s₀.heap.objs.size ≤ b) ∧ b ≠ X.env.locals ∧ (∀ x c, X.env.cells.lookup x = some c → c ≠ b) ∧ ∀ p ∈ X.pn ++ pins, p.1 ≠ b)
    (keep : ∀ b o, b ≠ X.env.locals → b ∉ X.fs → b ∉ ch → s.heap.get? b = some o → H b = none → h'.get? b = some o)
    (slot : ∀ b o, b ≠ X.env.locals → b ∈ X.fs → b ∉ ch → s.heap.get? b = some o → H b = none → ∃ sl, h'.get? b = some { o with slots := sl }) (free : ∀ b o, b ∉ ch → s.heap.get? b = some o → H b = none → H' b = none)
    (there : ∀ b o, b ∉ ch → s.heap.get? b = some o → ∃ o', h'.get? b = some o')
    (tups : ∀ b xs, H b = some (.tup xs) → H' b = some (.tup xs)) (frzs : ∀ b o u, H b = some (.frz o u) → H' b = some (.frz o u)) (tbls : ∀ b ps, H b = some (.tbl ps) → ∃ more, H' b = some (.tbl (ps ++ more)))
    (ns : ∀ m, s.heap.Ns X.env.locals m → h'.Ns X.env.locals m) (hok : HOk X.prog X.w H' h') (hg : AllBare g') :
    Inv X pins σ H' { s with heap := h', gens := g', drawn := d', toks := t' } := by
  have neL : ∀ b o, X.s₀.heap.get? b = some o → b ≠ X.env.locals := fun b o e => Nat.ne_of_lt (Nat.lt_of_lt_of_le (Heap.lt_size e) I.ok.above)
  have neC : ∀ b o, X.s₀.heap.get? b = some o → b ∉ X.ex → b ∉ ch := fun b o e hx hb => by
    rcases (hch b hb).1 with z | z
    · exact hx z
    · exact absurd (Nat.lt_of_lt_of_le (Heap.lt_size e) z) (Nat.lt_irrefl _)
  have cellK : ∀ x c, X.env.cells.lookup x = some c → ∀ v, s.heap.IsCell c v → h'.IsCell c v := fun x c e v ⟨o, ho, hd⟩ => by
    have nch : c ∉ ch := fun z => (hch c z).2.2.1 x c e rfl
    by_cases hc : c ∈ X.fs
    · obtain ⟨sl, q⟩ := slot c o (I.cne x c e) hc nch ho (I.freeC x c e)
      exact ⟨_, q, hd⟩
    · exact ⟨o, keep c o (I.cne x c e) hc nch ho (I.freeC x c e), hd⟩
  refine ⟨I.ok, I.os, hg, ⟨fun b o e n hb hx => ?_, fun b o e n hb hx => ?_, fun b o e n hx => ?_, fun b o e hx => ?_, fun b xs e => tups b xs (I.base.tups b xs e), fun b o xs e => frzs b o xs (I.base.frzs b o xs e), fun b ps e => ?_⟩, ?_, fun x c e => ?_, ?_, fun x c e => ?_, fun p hp => ?_, hok, I.len⟩
  · exact keep b o (neL b o e) hb (neC b o e hx) (I.base.keep b o e n hb hx) (I.base.free b o e n hx)
  · obtain ⟨sl, e1⟩ := I.base.slot b o e n hb hx
    obtain ⟨sl', e2⟩ := slot b _ (neL b o e) hb (neC b o e hx) e1 (I.base.free b o e n hx)
    exact ⟨sl', e2⟩
  · obtain ⟨o', e1⟩ := I.base.there b o e hx
    exact free b o' (neC b o e hx) e1 (I.base.free b o e n hx)
  · obtain ⟨o', e1⟩ := I.base.there b o e hx
    exact there b o' (neC b o e hx) e1
  · obtain ⟨m1, e1⟩ := I.base.tbls b ps e
    obtain ⟨m2, e2⟩ := tbls b _ e1
    exact ⟨m1 ++ m2, by rw [e2, Array.append_assoc]⟩
  · obtain ⟨m, hn, hl⟩ := I.loc
    refine ⟨m, ns m hn, fun i x v e1 e2 e3 => ?_⟩
    obtain ⟨u, r, l⟩ := hl i x v e1 e2 e3
    refine ⟨u, r, ?_⟩
    rcases l with l | ⟨k, c, e, z⟩
    · exact .inl l
    · exact .inr ⟨k, c, e, cellK x c e _ z⟩
  · obtain ⟨v, z⟩ := I.cell x c e
    exact ⟨v, cellK x c e v z⟩
  · obtain ⟨m, ⟨o, _, _, ho, _⟩, _⟩ := I.loc
    exact free _ o (fun z => (hch _ z).2.1 rfl) ho I.free
  · obtain ⟨v, o, ho, hd⟩ := I.cell x c e
    exact free c o (fun z => (hch c z).2.2.1 x c e rfl) ho (I.freeC x c e)
  · obtain ⟨e, n, ne, nf, d⟩ := I.pin p hp
    have nch : p.1 ∉ ch := fun z => (hch p.1 z).2.2.2 p hp rfl
    exact ⟨keep p.1 p.2 ne nf nch e n, free p.1 p.2 nch e n, ne, nf, d⟩
/-- .. where the frame's own object is kept too -/
theorem Inv.un {t' : Nat} (I : Inv X pins σ H s) (u : Un X.fs [] H H' s.heap h') (hok : HOk X.prog X.w H' h') : Inv X pins σ H' { s with heap := h', toks := t' } := by
  obtain ⟨m, ⟨o, es, ep, ho, r⟩, _⟩ := id I.loc
  obtain ⟨sl, hL⟩ := u.any ho I.free (by simp)
  exact I.step (g' := s.gens) (d' := s.drawn) (ch := []) (fun _ z => nomatch z) (fun b o _ hb _ e n => u.keep b o e n hb (by simp)) (fun b o _ hb _ e n => u.slot b o e n hb (by simp)) (fun b o _ e n => u.free b o e n (by simp)) (fun b o _ e => u.there b o e (by simp)) u.tups u.frzs u.tbls (fun m' hm => by
    obtain ⟨o', es', ep', ho', r'⟩ := hm
    rw [ho] at ho'; cases ho'
    exact ⟨_, es', ep', hL, r'⟩) hok I.bare
/-- behind a call (or a comprehension's block): the slots of this frame may have changed too, the records at ch may have turned -/
theorem Inv.call {g' : Array GenState} {t' : Nat} {d' : Drawn} {ch : List Addr} (I : Inv X pins σ H s) (u : Un (frs X.stack) ch H H' s.heap h') (hok : HOk X.prog X.w H' h') (hg : AllBare g')
    (hch : ∀ b ∈ ch, (b ∈ X.ex ∨ X.s₀.heap.objs.size ≤ b) ∧ b ≠ X.env.locals ∧ (∀ x c, X.env.cells.lookup x = some c → c ≠ b) ∧ ∀ p ∈ X.pn ++ pins, p.1 ≠ b) :
    Inv X pins σ H' { s with heap := h', gens := g', drawn := d', toks := t' } := by
  obtain ⟨m, ⟨o, es, ep, ho, r⟩, _⟩ := id I.loc
  obtain ⟨sl, hL⟩ := u.any ho I.free fun z => (hch _ z).2.1 rfl
  exact I.step (ch := ch) hch (fun b o hL hb hc e n => u.keep b o e n (fun z => (List.mem_cons.mp (I.stkSub b z)).elim hL hb) hc) (fun b o _ _ hc e n => u.any e n hc) (fun b o hc e n => u.free b o e n hc) (fun b o hc e => u.there b o e hc) u.tups u.frzs u.tbls (fun m' hm => by
    obtain ⟨o', es', ep', ho', r'⟩ := hm
    rw [ho] at ho'; cases ho'
    exact ⟨_, es', ep', hL, r'⟩) hok hg
/-- an untracked record of ours (an iterator) has turned -/
theorem Inv.turned {t' : Nat} {it : Addr} (I : Inv X pins σ H s) (k : ∀ b o, b ≠ it → s.heap.get? b = some o → h'.get? b = some o) (hn : H it = none) (hL : it ≠ X.env.locals)
    (h1 : it ∈ X.ex ∨ X.s₀.heap.objs.size ≤ it) (h2 : ∀ x c, X.env.cells.lookup x = some c → c ≠ it) (h3 : ∀ p ∈ X.pn ++ pins, p.1 ≠ it) : Inv X pins σ H { s with heap := h', toks := t' } := by
  have nit : ∀ b u, H b = some u → b ≠ it := fun b u e z => by rw [z, hn] at e; cases e
  refine I.step (g' := s.gens) (d' := s.drawn) (ch := [it]) (fun b hb => ?_) (fun b o _ _ hc e _ => k b o (fun z => hc (by simp [z])) e) (fun b o _ _ hc e _ => ⟨o.slots, k b o (fun z => hc (by simp [z])) e⟩) (fun _ _ _ _ n => n)
    (fun b o hc e => ⟨o, k b o (fun z => hc (by simp [z])) e⟩) (fun _ _ e => e) (fun _ _ _ e => e) (fun b ps e => ⟨#[], by rw [e]; simp⟩) (fun m hm => ?_) (fun b u e => ?_) I.bare
  · have e : b = it := by simpa using hb
    subst e
    exact ⟨h1, hL, h2, h3⟩
  · obtain ⟨o, es, ep, ho, r⟩ := hm
    exact ⟨o, es, ep, k _ o (Ne.symm hL) ho, r⟩
  · refine (I.hok b u e).stay (fun c v hc q => k c v ?_ q) (fun _ q => q) fun _ _ q => q
    rcases hc with z | z
    · rw [z]; exact nit b u e
    · exact nit c _ z
theorem Inv.tok (I : Inv X pins σ H s) (t : Nat) : Inv X pins σ H { s with toks := t } := I.un (h' := s.heap) (t' := t) Un.refl I.hok
/-- all objects kept -/
theorem Inv.kept {t' : Nat} (I : Inv X pins σ H s) (k : ∀ b u, s.heap.get? b = some u → h'.get? b = some u) : Inv X pins σ H { s with heap := h', toks := t' } := I.un (Un.kept k) (I.hok.kept k)
/-- a new object laid and tracked -/
theorem Inv.laid {a : Addr} {o : HO} {t' : Nat} (I : Inv X pins σ H s) (k : ∀ b u, s.heap.get? b = some u → h'.get? b = some u) (hp : s.heap.objs.size ≤ a) (new : ObjOk X.prog X.w (upd H a o) h' a o) :
    Inv X pins σ (upd H a o) { s with heap := h', toks := t' } := I.un (Un.laid k hp (I.hok.fresh hp)) (I.hok.laid k hp new)
/-- an object written -/
theorem Inv.write {x e : Addr} {o : HO} {t' : Nat} (I : Inv X pins σ H s) (mu : Mut (H x)) (he : e = x ∨ H e = some (.own x)) (k : ∀ b u, b ≠ e → s.heap.get? b = some u → h'.get? b = some u) (heo : ∃ u, h'.get? e = some u)
    (new : ObjOk X.prog X.w (upd H x o) h' x o) : Inv X pins σ (upd H x o) { s with heap := h', toks := t' } := I.un (Un.write mu he k heo) (I.hok.write mu he k heo new)
/-- forgetting slots, pins -/
theorem Inv.weak {σ' : List (Option V)} (I : Inv X pins σ H s) (hl : σ'.length = σ.length) (w : ∀ (i : Nat) v, σ'[i]? = some (some v) → σ[i]? = some (some v)) : Inv X pins σ' H s :=
  ⟨I.ok, I.os, I.bare, I.base, let ⟨m, hn, hl'⟩ := I.loc; ⟨m, hn, fun i x v e1 e2 e3 => hl' i x v e1 (w i v e2) e3⟩, I.cell, I.free, I.freeC, I.pin, I.hok, hl.trans I.len⟩
theorem Inv.pins_of {pins' : List (Addr × Obj)} (I : Inv X pins σ H s) (h : ∀ p ∈ pins', s.heap.get? p.1 = some p.2 ∧ H p.1 = none ∧ p.1 ≠ X.env.locals ∧ p.1 ∉ X.fs ∧ ∀ v, p.2.data ≠ .cell v) : Inv X pins' σ H s :=
  ⟨I.ok, I.os, I.bare, I.base, I.loc, I.cell, I.free, I.freeC, fun p hp => (List.mem_append.mp hp).elim (fun z => I.pin p (List.mem_append_left _ z)) (h p), I.hok, I.len⟩

theorem nodup_ix {N : List Str} (hN : N.Nodup) {i j : Nat} {x : Str} (a : N[i]? = some x) (b : N[j]? = some x) : i = j := by
  obtain ⟨h1, e1⟩ := List.getElem?_eq_some_iff.mp a
  obtain ⟨h2, e2⟩ := List.getElem?_eq_some_iff.mp b
  exact (List.getElem_inj hN).mp (e1.trans e2.symm)

/-- a name is stored; what changed -/
theorem store_ok2 {M : Model} {A : Around} {E : Value → Shared → Prop} {i : Nat} {x : Str} {v : V} {u : Value} {Q : Unit → Shared → Prop} (I : Inv X pins σ H s) (hN : X.N.Nodup) (hi : X.N[i]? = some x) (hx : Loc X.env.scope x) (r : RelV v u)
    (h : ∀ s', Inv X pins (σ.set i (some v)) H s' → (∃ a, Heap.SameBut a s.heap s'.heap ∧ (a = X.env.locals ∨ X.env.cells.lookup x = some a)) → Q () s') (hf : X.fn x = true ∨ X.env.scope.names.lookup x = some .local := by first | exact .inl rfl | exact .inr rfl | assumption) : wpAny M A (storeName X.env x u) Q E s := by
  obtain ⟨m, hn, hl⟩ := id I.loc
  have hcls : (X.env.scope.kind == .class || (X.env.scope.kind == .module && X.env.locals != X.env.globals)) = false := by rw [I.ok.kind]; rfl
  have hiσ : i < σ.length := by rw [I.len]; exact (List.getElem?_eq_some_iff.mp hi).1
  have cne := I.cne
  have tracked : ∀ {a : Addr} {h' : Heap}, (∃ o, s.heap.get? a = some o ∧ H a = none) → Heap.SameBut a s.heap h' → HOk X.prog X.w H h' := fun {a h'} ha hs b ob e => by
    obtain ⟨_, _, hfree⟩ := ha
    refine (I.hok b ob e).stay (fun c w' hc q => (hs.2 c ?_).trans q) (fun _ q => q) fun _ _ q => q
    rintro rfl
    rcases hc with rfl | hc
    · rw [hfree] at e; cases e
    · rw [hfree] at hc; cases hc
  rcases hx with hk | hk
  · refine wpAny_storeName_local hk hn (fun h' hn' hs => ?_) hcls
    obtain ⟨oL, _, _, hoL, _⟩ := id hn
    refine h _ ⟨I.ok, I.os, I.bare, ⟨fun b o e n hb hx => ?_, fun b o e n hb hx => ?_, I.base.free, fun b o e hx => ?_, I.base.tups, I.base.frzs, I.base.tbls⟩, ⟨_, hn', fun j y v' e1 e2 e3 => ?_⟩, fun y c e => ?_, I.free, I.freeC, fun p hp => ?_, tracked ⟨oL, hoL, I.free⟩ hs, by simpa using I.len⟩ ⟨_, hs, .inl rfl⟩
    · exact (hs.2 b (Nat.ne_of_lt (Nat.lt_of_lt_of_le (Heap.lt_size e) I.ok.above))).trans (I.base.keep b o e n hb hx)
    · obtain ⟨sl, e1⟩ := I.base.slot b o e n hb hx
      exact ⟨sl, (hs.2 b (Nat.ne_of_lt (Nat.lt_of_lt_of_le (Heap.lt_size e) I.ok.above))).trans e1⟩
    · obtain ⟨o', e1⟩ := I.base.there b o e hx
      exact ⟨o', (hs.2 b (Nat.ne_of_lt (Nat.lt_of_lt_of_le (Heap.lt_size e) I.ok.above))).trans e1⟩
    · by_cases hj : j = i
      · subst hj
        rw [hi] at e1; cases e1
        rw [List.getElem?_set_self hiσ] at e2
        cases e2
        exact ⟨u, r, .inl ⟨hk, by simp⟩⟩
      · rw [List.getElem?_set_ne (Ne.symm hj)] at e2
        obtain ⟨u', r', q⟩ := hl j y v' e1 e2 e3
        refine ⟨u', r', ?_⟩
        rcases q with ⟨k, e⟩ | ⟨k, c, e, z⟩
        · refine .inl ⟨k, ?_⟩
          have : y ≠ x := fun e => hj (nodup_ix hN e1 (e ▸ hi))
          simp [this, e]
        · exact .inr ⟨k, c, e, z.sameBut hs (cne y c e)⟩
    · obtain ⟨w', z⟩ := I.cell y c e
      exact ⟨w', z.sameBut hs (cne y c e)⟩
    · obtain ⟨e, n, ne, nf, d⟩ := I.pin p hp
      exact ⟨(hs.2 p.1 ne).trans e, n, ne, nf, d⟩
  · have hfn : X.fn x = true := by
      rcases hf with z | z
      · exact z
      · rw [z] at hk; cases hk
    obtain ⟨c, hc⟩ := I.ok.has x (.inl hk)
    obtain ⟨w', z⟩ := I.cell x c hc
    refine wpAny_storeName_cell I.ok.kind hk hc z (fun h' hc' hs => ?_)
    obtain ⟨oc, hoc, hocd⟩ := id z
    refine h { s with heap := h' } ⟨I.ok, I.os, I.bare, ⟨fun b o e n hb hx => ?_, fun b o e n hb hx => ?_, I.base.free, fun b o e hx => ?_, I.base.tups, I.base.frzs, I.base.tbls⟩, ⟨m, hn.sameBut hs (Ne.symm (cne x c hc)), fun j y v' e1 e2 e3 => ?_⟩, fun y c' e => ?_, I.free, I.freeC, fun p hp => ?_, tracked ⟨oc, hoc, I.freeC x c hc⟩ hs, by simpa using I.len⟩ ⟨c, hs, .inr hc⟩
    · exact (hs.2 b (Nat.ne_of_lt (Nat.lt_of_lt_of_le (Heap.lt_size e) (I.ok.cab x c hfn hc)))).trans (I.base.keep b o e n hb hx)
    · obtain ⟨sl, e1⟩ := I.base.slot b o e n hb hx
      exact ⟨sl, (hs.2 b (Nat.ne_of_lt (Nat.lt_of_lt_of_le (Heap.lt_size e) (I.ok.cab x c hfn hc)))).trans e1⟩
    · obtain ⟨o', e1⟩ := I.base.there b o e hx
      exact ⟨o', (hs.2 b (Nat.ne_of_lt (Nat.lt_of_lt_of_le (Heap.lt_size e) (I.ok.cab x c hfn hc)))).trans e1⟩
    · by_cases hj : j = i
      · subst hj
        rw [hi] at e1; cases e1
        rw [List.getElem?_set_self hiσ] at e2
        cases e2
        exact ⟨u, r, .inr ⟨.inl hk, c, hc, hc'⟩⟩
      · rw [List.getElem?_set_ne (Ne.symm hj)] at e2
        obtain ⟨u', r', q⟩ := hl j y v' e1 e2 e3
        refine ⟨u', r', ?_⟩
        rcases q with q | ⟨k, c', e, z'⟩
        · exact .inl q
        · refine .inr ⟨k, c', e, z'.sameBut hs ?_⟩
          rintro rfl
          exact hj (nodup_ix hN e1 (I.ok.inj _ _ _ e hc ▸ hi))
    · by_cases hcc : c' = c
      · subst hcc; exact ⟨_, hc'⟩
      · obtain ⟨w2, z2⟩ := I.cell y c' e
        exact ⟨w2, z2.sameBut hs hcc⟩
    · obtain ⟨e, n, ne, nf, d⟩ := I.pin p hp
      refine ⟨(hs.2 p.1 ?_).trans e, n, ne, nf, d⟩
      intro q
      rw [q, hoc] at e
      have q' : oc = p.2 := Option.some.inj e
      exact d w' (by rw [← q']; exact hocd)
theorem store_ok {M : Model} {A : Around} {E : Value → Shared → Prop} {i : Nat} {x : Str} {v : V} {u : Value} {Q : Unit → Shared → Prop} (I : Inv X pins σ H s) (hN : X.N.Nodup) (hi : X.N[i]? = some x) (hx : Loc X.env.scope x) (r : RelV v u)
    (h : ∀ s', Inv X pins (σ.set i (some v)) H s' → Q () s') (hf : X.fn x = true ∨ X.env.scope.names.lookup x = some .local := by first | exact .inl rfl | exact .inr rfl | assumption) : wpAny M A (storeName X.env x u) Q E s :=
  store_ok2 I hN hi hx r (fun s' I' _ => h s' I') hf
/-- behind a call or a block, the state as it is -/
theorem Inv.call' {s' : Shared} {ch : List Addr} (I : Inv X pins σ H s) (ho : s'.os = s.os) (u : Un (frs X.stack) ch H H' s.heap s'.heap) (hok : HOk X.prog X.w H' s'.heap) (hg : AllBare s'.gens)
    (hch : ∀ b ∈ ch, (b ∈ X.ex ∨ X.s₀.heap.objs.size ≤ b) ∧ b ≠ X.env.locals ∧ (∀ x c, X.env.cells.lookup x = some c → c ≠ b) ∧ ∀ p ∈ X.pn ++ pins, p.1 ≠ b) : Inv X pins σ H' s' := by
  obtain ⟨h', g', d', t', o'⟩ := s'
  have e : o' = s.os := ho
  subst e
  exact I.call (g' := g') (t' := t') (d' := d') u hok hg hch
end

/-! ### the judgements -/
/-- an exception: its class, its own dict's address (where it has one), the abstract heap behind it -/
abbrev XK := Value → Option Addr → Hp → Prop
abbrev St := List (Option V)
abbrev VK := V → Hp → Prop
/-- an expression's reading; a test's; an argument list's -/
abbrev TE := St → Hp → VK → Prop
abbrev TT := St → Hp → (Bool → Hp → Prop) → Prop
abbrev TA := St → Hp → (List V → Hp → Prop) → Prop
/-- what is wanted behind a statement -/
structure Ends where
  nx : St → Hp → Prop
  rt : VK
  bk : St → Hp → Prop := fun _ _ => False
  ct : St → Hp → Prop := fun _ _ => False
abbrev TS := Ends → St → Hp → Prop

def EP (X : Cx) (pins : List (Addr × Obj)) (σ : St) (Q : VK) (u : Value) (s' : Shared) : Prop := ∃ v H', Inv X pins σ H' s' ∧ RelV v u ∧ Q v H'
def TP (X : Cx) (pins : List (Addr × Obj)) (σ : St) (Q : Bool → Hp → Prop) (b : Bool) (s' : Shared) : Prop := ∃ H', Inv X pins σ H' s' ∧ Q b H'
def AP (X : Cx) (pins : List (Addr × Obj)) (σ : St) (Q : List V → Hp → Prop) (us : List Value) (s' : Shared) : Prop := ∃ vs H', Inv X pins σ H' s' ∧ Vals vs us ∧ Q vs H'
def SP (X : Cx) (pins : List (Addr × Obj)) (D : Ends) (f : Flow) (s' : Shared) : Prop :=
  match f with
  | .next => ∃ σ' H', Inv X pins σ' H' s' ∧ D.nx σ' H'
  | .brk => ∃ σ' H', Inv X pins σ' H' s' ∧ D.bk σ' H'
  | .cont => ∃ σ' H', Inv X pins σ' H' s' ∧ D.ct σ' H'
  | .ret u => ∃ v σ' H', Inv X pins σ' H' s' ∧ RelV v u ∧ D.rt v H'

def PE (X : Cx) (e : Expr) (t : TE) : Prop :=
  ∀ (pins : List (Addr × Obj)) (s : Shared) (σ : St) (H : Hp) (Q : VK), Inv X pins σ H s → t σ H Q → wpAny (model X.prog X.w) X.A (eval e X.env) (EP X pins σ Q) X.xe s
def PT (X : Cx) (e : Expr) (t : TT) : Prop :=
  ∀ (pins : List (Addr × Obj)) (s : Shared) (σ : St) (H : Hp) (Q : Bool → Hp → Prop), Inv X pins σ H s → t σ H Q → wpAny (model X.prog X.w) X.A (isTrue e X.env (eval e X.env)) (TP X pins σ Q) X.xe s
/-- a test whatever its 'whole' is (and, or) -/
def PW (X : Cx) (e : Expr) (t : TT) : Prop :=
  ∀ (whole : Sem Value) (pins : List (Addr × Obj)) (s : Shared) (σ : St) (H : Hp) (Q : Bool → Hp → Prop), Inv X pins σ H s → t σ H Q → wpAny (model X.prog X.w) X.A (isTrue e X.env whole) (TP X pins σ Q) X.xe s
theorem PW.pt {X : Cx} {e : Expr} {t : TT} (h : PW X e t) : PT X e t := h _
/-- an argument list (no star), from the left -/
def PA (X : Cx) (es : List Expr) (t : TA) : Prop :=
  ∀ (pos : Pos) (pins : List (Addr × Obj)) (s : Shared) (σ : St) (H : Hp) (Q : List V → Hp → Prop), Inv X pins σ H s → t σ H Q → wpAny (model X.prog X.w) X.A (spliced (backTo pos (starEach es X.env))) (AP X pins σ Q) X.xe s
def PS (X : Cx) (st : Stmt) (t : TS) : Prop :=
  ∀ (pins : List (Addr × Obj)) (s : Shared) (σ : St) (H : Hp) (D : Ends), Inv X pins σ H s → t D σ H → wpAny (model X.prog X.w) X.A (exec st X.env) (SP X pins D) X.xe s
def PSs (X : Cx) (st : List Stmt) (t : TS) : Prop :=
  ∀ (pins : List (Addr × Obj)) (s : Shared) (σ : St) (H : Hp) (D : Ends), Inv X pins σ H s → t D σ H → wpAny (model X.prog X.w) X.A (execs st X.env) (SP X pins D) X.xe s
/-- weaken the end -/
theorem thn {α : Type} {t : Sem α} {Q Q' : α → Shared → Prop} {M : Model} {A : Around} {E : Value → Shared → Prop} {s : Shared} (h : wpAny M A t Q E s) (hQ : ∀ a s, Q a s → Q' a s) : wpAny M A t Q' E s := wpAny_mono h hQ fun _ _ x => x
end L2

namespace L2
open PySem PySem.Spec PyProof.Rows
section
variable {X : Cx}

/-! ### names and constants -/
def tVar (i : Nat) : TE := fun σ H Q => ∃ v, σ[i]? = some (some v) ∧ Q v H
def tC (v : V) : TE := fun _ H Q => Q v H
theorem pe_var {i : Nat} {x : Str} {pos : Pos} (hN : X.N[i]? = some x) (hv : Vis X.env.scope x) (hd : (x == ("__debug__" : Str)) = false := by decide) (hcd : (x == ("__classdict__" : Str)) = false := by decide) : PE X (.Name x pos) (tVar i) := by
  intro pins s σ H Q I h
  obtain ⟨v, e, h⟩ := h
  obtain ⟨m, hn, hl⟩ := I.loc
  obtain ⟨u, r, l⟩ := hl i x v hN e hv
  have fin : EP X pins σ Q u s := ⟨v, H, I, r, h⟩
  rcases l with ⟨hk, hm⟩ | ⟨hk, c, hc, hcell⟩
  · exact wpAny_Name (wpAny_loadName_local I.ok.kind hk hn hm fin) hd
  · rcases hk with hk | hk
    · exact wpAny_Name (wpAny_loadName_cell I.ok.kind hk hc hcell fin) hd
    · exact wpAny_Name (wpAny_loadName_free I.ok.kind hk hc hcell fin hcd) hd
theorem pe_int {i j pos} : PE X (.Constant (.int i) j pos) (tC (.int i)) := fun _ _ _ H _ I h => wpAny_Constant_int ⟨.int i, H, I.tok _, ⟨_, rfl⟩, h⟩
theorem pe_bl {b j pos} : PE X (.Constant (.bool b) j pos) (tC (.bl b)) := fun _ _ _ H _ I h => Constant_bool ⟨.bl b, H, I, rfl, h⟩
theorem pe_non {j pos} : PE X (.Constant .none j pos) (tC .non) := fun _ _ _ H _ I h => Constant_none ⟨.non, H, I, rfl, h⟩
theorem pe_str {x j pos} : PE X (.Constant (.str x) j pos) (tC (.str x)) := fun _ _ _ H _ I h => Calls.Constant_str ⟨.str x, H, I.tok _, ⟨_, rfl⟩, h⟩

/-- a global name of the def -/
def Gl (X : Cx) (x : Str) : Prop := X.env.kindOf x = some .globalImplicit
theorem ld_glob {E : Value → Shared → Prop} {pins : List (Addr × Obj)} {s : Shared} {σ : St} {H : Hp} {x : Str} {u : Value} {pos : Pos} {Q : Value → Shared → Prop} (I : Inv X pins σ H s) (hg : Gl X x) (hm : X.mg x = some u) (h : Q u s)
    (hd : (x == ("__debug__" : Str)) = false := by decide) : wpAny (model X.prog X.w) X.A (eval (.Name x pos) X.env) Q E s :=
  Calls.Name_function_global I.ok.kind hg (Calls.loadGlobal_global (by rw [I.ok.glob]; exact I.mod.glob.keeps I.bk) hm h) hd
theorem ld_blt {E : Value → Shared → Prop} {pins : List (Addr × Obj)} {s : Shared} {σ : St} {H : Hp} {x : Str} {u : Value} {pos : Pos} {Q : Value → Shared → Prop} (I : Inv X pins σ H s) (hg : Gl X x) (hm : X.mg x = none) (hv : bootBuiltins x = some u) (h : Q u s)
    (hn : x ≠ "__name__" := by decide) (hd : (x == ("__debug__" : Str)) = false := by decide) : wpAny (model X.prog X.w) X.A (eval (.Name x pos) X.env) Q E s := by
  obtain ⟨mb, h1, h2⟩ := I.mod.blt
  exact Calls.Name_function_global I.ok.kind hg (Calls.loadGlobal_builtin (by rw [I.ok.glob]; exact I.mod.glob.keeps I.bk) hm (by rw [I.ok.blt]; exact h1.keeps I.bk) ((h2 x hn).trans hv) h) hd
/-- a module's constant, a class, a function, as a value -/
theorem pe_glob {x : Str} {v : V} {u : Value} {pos : Pos} (hg : Gl X x) (hm : X.mg x = some u) (r : RelV v u) (hd : (x == ("__debug__" : Str)) = false := by decide) : PE X (.Name x pos) (tC v) :=
  fun _ _ _ H _ I h => ld_glob I hg hm ⟨v, H, I, r, h⟩ hd
theorem pe_bltn {x : Str} {v : V} {u : Value} {pos : Pos} (hg : Gl X x) (hm : X.mg x = none) (hv : bootBuiltins x = some u) (r : RelV v u) (hn : x ≠ "__name__" := by decide) (hd : (x == ("__debug__" : Str)) = false := by decide) : PE X (.Name x pos) (tC v) :=
  fun _ _ _ H _ I h => ld_blt I hg hm hv ⟨v, H, I, r, h⟩ hn hd

/-! ### arithmetic -/
variable {a b : Expr} {ta tb : TE} {pos : Pos}
/-! ### comparisons -/
/-- a comparison as a value, as a test -/
def tB (t : TE) : TT := fun σ H Q => t σ H fun x H1 => ∃ c, x = .bl c ∧ Q c H1
/-- an expression whose value is a bool, as a test -/
theorem pt_val {e : Expr} {t : TE} (h : PE X e t) (he : ∀ whole, isTrue e X.env whole = (do let v ← whole; standAt e.pos; holding [v] (truthy v)) := by intro _; rfl) : PT X e (tB t) := by
  intro pins s σ H Q I hw
  refine isTrue_plain (thn (h pins s σ H _ I hw) fun v s1 ⟨x, H1, I1, r1, q1⟩ => ?_) (he _)
  obtain ⟨d, rfl, q⟩ := q1
  cases r1
  exact wpAny_truthy_bool ⟨H1, I1, q⟩

/-! ### and, or, not -/
variable {tA tB' : TT} {rest : List Expr}
def tAnd (t u : TT) : TT := fun σ H Q => t σ H fun c H1 => if c = true then u σ H1 Q else Q false H1
def tOr (t u : TT) : TT := fun σ H Q => t σ H fun c H1 => if c = true then Q true H1 else u σ H1 Q
def tNot (t : TT) : TT := fun σ H Q => t σ H fun c H1 => Q (!c) H1
theorem pw_and1 (ha : PT X a tA) : PW X (.BoolOp .And [a] pos) tA := by
  intro wh pins s σ H Q I h
  refine isTrue_and (thn (ha pins s σ H Q I h) fun c s1 e => ?_)
  cases c with
  | true => exact isTrue_and_nil e
  | false => exact e
theorem pw_or1 (ha : PT X a tA) : PW X (.BoolOp .Or [a] pos) tA := by
  intro wh pins s σ H Q I h
  refine isTrue_or (thn (ha pins s σ H Q I h) fun c s1 e => ?_)
  cases c with
  | false => exact isTrue_or_nil e
  | true => exact e
theorem pw_and (ha : PT X a tA) (hb : PW X (.BoolOp .And (b :: rest) pos) tB') : PW X (.BoolOp .And (a :: b :: rest) pos) (tAnd tA tB') := by
  intro wh pins s σ H Q I h
  refine isTrue_and (thn (ha pins s σ H _ I h) fun c s1 ⟨H1, I1, q1⟩ => ?_)
  cases c with
  | true => exact hb wh pins s1 σ H1 Q I1 q1
  | false => exact ⟨H1, I1, q1⟩
theorem pw_or (ha : PT X a tA) (hb : PW X (.BoolOp .Or (b :: rest) pos) tB') : PW X (.BoolOp .Or (a :: b :: rest) pos) (tOr tA tB') := by
  intro wh pins s σ H Q I h
  refine isTrue_or (thn (ha pins s σ H _ I h) fun c s1 ⟨H1, I1, q1⟩ => ?_)
  cases c with
  | true => exact ⟨H1, I1, q1⟩
  | false => exact hb wh pins s1 σ H1 Q I1 q1
theorem pt_not (ha : PT X a tA) : PT X (.UnaryOp .Not a pos) (tNot tA) := by
  intro pins s σ H Q I h
  exact isTrue_not (ha pins s σ H (fun c H1 => Q (!c) H1) I h)
/-- .. as values (bools) -/
def tAndV (ta tb : TE) : TE := fun σ H Q => ta σ H fun x H1 => ∃ c, x = .bl c ∧ if c = true then tb σ H1 Q else Q (.bl false) H1
def tOrV (ta tb : TE) : TE := fun σ H Q => ta σ H fun x H1 => ∃ c, x = .bl c ∧ if c = true then Q (.bl true) H1 else tb σ H1 Q
def tNotV (ta : TE) : TE := fun σ H Q => ta σ H fun x H1 => ∃ c, x = .bl c ∧ Q (.bl (!c)) H1
theorem pe_one {op} {t : TE} (h : PE X a t) : PE X (.BoolOp op [a] pos) t := fun pins s σ H Q I hw => BoolOp_one (h pins s σ H Q I hw)
theorem pe_and (ha : PE X a ta) (hb : PE X (.BoolOp .And (b :: rest) pos) tb) : PE X (.BoolOp .And (a :: b :: rest) pos) (tAndV ta tb) := by
  intro pins s σ H Q I h
  refine BoolOp_and (thn (ha pins s σ H _ I h) fun v s1 ⟨x, H1, I1, r1, q1⟩ => ?_)
  obtain ⟨c, rfl, q1⟩ := q1
  cases r1
  refine wpAny_truthy_bool ?_
  cases c with
  | true => exact hb pins s1 σ H1 Q I1 q1
  | false => exact ⟨.bl false, H1, I1, rfl, q1⟩
theorem pe_or (ha : PE X a ta) (hb : PE X (.BoolOp .Or (b :: rest) pos) tb) : PE X (.BoolOp .Or (a :: b :: rest) pos) (tOrV ta tb) := by
  intro pins s σ H Q I h
  refine BoolOp_or (thn (ha pins s σ H _ I h) fun v s1 ⟨x, H1, I1, r1, q1⟩ => ?_)
  obtain ⟨c, rfl, q1⟩ := q1
  cases r1
  refine wpAny_truthy_bool ?_
  cases c with
  | false => exact hb pins s1 σ H1 Q I1 q1
  | true => exact ⟨.bl true, H1, I1, rfl, q1⟩
theorem pe_not (ha : PE X a ta) : PE X (.UnaryOp .Not a pos) (tNotV ta) := by
  intro pins s σ H Q I h
  refine UnaryOp_ (thn (ha pins s σ H _ I h) fun v s1 ⟨x, H1, I1, r1, q1⟩ => ?_)
  obtain ⟨c, rfl, q1⟩ := q1
  cases r1
  exact not_of (wpAny_truthy_bool ⟨.bl (!c), H1, I1, rfl, q1⟩)
end
end L2

namespace L2
open PySem PySem.Spec PyProof.Rows

/-! ### a list, a tuple that is read: tracked, frozen, or an object of the module -/
def SqL (K : PySem.W.Frag) (H : Hp) (a : Addr) (xs : List V) : Prop :=
  Rd H a (.lst xs) ∨
    ∃ (o : Obj) (its : Array Value) (n : Nat), K.lookup a = some o ∧ o.cls = .type "list" ∧ o.dict = none ∧ o.data = .seq its n ∧ its.size ≤ sizeLine ∧ Vals xs its.toList
def SqT (K : PySem.W.Frag) (H : Hp) (a : Addr) (xs : List V) : Prop :=
  Rd H a (.tup xs) ∨
    ∃ (o : Obj) (its : Array Value) (n : Nat), K.lookup a = some o ∧ o.cls = .type "tuple" ∧ o.data = .seq its n ∧ its.size ≤ sizeLine ∧ Vals xs its.toList
def absV : Value → Option V
  | .none => some .non
  | .bool b => some (.bl b)
  | .int i _ => some (.int i)
  | .str x _ => some (.str x)
  | .bytes b _ => some (.byt b)
  | .float b _ => some (.flt b)
  | .ref a => some (.ref a)
  | .type n => some (.ty n)
  | _ => none
theorem RelV.abs {x : V} {u : Value} (r : RelV x u) : absV u = some x := by
  cases x with
  | non => cases r; rfl
  | bl _ => cases r; rfl
  | int _ => obtain ⟨t, rfl⟩ := r; rfl
  | str _ => obtain ⟨t, rfl⟩ := r; rfl
  | byt _ => obtain ⟨t, rfl⟩ := r; rfl
  | flt _ => obtain ⟨t, rfl⟩ := r; rfl
  | ref _ => cases r; rfl
  | ty _ => cases r; rfl
theorem RelV.inj {x y : V} {u : Value} (r : RelV x u) (q : RelV y u) : x = y := Option.some.inj (r.abs.symm.trans q.abs)
theorem Vals.inj : ∀ {xs ys : List V} {us : List Value}, Vals xs us → Vals ys us → xs = ys
  | _, _, _, .nil, .nil => rfl
  | _, _, _, .cons r t, .cons r' t' => by rw [r.inj r', Vals.inj t t']
section
variable {X : Cx} {pins : List (Addr × Obj)} {σ : St} {H : Hp} {s : Shared} {a : Addr} {xs ys : List V}
theorem SqL.of {K : PySem.W.Frag} (h : H a = some (.lst xs)) : SqL K H a xs := .inl (.inl h)
theorem SqT.of {K : PySem.W.Frag} (h : H a = some (.tup xs)) : SqT K H a xs := .inl (.inl h)
theorem Inv.list (I : Inv X pins σ H s) (h : SqL X.K H a xs) : ∃ its : List Value, Vals xs its ∧ PlainL s.heap a its.toArray ∧ xs.length ≤ sizeLine := by
  rcases h with h | ⟨o, its, n, hk, hc, hd, hs, hz, r⟩
  · obtain ⟨z, its, n, r, e⟩ := h.ok I.hok
    exact ⟨its, r, ⟨_, n, e, rfl, rfl, rfl⟩, z⟩
  · refine ⟨its.toList, r, ⟨o, n, I.kIn a o hk, hc, hd, by simpa using hs⟩, ?_⟩
    have e := r.length
    simp only [Array.length_toList] at e
    lia
theorem Inv.tuple (I : Inv X pins σ H s) (h : SqT X.K H a xs) : ∃ its : List Value, Vals xs its ∧ IsTup s.heap a its.toArray ∧ xs.length ≤ sizeLine := by
  rcases h with h | ⟨o, its, n, hk, hc, hs, hz, r⟩
  · obtain ⟨z, its, r, p⟩ := h.ok I.hok
    exact ⟨its, r, p, z⟩
  · refine ⟨its.toList, r, ⟨o, I.kIn a o hk, hc, n, by simpa using hs⟩, ?_⟩
    have e := r.length
    simp only [Array.length_toList] at e
    lia
theorem Inv.list_inj (I : Inv X pins σ H s) (h : SqL X.K H a xs) (h' : SqL X.K H a ys) : xs = ys := by
  obtain ⟨its, r, ⟨o, n, e, _, _, d⟩, _⟩ := I.list h
  obtain ⟨its', r', ⟨o', n', e', _, _, d'⟩, _⟩ := I.list h'
  rw [e] at e'; cases e'
  rw [d] at d'
  injection d' with d1 _
  have : its = its' := by simpa using congrArg Array.toList d1
  subst this
  exact r.inj r'
theorem Inv.tuple_inj (I : Inv X pins σ H s) (h : SqT X.K H a xs) (h' : SqT X.K H a ys) : xs = ys := by
  obtain ⟨its, r, ⟨o, e, _, n, d⟩, _⟩ := I.tuple h
  obtain ⟨its', r', ⟨o', e', _, n', d'⟩, _⟩ := I.tuple h'
  rw [e] at e'; cases e'
  rw [d] at d'
  injection d' with d1 _
  have : its = its' := by simpa using congrArg Array.toList d1
  subst this
  exact r.inj r'
end

/-! ### another wish about exceptions -/
abbrev Cx.wish (X : Cx) (E : Value → Shared → Prop) : Cx := { X with xe := E }
/-- no exception leaves -/
abbrev Cx.nox (X : Cx) : Cx := X.wish fun _ _ => False
theorem Cx.Ok.wish {X : Cx} (ok : X.Ok) (E : Value → Shared → Prop) : (X.wish E).Ok :=
  ⟨ok.mod, ok.kind, ok.glob, ok.blt, ok.above, ok.inj, ok.has, ok.cab, ok.hd, ok.frames, ok.stk, ok.exf, ok.bs, ok.bsz, ok.noex, ok.exfs, ok.funs, ok.frf⟩
theorem Cx.Ok.unwish {X : Cx} {E : Value → Shared → Prop} (ok : (X.wish E).Ok) : X.Ok :=
  ⟨ok.mod, ok.kind, ok.glob, ok.blt, ok.above, ok.inj, ok.has, ok.cab, ok.hd, ok.frames, ok.stk, ok.exf, ok.bs, ok.bsz, ok.noex, ok.exfs, ok.funs, ok.frf⟩
section
variable {X : Cx} {pins : List (Addr × Obj)} {σ : St} {H : Hp} {s : Shared} {E : Value → Shared → Prop}
theorem Inv.wish (I : Inv X pins σ H s) (E : Value → Shared → Prop) : Inv (X.wish E) pins σ H s := ⟨I.ok.wish E, I.os, I.bare, I.base, I.loc, I.cell, I.free, I.freeC, I.pin, I.hok, I.len⟩
theorem Inv.unwish (I : Inv (X.wish E) pins σ H s) : Inv X pins σ H s := ⟨I.ok.unwish, I.os, I.bare, I.base, I.loc, I.cell, I.free, I.freeC, I.pin, I.hok, I.len⟩
theorem SP.unwish {D : Ends} {f : Flow} {s' : Shared} (h : SP (X.wish E) pins D f s') : SP X pins D f s' := by
  cases f with
  | next => obtain ⟨σ', H', I, q⟩ := h; exact ⟨σ', H', I.unwish, q⟩
  | brk => obtain ⟨σ', H', I, q⟩ := h; exact ⟨σ', H', I.unwish, q⟩
  | cont => obtain ⟨σ', H', I, q⟩ := h; exact ⟨σ', H', I.unwish, q⟩
  | ret u => obtain ⟨v, σ', H', I, r, q⟩ := h; exact ⟨v, σ', H', I.unwish, r, q⟩
theorem PSs.nox {st : List Stmt} {t : TS} (h : PSs X.nox st t) : PSs X st t := fun pins s σ H D I hw =>
  wpAny_mono (h pins s σ H D (I.wish _) hw) (fun _ _ q => q.unwish) fun _ _ z => False.elim z
end

/-! ### blocks and small statements -/
section
variable {X : Cx} {st : Stmt} {rest : List Stmt} {t u : TS} {e : Expr} {te : TE} {pos : Pos}
def tNext : TS := fun D σ H => D.nx σ H
def tSeq (t u : TS) : TS := fun D σ H => t { D with nx := u D } σ H
theorem pss_nil : PSs X [] tNext := fun _ _ σ H _ I h => wpAny_execs_nil ⟨σ, H, I, h⟩
theorem pss_cons (h1 : PS X st t) (h2 : PSs X rest u) : PSs X (st :: rest) (tSeq t u) := by
  intro pins s σ H D I h
  refine wpAny_execs_cons (thn (h1 pins s σ H { D with nx := u D } I h) fun f s1 q => ?_)
  cases f with
  | next =>
    obtain ⟨σ', H', I', q⟩ := q
    exact h2 pins s1 σ' H' D I' q
  | ret v => exact q
  | brk => exact q
  | cont => exact q
theorem pss_one (h1 : PS X st t) : PSs X [st] t := by
  intro pins s σ H D I h
  refine wpAny_execs_cons (thn (h1 pins s σ H D I h) fun f s1 q => ?_)
  cases f with
  | next => exact wpAny_execs_nil q
  | ret v => exact q
  | brk => exact q
  | cont => exact q
/-- in a def's body nothing is shown -/
theorem Inv.quiet {pins : List (Addr × Obj)} {σ : St} {H : Hp} {s : Shared} (I : Inv X pins σ H s) : interactive X.env = false := by simp [interactive, I.ok.kind]
/-- an expression whose value is dropped -/
def tDrop (te : TE) : TS := fun D σ H => te σ H fun _ H1 => D.nx σ H1
theorem ps_expr (he : PE X e te) (hs : swapsWith e none pos.line X.env = pure false := by rfl) : PS X (.Expr e pos) (tDrop te) := by
  intro pins s σ H D I h
  exact wpAny_Expr_any (thn (he pins s σ H _ I h) fun v s1 ⟨x, H1, I1, r1, q1⟩ => ⟨σ, H1, I1, q1⟩) I.quiet hs
def tRet (te : TE) : TS := fun D σ H => te σ H D.rt
theorem ps_ret (he : PE X e te) : PS X (.Return (some e) pos) (tRet te) := by
  intro pins s σ H D I h
  exact wpAny_Return_some (thn (he pins s σ H _ I h) fun v s1 ⟨x, H1, I1, r1, q1⟩ => ⟨x, σ, H1, I1, r1, q1⟩)
def tIfS (c : TT) (t u : TS) : TS := fun D σ H => c σ H fun b H1 => if b = true then t D σ H1 else u D σ H1
theorem ps_if {c : Expr} {a b : List Stmt} {tc : TT} (hc : PT X c tc) (ha : PSs X a t) (hb : PSs X b u) : PS X (.If c a b pos) (tIfS tc t u) := by
  intro pins s σ H D I h
  refine wpAny_If (thn (hc pins s σ H _ I h) fun d s1 ⟨H1, I1, q1⟩ => ?_)
  cases d with
  | true => exact ha pins s1 σ H1 D I1 q1
  | false => exact hb pins s1 σ H1 D I1 q1
/-- code that the proof never comes to -/
def tNever : TS := fun _ _ _ => False
theorem ps_never : PS X st tNever := fun _ _ _ _ _ _ h => h.elim
end

/-! ### targets -/
abbrev TG := V → St → Hp → (St → Hp → Prop) → Prop
abbrev TGs := List V → St → Hp → (St → Hp → Prop) → Prop
def PG (X : Cx) (target : Expr) (t : TG) : Prop :=
  ∀ (pins : List (Addr × Obj)) (s : Shared) (σ : St) (H : Hp) (v : V) (u : Value) (Q : St → Hp → Prop), Inv X pins σ H s → RelV v u → t v σ H Q →
    wpAny (model X.prog X.w) X.A (assign target X.env u) (fun _ s' => ∃ σ' H', Inv X pins σ' H' s' ∧ Q σ' H') X.xe s
/-- several targets, one after another -/
def PGs (X : Cx) (ts : List Expr) (t : TGs) : Prop :=
  ∀ (pins : List (Addr × Obj)) (s : Shared) (σ : St) (H : Hp) (vs : List V) (us : List Value) (Q : St → Hp → Prop), Inv X pins σ H s → Vals vs us → t vs σ H Q →
    wpAny (model X.prog X.w) X.A (assignInOrder ((assignEach ts X.env).map (·.2)) us) (fun _ s' => ∃ σ' H', Inv X pins σ' H' s' ∧ Q σ' H') X.xe s
section
variable {X : Cx} {pos : Pos}
def gName (i : Nat) : TG := fun v σ H Q => Q (σ.set i (some v)) H
theorem pg_name {i : Nat} {x : Str} (hN : X.N.Nodup) (hi : X.N[i]? = some x) (hx : Loc X.env.scope x) (hf : X.fn x = true ∨ X.env.scope.names.lookup x = some .local := by first | exact .inl rfl | exact .inr rfl | assumption) : PG X (.Name x pos) (gName i) := by
  intro pins s σ H v u Q I r h
  exact wpAny_assign_Name (store_ok I hN hi hx r (fun s' I' => ⟨_, H, I', h⟩) hf)
def gNil : TGs := fun vs σ H Q => vs = [] ∧ Q σ H
def gCons (t : TG) (u : TGs) : TGs := fun vs σ H Q => ∃ v r, vs = v :: r ∧ t v σ H fun σ' H' => u r σ' H' Q
theorem pgs_nil : PGs X [] gNil := by
  intro pins s σ H vs us Q I r h
  obtain ⟨e, h⟩ := h
  subst e
  cases r
  exact assignInOrder_nil ⟨σ, H, I, h⟩
theorem pgs_cons {e : Expr} {es : List Expr} {t : TG} {u : TGs} (h1 : PG X e t) (h2 : PGs X es u)
    (hs : (assignEach (e :: es) X.env).map (·.2) = assign e X.env :: (assignEach es X.env).map (·.2) := by rfl) : PGs X (e :: es) (gCons t u) := by
  intro pins s σ H vs us Q I r h
  obtain ⟨v, vr, e1, h⟩ := h
  subst e1
  cases r with
  | cons r rr =>
    rw [hs]
    refine assignInOrder_cons (thn (h1 pins s σ H _ _ _ I r h) fun _ s1 ⟨σ1, H1, I1, q1⟩ => ?_)
    exact h2 pins s1 σ1 H1 _ _ Q I1 rr q1
/-- (a, b, ..) = a tuple of that length -/
def gTup (K : PySem.W.Frag) (n : Nat) (t : TGs) : TG := fun v σ H Q => ∃ a xs, v = .ref a ∧ SqT K H a xs ∧ xs.length = n ∧ t xs σ H Q
theorem pg_tup {es : List Expr} {k : Nat} {t : TGs} {n : Nat} (hc : X.calm = true) (h : PGs X es t)
    (hn : (assignEach es X.env).length = n := by rfl) (hst : (assignEach es X.env).findIdx? (·.1) = none := by rfl) : PG X (.Tuple es k pos) (gTup X.K n t) := by
  intro pins s σ H v u Q I r hw
  obtain ⟨a, xs, e1, hq, hl, hw⟩ := hw
  subst e1
  cases r
  obtain ⟨its, rv, ht, hz⟩ := I.tuple hq
  refine assign_Tuple_tuple (I.ok.hd hc) ht (by simp [hn, ← hl, rv.length]) hst fun h' hx => ?_
  have I1 : Inv X pins σ H { s with heap := h' } := I.kept (t' := s.toks) fun b o e => hx b o (Nat.ne_of_lt (Heap.lt_size e)) e
  exact h pins _ σ H xs _ Q I1 (by simpa using rv) hw
/-- target = value -/
def tAsg (te : TE) (g : TG) : TS := fun D σ H => te σ H fun x H1 => g x σ H1 D.nx
/-- name = value -/
theorem ps_set {i : Nat} {x : Str} {e : Expr} {te : TE} {pos' : Pos} (hN : X.N.Nodup) (hi : X.N[i]? = some x) (hx : Loc X.env.scope x) (he : PE X e te) (hs : swapsWith e (some (.Name x pos')) pos.line X.env = pure false := by rfl) (hf : X.fn x = true ∨ X.env.scope.names.lookup x = some .local := by first | exact .inl rfl | exact .inr rfl | assumption) :
    PS X (.Assign [.Name x pos'] e pos) (tAsg te (gName i)) := by
  intro pins s σ H D I h
  refine wpAny_Assign_Name (thn (he pins s σ H _ I h) fun v s1 ⟨y, H1, I1, r1, q1⟩ => ?_) hs
  exact store_ok I1 hN hi hx r1 (fun s2 I2 => ⟨_, H1, I2, q1⟩) hf
end

/-! ### while -/
section
variable {X : Cx} {pos : Pos}
end

/-! ### what a loop or a comprehension walks -/
/-- at turn i: it yields x (the heap may grow), or it stops -/
structure It where
  go : Nat → Hp → Prop
  yld : Nat → Hp → V → Hp → Prop
  stop : Nat → Hp → Prop
/-- the iterator's own objects may turn: they are not the frame's, not pinned, younger than the entry (or a comprehension's own) -/
def FpOk (X : Cx) (pins : List (Addr × Obj)) (H : Hp) (b : Addr) : Prop :=
  H b = none ∧ b ≠ X.env.locals ∧ b ∉ X.fs ∧ (b ∈ X.ex ∨ X.s₀.heap.objs.size ≤ b) ∧ (∀ x c, X.env.cells.lookup x = some c → c ≠ b) ∧ ∀ p ∈ X.pn ++ pins, p.1 ≠ b
theorem Inv.fpOk {X : Cx} {pins : List (Addr × Obj)} {σ : St} {H H' : Hp} {s : Shared} {b : Addr} (I : Inv X pins σ H s) (hb : s.heap.objs.size ≤ b) (hn : H' b = none) : FpOk X pins H' b := by
  refine ⟨hn, Nat.ne_of_gt (Nat.lt_of_lt_of_le I.lt hb), I.nofs hb, .inr (Nat.le_trans I.sz hb), fun x c e z => ?_, fun p hp z => ?_⟩
  · obtain ⟨v, q⟩ := I.cell x c e
    exact absurd (Nat.lt_of_lt_of_le q.lt (by rw [z]; exact hb)) (Nat.lt_irrefl _)
  · exact absurd (Nat.lt_of_lt_of_le (Heap.lt_size (I.pin p hp).1) (by rw [z]; exact hb)) (Nat.lt_irrefl _)
structure Turn (P : Program) (w : World) (K : PySem.W.Frag) (tg : Expr) (J : It) (fp : List Addr) (it : Addr) (tn : Nat → Heap → Prop) : Prop where
  mem : it ∈ fp
  obj : ∀ i h, tn i h → ∀ b ∈ fp, ∃ o, h.get? b = some o ∧ ∀ v, o.data ≠ .cell v
  keep : ∀ i h h', tn i h → (∀ b ∈ fp, ∀ o, h.get? b = some o → h'.get? b = some o) → tn i h'
  item : ∀ (X : Cx), X.prog = P → X.w = w → X.K = K → X.calm = true → ∀ (i : Nat) (pins : List (Addr × Obj)) (s : Shared) (σ : St) (H : Hp) (E : Value → Shared → Prop), Inv X pins σ H s → (∀ b ∈ fp, FpOk X pins H b) → tn i s.heap → J.go i H →
    wpAny (model P w) X.A (pyNext (.ref it)) (fun r s1 => ∃ u, r = some u ∧
      wpAny (model P w) X.A (letOwnedTupleGo tg (.ref it) u) (fun _ s2 => ∃ x H', Inv X pins σ H' s2 ∧ RelV x u ∧ J.yld i H x H' ∧ tn (i + 1) s2.heap ∧ ∀ b ∈ fp, H' b = none) E s1) E s
  done : ∀ (X : Cx), X.prog = P → X.w = w → X.K = K → X.calm = true → ∀ (i : Nat) (pins : List (Addr × Obj)) (s : Shared) (σ : St) (H : Hp) (E : Value → Shared → Prop), Inv X pins σ H s → (∀ b ∈ fp, FpOk X pins H b) → tn i s.heap → J.stop i H →
    wpAny (model P w) X.A (pyNext (.ref it)) (fun r s1 => r = none ∧ Inv X pins σ H s1) E s
  self : ∀ (A : Around) (i : Nat) (s : Shared) (Q : Value → Shared → Prop) (E : Value → Shared → Prop), tn i s.heap → Q (.ref it) s → wpAny (model P w) A (pyIter (.ref it)) Q E s
abbrev TI := St → Hp → (It → Hp → Prop) → Prop
/-- an iterator has come -/
def PIE (X : Cx) (pins : List (Addr × Obj)) (σ : St) (tg : Expr) (R : It → Hp → Prop) (itv : Value) (s2 : Shared) : Prop :=
  ∃ (it : Addr) (fp : List Addr) (tn : Nat → Heap → Prop) (J : It) (H' : Hp), itv = .ref it ∧ Inv X pins σ H' s2 ∧ Turn X.prog X.w X.K tg J fp it tn ∧ tn 0 s2.heap ∧ (∀ b ∈ fp, FpOk X pins H' b) ∧ R J H'
def PI (X : Cx) (tg iter : Expr) (wi : TI) : Prop :=
  ∀ (pins : List (Addr × Obj)) (s : Shared) (σ : St) (H : Hp) (R : It → Hp → Prop), Inv X pins σ H s → wi σ H R →
    wpAny (model X.prog X.w) X.A (eval iter X.env) (fun v s1 => wpAny (model X.prog X.w) X.A (pyIter v) (PIE X pins σ tg R) X.xe s1) X.xe s

/-- the step ahead of the store is nothing for an iterator that keeps no tuple -/
theorem go_of {M : Model} {A : Around} {E : Value → Shared → Prop} {s : Shared} {tg : Expr} {it : Addr} {u : Value} {o : Obj} {n : String} {vs : Array Value} {Q : Unit → Shared → Prop} (ho : s.heap.get? it = some o) (hc : o.cls = .type n) (hd : o.data = .fields vs)
    (hn : ["enumerate", "zip", "dict_itemiterator", "dict_reverseitemiterator", "odict_iterator", "itertools.zip_longest", "itertools.pairwise"].contains n = false) (hQ : Q () s) : wpAny M A (letOwnedTupleGo tg (.ref it) u) Q E s := by
  unfold letOwnedTupleGo
  cases tg <;> first
    | exact wpAny_pure hQ
    | (cases u <;> first
        | exact wpAny_pure hQ
        | (refine wpAny_bind (wpAny_load ho ?_)
           rw [hc, hd]
           show wpAny M A (if (["enumerate", "zip", "dict_itemiterator", "dict_reverseitemiterator", "odict_iterator", "itertools.zip_longest", "itertools.pairwise"].contains n && vs[0]? == some (rawInt _)) = true then _ else _) Q E s
           rw [if_neg (by intro h; rw [hn, Bool.false_and] at h; cases h)]
           exact wpAny_pure hQ))

/-- the list at a, as it stands at each turn (a loop may append to it) -/
def Itl (K : PySem.W.Frag) (a : Addr) : It :=
  ⟨fun i H => ∃ xs x, SqL K H a xs ∧ xs[i]? = some x, fun i H x H' => H' = H ∧ ∀ xs, SqL K H a xs → xs[i]? = some x, fun i H => ∃ xs, SqL K H a xs ∧ xs.length ≤ i⟩
def Itt (K : PySem.W.Frag) (a : Addr) : It :=
  ⟨fun i H => ∃ xs x, SqT K H a xs ∧ xs[i]? = some x, fun i H x H' => H' = H ∧ ∀ xs, SqT K H a xs → xs[i]? = some x, fun i H => ∃ xs, SqT K H a xs ∧ xs.length ≤ i⟩
/-- lo, lo + 1, .. (n of them) -/
def Itr (lo : Int) (n : Nat) : It := ⟨fun i _ => i < n, fun i H x H' => H' = H ∧ x = .int (lo + i), fun i _ => n ≤ i⟩
theorem turn_list {P : Program} {w : World} {K : PySem.W.Frag} {tg : Expr} (a it : Addr) : Turn P w K tg (Itl K a) [it] it (fun i h => h.IsListIter it a i) where
  mem := by simp
  obj := fun i h st b hb => by
    have e : b = it := by simpa using hb
    subst e
    obtain ⟨o, e, c, d⟩ := st
    exact ⟨o, e, fun v z => by rw [d] at z; cases z⟩
  keep := fun i h h' st k => st.at fun o e => k it (by simp) o e
  item := by
    intro X hP hw hK hc i pins s σ H E I hf st hg
    subst hP hw hK
    obtain ⟨xs, x, hq, hx⟩ := hg
    obtain ⟨its, rv, p, hz⟩ := I.list hq
    obtain ⟨u, hu, ru⟩ := rv.get hx
    obtain ⟨f0, f1, f2, f3, f4, f5⟩ := hf it (by simp)
    refine wpAny_pyNext_list_item st p.isList (x := u) (by simpa using hu) fun h' st' sb => ?_
    have I1 : Inv X pins σ H { s with heap := h' } := I.turned (t' := s.toks) (fun b o hb e => (sb.2 b hb).trans e) f0 f1 f3 f4 f5
    obtain ⟨o, e, c, d⟩ := id st'
    exact ⟨u, rfl, go_of (s := { s with heap := h' }) e c d (by decide) ⟨x, H, I1, ru, ⟨rfl, fun ys hy => by rw [I.list_inj hy hq]; exact hx⟩, st', fun b hb => (hf b hb).1⟩⟩
  done := by
    intro X hP hw hK hc i pins s σ H E I hf st hg
    subst hP hw hK
    obtain ⟨xs, hq, hx⟩ := hg
    obtain ⟨its, rv, p, hz⟩ := I.list hq
    obtain ⟨f0, f1, f2, f3, f4, f5⟩ := hf it (by simp)
    have hl := rv.length
    exact wpAny_pyNext_list_end (I.ok.hd hc) st p.isList (by simp; lia) fun h' eb => ⟨rfl, I.turned (t' := s.toks) (fun b o hb e => eb b o hb e) f0 f1 f3 f4 f5⟩
  self := fun _ _ _ _ _ st h => wpAny_pyIter_listiter st h
theorem turn_tuple {P : Program} {w : World} {K : PySem.W.Frag} {tg : Expr} (a it : Addr) : Turn P w K tg (Itt K a) [it] it (fun i h => h.IsTupleIter it a i) where
  mem := by simp
  obj := fun i h st b hb => by
    have e : b = it := by simpa using hb
    subst e
    obtain ⟨o, e, c, d⟩ := st
    exact ⟨o, e, fun v z => by rw [d] at z; cases z⟩
  keep := fun i h h' st k => st.at fun o e => k it (by simp) o e
  item := by
    intro X hP hw hK hc i pins s σ H E I hf st hg
    subst hP hw hK
    obtain ⟨xs, x, hq, hx⟩ := hg
    obtain ⟨its, rv, p, hz⟩ := I.tuple hq
    obtain ⟨u, hu, ru⟩ := rv.get hx
    obtain ⟨f0, f1, f2, f3, f4, f5⟩ := hf it (by simp)
    refine wpAny_pyNext_tuple_item st (show s.heap.IsTuple a its.toArray from p) (x := u) (by simpa using hu) fun h' st' sb => ?_
    have I1 : Inv X pins σ H { s with heap := h' } := I.turned (t' := s.toks) (fun b o hb e => (sb.2 b hb).trans e) f0 f1 f3 f4 f5
    obtain ⟨o, e, c, d⟩ := id st'
    exact ⟨u, rfl, go_of (s := { s with heap := h' }) e c d (by decide) ⟨x, H, I1, ru, ⟨rfl, fun ys hy => by rw [I.tuple_inj hy hq]; exact hx⟩, st', fun b hb => (hf b hb).1⟩⟩
  done := by
    intro X hP hw hK hc i pins s σ H E I hf st hg
    subst hP hw hK
    obtain ⟨xs, hq, hx⟩ := hg
    obtain ⟨its, rv, p, hz⟩ := I.tuple hq
    obtain ⟨f0, f1, f2, f3, f4, f5⟩ := hf it (by simp)
    have hl := rv.length
    exact wpAny_pyNext_tuple_end (I.ok.hd hc) st (show s.heap.IsTuple a its.toArray from p) (by simp; lia) fun h' eb => ⟨rfl, I.turned (t' := s.toks) (fun b o hb e => eb b o hb e) f0 f1 f3 f4 f5⟩
  self := fun _ _ _ _ _ st h => wpAny_pyIter_tupleiter st h
theorem turn_range {P : Program} {w : World} {K : PySem.W.Frag} {tg : Expr} (it : Addr) (lo : Int) (n : Nat) : Turn P w K tg (Itr lo n) [it] it (fun i h => IsRangeIter h it (lo + (i : Nat) * 1) ((n : Int) - (i : Nat)) 1) where
  mem := by simp
  obj := fun i h st b hb => by
    have e : b = it := by simpa using hb
    subst e
    exact ⟨_, st, fun v z => by
      have z' : Data.fields _ = Data.cell v := z
      cases z'⟩
  keep := fun i h h' st k => k it (by simp) _ st
  item := by
    intro X hP hw hK hc i pins s σ H E I hf st hg
    subst hP hw hK
    obtain ⟨f0, f1, f2, f3, f4, f5⟩ := hf it (by simp)
    have W := Walks.range (prog := X.prog) (w := X.w) (I.ok.hd hc) it lo 1 n
    refine W.item i s _ _ hg st fun v h' tk hv st' kk => ?_
    obtain ⟨t, rfl⟩ := hv
    have I1 : Inv X pins σ H { s with heap := h', toks := tk } := I.turned (fun b o hb e => kk b o (by simpa using hb) e) f0 f1 f3 f4 f5
    refine ⟨_, rfl, go_of (s := { s with heap := h', toks := tk }) (n := "range_iterator") st' rfl rfl (by decide) ⟨.int (lo + i), H, I1, ⟨t, ?_⟩, ⟨rfl, rfl⟩, st', fun b hb => (hf b hb).1⟩⟩
    rw [Int.mul_one]
  done := by
    intro X hP hw hK hc i pins s σ H E I hf st hg
    subst hP hw hK
    obtain ⟨f0, f1, f2, f3, f4, f5⟩ := hf it (by simp)
    exact wpAny_pyNext_range_end (I.ok.hd hc) st (by have : n ≤ i := hg; lia) fun h' eb => ⟨rfl, I.turned (t' := s.toks) (fun b o hb e => eb b o hb e) f0 f1 f3 f4 f5⟩
  self := fun _ _ _ _ _ st h => wpAny_pyIter_rangeiter st h
end L2

namespace L2
open PySem PySem.Spec PyProof.Rows
section
variable {X : Cx} {tg : Expr}
def iList (K : PySem.W.Frag) (tl : TE) : TI := fun σ H R => tl σ H fun x H1 => ∃ a, x = .ref a ∧ (∃ xs, SqL K H1 a xs) ∧ R (Itl K a) H1
def iTup (K : PySem.W.Frag) (tl : TE) : TI := fun σ H R => tl σ H fun x H1 => ∃ a, x = .ref a ∧ (∃ xs, SqT K H1 a xs) ∧ R (Itt K a) H1
theorem pi_list {l : Expr} {tl : TE} (hl : PE X l tl) : PI X tg l (iList X.K tl) := by
  intro pins s σ H R I h
  refine thn (hl pins s σ H _ I h) fun v s1 ⟨x, H1, I1, r1, q1⟩ => ?_
  obtain ⟨a, e, ⟨xs, hq⟩, q⟩ := q1
  subst e
  cases r1
  obtain ⟨its, rv, p, hz⟩ := I1.list hq
  refine wpAny_pyIter_list p.isList ?_
  refine ⟨s1.heap.objs.size, [s1.heap.objs.size], _, _, H1, rfl, I1.kept (t' := s1.toks) fun b o e => Heap.get?_push_of_some _ e, turn_list a _, ⟨_, Heap.get?_push_size _ rfl, rfl, rfl⟩, fun b hb => ?_, q⟩
  have e : b = s1.heap.objs.size := by simpa using hb
  subst e
  exact I1.fpOk (Nat.le_refl _) (I1.hok.fresh (Nat.le_refl _))
theorem pi_tup {l : Expr} {tl : TE} (hl : PE X l tl) : PI X tg l (iTup X.K tl) := by
  intro pins s σ H R I h
  refine thn (hl pins s σ H _ I h) fun v s1 ⟨x, H1, I1, r1, q1⟩ => ?_
  obtain ⟨a, e, ⟨xs, hq⟩, q⟩ := q1
  subst e
  cases r1
  obtain ⟨its, rv, p, hz⟩ := I1.tuple hq
  refine wpAny_pyIter_tuple (show s1.heap.IsTuple a its.toArray from p) ?_
  refine ⟨s1.heap.objs.size, [s1.heap.objs.size], _, _, H1, rfl, I1.kept (t' := s1.toks) fun b o e => Heap.get?_push_of_some _ e, turn_tuple a _, ⟨_, Heap.get?_push_size _ rfl, rfl, rfl⟩, fun b hb => ?_, q⟩
  have e : b = s1.heap.objs.size := by simpa using hb
  subst e
  exact I1.fpOk (Nat.le_refl _) (I1.hok.fresh (Nat.le_refl _))
/-- a range object just made, walked -/
theorem range_it {pins : List (Addr × Obj)} {σ : St} {H : Hp} {s : Shared} {R : It → Hp → Prop} {E : Value → Shared → Prop} {lo hi : Int} {t u v : Tok} {tk : Nat} (I : Inv X pins σ H s) (h1 : -(2 ^ 62) ≤ lo) (h2 : lo < 2 ^ 62) (h3 : -(2 ^ 62) ≤ hi) (h4 : hi < 2 ^ 62)
    (q : R (Itr lo (hi - lo).toNat) H) : wpAny (model X.prog X.w) X.A (pyIter (.ref s.heap.objs.size)) (PIE X pins σ tg R) E { s with heap := s.heap.push { cls := .type "range", data := .fields #[.int lo t, .int hi u, .int 1 v] }, toks := tk } := by
  refine wpAny_pyIter_range (IsRange.new ..) (small_one h1 h2 h3 h4) ?_
  have I1 : Inv X pins σ H { s with heap := s.heap.push { cls := .type "range", data := .fields #[.int lo t, .int hi u, .int 1 v] }, toks := tk } := I.kept fun b o e => Heap.get?_push_of_some _ e
  refine ⟨(s.heap.push { cls := .type "range", data := .fields #[.int lo t, .int hi u, .int 1 v] }).objs.size, [(s.heap.push { cls := .type "range", data := .fields #[.int lo t, .int hi u, .int 1 v] }).objs.size], _, _, H, rfl,
    I1.kept (t' := tk) fun b o e => Heap.get?_push_of_some _ e, turn_range _ lo (hi - lo).toNat, ?_, fun b hb => ?_, q⟩
  · have e1 : lo + ((0 : Nat) : Int) * 1 = lo := by simp
    have e2 : (((hi - lo).toNat : Nat) : Int) - ((0 : Nat) : Int) = Builtin.Range.rangeSize lo hi 1 := by rw [rangeSize_one]; split <;> lia
    show IsRangeIter _ _ (lo + ((0 : Nat) : Int) * 1) ((((hi - lo).toNat : Nat) : Int) - ((0 : Nat) : Int)) 1
    rw [e1, e2]
    exact Heap.get?_push_size _ rfl
  · have e : b = (s.heap.push { cls := .type "range", data := .fields #[.int lo t, .int hi u, .int 1 v] }).objs.size := by simpa using hb
    subst e
    exact I1.fpOk (Nat.le_refl _) (I1.hok.fresh (Nat.le_refl _))
def iRng1 (ta : TA) : TI := fun σ H R => ta σ H fun vs H1 => ∃ j : Int, vs = [.int j] ∧ -(2 ^ 62) ≤ j ∧ j < 2 ^ 62 ∧ R (Itr 0 j.toNat) H1
theorem pi_range1 {a : Expr} {ta : TA} {p pos : Pos} (hg : Gl X "range") (hm : X.mg "range" = none) (ha : PA X [a] ta) (hs : starEach [a] X.env = [(false, eval a X.env)] := by rfl) : PI X tg (.Call (.Name "range" p) [a] [] pos) (iRng1 ta) := by
  intro pins s σ H R I h
  refine Call_ (ld_blt I hg hm boot_range (PyProof.Rows.callWith_type1 (thn (ha pos pins s σ H _ I h) fun us s1 ⟨vs, H1, I1, r1, q1⟩ => ?_) hs rfl))
  obtain ⟨j, e, q1, q2, q⟩ := q1
  subst e
  cases r1 with
  | cons r rr =>
    cases rr
    obtain ⟨t, rfl⟩ := r
    exact call_range_1 (range_it I1 (by lia) (by lia) q1 q2 (by simpa using q))
/-! ### for -/
/-- W: the invariant by the turn and a measure; N: what the body is to reach -/
def tFor (wi : TI) (g : TG) (tb : TS) : TS := fun D σ H => wi σ H fun J H1 => ∃ W : Nat → Nat → St → Hp → Prop, (∃ m, W 0 m σ H1) ∧ ∀ i m σ H, W i m σ H →
  (J.stop i H ∧ D.nx σ H) ∨ (J.go i H ∧ ∃ N : St → Hp → Prop, (∀ σ' H', N σ' H' → ∃ m', m' < m ∧ W (i + 1) m' σ' H') ∧ ∀ x H', J.yld i H x H' → g x σ H' fun σ2 H2 => tb { D with nx := N, ct := N, bk := D.nx } σ2 H2)
/-- the records at fp as they stand -/
def pinsAt (fp : List Addr) (h : Heap) : List (Addr × Obj) := fp.filterMap fun b => (h.get? b).map fun o => (b, o)
theorem mem_pinsAt {fp : List Addr} {h : Heap} {b : Addr} {o : Obj} (hb : b ∈ fp) (e : h.get? b = some o) : (b, o) ∈ pinsAt fp h := List.mem_filterMap.mpr ⟨b, hb, by rw [e]; rfl⟩
theorem of_pinsAt {fp : List Addr} {h : Heap} {p : Addr × Obj} (hp : p ∈ pinsAt fp h) : p.1 ∈ fp ∧ h.get? p.1 = some p.2 := by
  obtain ⟨b, hb, e⟩ := List.mem_filterMap.mp hp
  cases q : h.get? b with
  | none => rw [q] at e; cases e
  | some o =>
    rw [q] at e
    have e' : (b, o) = p := Option.some.inj e
    subst e'
    exact ⟨hb, q⟩
theorem Inv.pinned {pins : List (Addr × Obj)} {σ : St} {H : Hp} {s : Shared} {fp : List Addr} (I : Inv X pins σ H s) (hf : ∀ b ∈ fp, FpOk X pins H b) (ho : ∀ b ∈ fp, ∃ o, s.heap.get? b = some o ∧ ∀ v, o.data ≠ .cell v) : Inv X (pins ++ pinsAt fp s.heap) σ H s :=
  I.pins_of fun p hp => (List.mem_append.mp hp).elim (fun z => I.pin p (List.mem_append_right _ z)) fun z => by
    obtain ⟨hb, e⟩ := of_pinsAt z
    obtain ⟨f0, f1, f2, _⟩ := hf p.1 hb
    obtain ⟨o, e', d⟩ := ho p.1 hb
    rw [e] at e'; cases e'
    exact ⟨e, f0, f1, f2, d⟩
theorem Inv.unpinned {pins pl : List (Addr × Obj)} {σ : St} {H : Hp} {s : Shared} (I : Inv X (pins ++ pl) σ H s) : Inv X pins σ H s := I.pins_of fun p hp => I.pin p (List.mem_append_right _ (List.mem_append_left _ hp))
theorem ps_for {iter : Expr} {body : List Stmt} {wi : TI} {g : TG} {tb : TS} {pos : Pos} (hp : PassesOwn (model X.prog X.w) X.A X.env X.xe) (hc : X.calm = true) (hi : PI X tg iter wi) (hg : PG X tg g) (hb : PSs X body tb)
    (hs : ∀ x, foldedSetIterable iter X.env x = pure x := by intro _; rfl) : PS X (.For tg iter body [] pos) (tFor wi g tb) := by
  intro pins s σ H D I h
  refine wpAny_For (thn (hi pins s σ H _ I h) fun v s1 h1 => thn h1 fun itv s2 h2 => ?_) hs
  obtain ⟨it, fp, tn, J, H2, e, I2, T, st2, f2, W, ⟨m0, w0⟩, turn⟩ := h2
  subst e
  -- what stays true of the iterator's objects through the loop
  have stat : ∀ {H' : Hp}, (∀ b ∈ fp, H' b = none) → ∀ b ∈ fp, FpOk X pins H' b := fun hn b hb => ⟨hn b hb, (f2 b hb).2⟩
  refine codeAny_forLoop_any (fun n s' => ∃ i σ' H', Inv X pins σ' H' s' ∧ tn i s'.heap ∧ (∀ b ∈ fp, H' b = none) ∧ W i n σ' H') ?_ m0 ⟨0, σ, H2, I2, st2, fun b hb => (f2 b hb).1, w0⟩
  rintro n s3 ⟨i, σ3, H3, I3, st3, fr3, w3⟩
  rcases turn i n σ3 H3 w3 with ⟨stop, qn⟩ | ⟨go, N, hN, step⟩
  · refine wpAny_passesOwn hp (thn (T.done X rfl rfl rfl hc i pins s3 σ3 H3 X.xe I3 (stat fr3) st3 stop) fun r s4 ⟨hr, I4⟩ => ?_)
    subst hr
    exact wpAny_execs_nil ⟨σ3, H3, I4, qn⟩
  · refine wpAny_passesOwn hp (thn (T.item X rfl rfl rfl hc i pins s3 σ3 H3 X.xe I3 (stat fr3) st3 go) fun r s4 ⟨u, hr, h4⟩ => ?_)
    subst hr
    refine wpAny_passesOwn hp (thn h4 fun _ s5 ⟨x, H5, I5, r5, y5, st5, fr5⟩ => ?_)
    have I5' := I5.pinned (stat fr5) (T.obj _ _ st5)
    refine wpAny_passesOwn hp (thn (hg _ s5 σ3 H5 x u _ I5' r5 (step x H5 y5)) fun _ s6 ⟨σ6, H6, I6, q6⟩ => ?_)
    refine wpAny_passesOwn hp (thn (hb _ s6 σ6 H6 _ I6 q6) fun f s7 q7 => ?_)
    have again : ∀ {σ7 : St} {H7 : Hp}, Inv X (pins ++ pinsAt fp s5.heap) σ7 H7 s7 → N σ7 H7 → ∃ m, m < n ∧ ∃ i σ' H', Inv X pins σ' H' s7 ∧ tn i s7.heap ∧ (∀ b ∈ fp, H' b = none) ∧ W i m σ' H' := fun {σ7 H7} I7 n7 => by
      obtain ⟨m', hm, w7⟩ := hN σ7 H7 n7
      refine ⟨m', hm, i + 1, σ7, H7, I7.unpinned, T.keep _ _ _ st5 fun b hb o e => (I7.pin (b, o) (List.mem_append_right _ (List.mem_append_right _ (mem_pinsAt hb e)))).1, fun b hb => ?_, w7⟩
      obtain ⟨o, e, d⟩ := T.obj _ _ st5 b hb
      exact (I7.pin (b, o) (List.mem_append_right _ (List.mem_append_right _ (mem_pinsAt hb e)))).2.1
    cases f with
    | next => obtain ⟨σ7, H7, I7, n7⟩ := q7; exact again I7 n7
    | cont => obtain ⟨σ7, H7, I7, n7⟩ := q7; exact again I7 n7
    | brk => obtain ⟨σ7, H7, I7, q7⟩ := q7; exact ⟨σ7, H7, I7.unpinned, q7⟩
    | ret v => obtain ⟨x7, σ7, H7, I7, r7, q7⟩ := q7; exact ⟨x7, σ7, H7, I7.unpinned, r7, q7⟩
end

/-! ### the forms one uses -/
/-- over a list that the body leaves as it is -/
theorem for_list {K : PySem.W.Frag} {a : Addr} {xs : List V} {g : TG} {tb : TS} {D : Ends} {σ : St} {H : Hp} (Pv : Nat → St → Hp → Prop) (h0 : Pv 0 σ H) (hl : ∀ i σ H, i ≤ xs.length → Pv i σ H → SqL K H a xs)
    (hs : ∀ i x σ H, xs[i]? = some x → Pv i σ H → g x σ H fun σ2 H2 => tb { D with nx := Pv (i + 1), ct := Pv (i + 1), bk := D.nx } σ2 H2) (hd : ∀ σ H, Pv xs.length σ H → D.nx σ H) :
    ∃ W : Nat → Nat → St → Hp → Prop, (∃ m, W 0 m σ H) ∧ ∀ i m σ H, W i m σ H →
      ((Itl K a).stop i H ∧ D.nx σ H) ∨ ((Itl K a).go i H ∧ ∃ N : St → Hp → Prop, (∀ σ' H', N σ' H' → ∃ m', m' < m ∧ W (i + 1) m' σ' H') ∧ ∀ x H', (Itl K a).yld i H x H' → g x σ H' fun σ2 H2 => tb { D with nx := N, ct := N, bk := D.nx } σ2 H2) := by
  refine ⟨fun i m σ H => m = xs.length - i ∧ i ≤ xs.length ∧ Pv i σ H, ⟨xs.length, by simp, Nat.zero_le _, h0⟩, ?_⟩
  rintro i m σ H ⟨rfl, hi, p⟩
  have q := hl i σ H hi p
  by_cases hlt : i < xs.length
  · refine .inr ⟨⟨xs, xs[i], q, by simp [hlt]⟩, Pv (i + 1), fun σ' H' p' => ⟨xs.length - (i + 1), by lia, rfl, hlt, p'⟩, fun x H' y => ?_⟩
    obtain ⟨e, y⟩ := y
    subst e
    exact hs i x σ _ (y xs q) p
  · have e : i = xs.length := by lia
    subst e
    exact .inl ⟨⟨xs, q, Nat.le_refl _⟩, hd σ H p⟩
theorem for_range {lo : Int} {n : Nat} {g : TG} {tb : TS} {D : Ends} {σ : St} {H : Hp} (Pv : Nat → St → Hp → Prop) (h0 : Pv 0 σ H)
    (hs : ∀ i σ H, i < n → Pv i σ H → g (.int (lo + i)) σ H fun σ2 H2 => tb { D with nx := Pv (i + 1), ct := Pv (i + 1), bk := D.nx } σ2 H2) (hd : ∀ σ H, Pv n σ H → D.nx σ H) :
    ∃ W : Nat → Nat → St → Hp → Prop, (∃ m, W 0 m σ H) ∧ ∀ i m σ H, W i m σ H →
      ((Itr lo n).stop i H ∧ D.nx σ H) ∨ ((Itr lo n).go i H ∧ ∃ N : St → Hp → Prop, (∀ σ' H', N σ' H' → ∃ m', m' < m ∧ W (i + 1) m' σ' H') ∧ ∀ x H', (Itr lo n).yld i H x H' → g x σ H' fun σ2 H2 => tb { D with nx := N, ct := N, bk := D.nx } σ2 H2) := by
  refine ⟨fun i m σ H => m = n - i ∧ i ≤ n ∧ Pv i σ H, ⟨n, by simp, Nat.zero_le _, h0⟩, ?_⟩
  rintro i m σ H ⟨rfl, hi, p⟩
  by_cases hlt : i < n
  · refine .inr ⟨hlt, Pv (i + 1), fun σ' H' p' => ⟨n - (i + 1), by lia, rfl, hlt, p'⟩, fun x H' y => ?_⟩
    obtain ⟨e, y⟩ := y
    subst e y
    exact hs i σ _ hlt p
  · have e : i = n := by lia
    subst e
    exact .inl ⟨Nat.le_refl _, hd σ H p⟩
end L2

namespace L2
open PySem PySem.Spec PyProof.Rows

abbrev R2 := V → V → Hp → VK → Prop
/-- a two-place operation on values: f is binaryOp op, inplaceOp op or compareOp op -/
def OpR (X : Cx) (f : Value → Value → Sem Value) (r : R2) : Prop :=
  ∀ (pins : List (Addr × Obj)) (s : Shared) (σ : St) (H : Hp) (x y : V) (v u : Value) (Q : VK), Inv X pins σ H s → RelV x v → RelV y u → r x y H Q →
    wpAny (model X.prog X.w) X.A (f v u) (EP X pins σ Q) X.xe s
/-- a one-place operation -/
def UnR (X : Cx) (f : Value → Sem Value) (r : V → Hp → VK → Prop) : Prop :=
  ∀ (pins : List (Addr × Obj)) (s : Shared) (σ : St) (H : Hp) (x : V) (v : Value) (Q : VK), Inv X pins σ H s → RelV x v → r x H Q →
    wpAny (model X.prog X.w) X.A (f v) (EP X pins σ Q) X.xe s
/-- a call of a value that is known (a builtin, a type) with values -/
def CallR (X : Cx) (f : Value) (r : List V → Hp → VK → Prop) : Prop :=
  ∀ (pins : List (Addr × Obj)) (s : Shared) (σ : St) (H : Hp) (xs : List V) (us : List Value) (Q : VK), Inv X pins σ H s → Vals xs us → r xs H Q →
    wpAny (model X.prog X.w) X.A (call f us) (EP X pins σ Q) X.xe s
def tOp (r : R2) (ta tb : TE) : TE := fun σ H Q => ta σ H fun x H1 => tb σ H1 fun y H2 => r x y H2 Q
def tUn (r : V → Hp → VK → Prop) (ta : TE) : TE := fun σ H Q => ta σ H fun x H1 => r x H1 Q
/-- ints in, under C, and a value out -/
def rI (C : Int → Int → Prop) (g : Int → Int → V) : R2 := fun x y H Q => ∃ i j, x = .int i ∧ y = .int j ∧ C i j ∧ Q (g i j) H
def rI0 (g : Int → Int → V) : R2 := fun x y H Q => ∃ i j, x = .int i ∧ y = .int j ∧ Q (g i j) H
def rU (g : Int → V) : V → Hp → VK → Prop := fun x H Q => ∃ i, x = .int i ∧ Q (g i) H

section
variable {X : Cx} {a b c : Expr} {ta tb tc : TE} {pos : Pos}

theorem binT (ha : PE X a ta) (hb : PE X b tb) {pins : List (Addr × Obj)} {s : Shared} {σ : St} {H : Hp} {R : V → V → Hp → Prop} (I : Inv X pins σ H s)
    (h : ta σ H fun x H1 => tb σ H1 fun y H2 => R x y H2) {Q : Value → Shared → Prop} {f : Value → Value → Sem Value}
    (hf : ∀ v u s2 x y H2, Inv X pins σ H2 s2 → RelV x v → RelV y u → R x y H2 → wpAny (model X.prog X.w) X.A (f v u) Q X.xe s2) :
    wpAny (model X.prog X.w) X.A (eval a X.env) (fun v s₁ => wpAny (model X.prog X.w) X.A (eval b X.env) (fun u s₂ => wpAny (model X.prog X.w) X.A (f v u) Q X.xe s₂) X.xe s₁) X.xe s := by
  refine thn (ha pins s σ H _ I h) fun v s1 ⟨x, H1, I1, r1, q1⟩ => ?_
  refine thn (hb pins s1 σ H1 _ I1 q1) fun u s2 ⟨y, H2, I2, r2, q2⟩ => ?_
  exact hf v u s2 x y H2 I2 r1 r2 q2

theorem pe_op {op : Operator} {r : R2} (ho : OpR X (binaryOp op) r) (ha : PE X a ta) (hb : PE X b tb) : PE X (.BinOp a op b pos) (tOp r ta tb) := by
  intro pins s σ H Q I h
  exact wpAny_BinOp (binT ha hb I h fun v u s2 x y H2 I2 rx ry q => ho pins s2 σ H2 x y v u Q I2 rx ry q)
theorem pe_un {op : UnaryOp} {r : V → Hp → VK → Prop} (ho : UnR X (unaryOp op) r) (ha : PE X a ta) : PE X (.UnaryOp op a pos) (tUn r ta) := by
  intro pins s σ H Q I h
  exact UnaryOp_ (thn (ha pins s σ H _ I h) fun v s1 ⟨x, H1, I1, r1, q1⟩ => ho pins s1 σ H1 x v Q I1 r1 q1)
/-! ### ints -/
theorem opI {f : Value → Value → Sem Value} {C : Int → Int → Prop} {g : Int → Int → Int}
    (rule : ∀ (i j : Int) (t u : Tok) (s : Shared) (Q : Value → Shared → Prop) (E : Value → Shared → Prop), C i j → Q (.int (g i j) s.toks) { s with toks := s.toks + 1 } → wpAny (model X.prog X.w) X.A (f (.int i t) (.int j u)) Q E s) :
    OpR X f (rI C fun i j => .int (g i j)) := by
  intro pins s σ H x y v u Q I rx ry h
  obtain ⟨i, j, rfl, rfl, hc, q⟩ := h
  obtain ⟨t, rfl⟩ := rx
  obtain ⟨t', rfl⟩ := ry
  exact rule i j t t' s _ _ hc ⟨.int (g i j), H, I.tok _, ⟨_, rfl⟩, q⟩
theorem opI0 {f : Value → Value → Sem Value} {g : Int → Int → Int}
    (rule : ∀ (i j : Int) (t u : Tok) (s : Shared) (Q : Value → Shared → Prop) (E : Value → Shared → Prop), Q (.int (g i j) s.toks) { s with toks := s.toks + 1 } → wpAny (model X.prog X.w) X.A (f (.int i t) (.int j u)) Q E s) :
    OpR X f (rI0 fun i j => .int (g i j)) := by
  intro pins s σ H x y v u Q I rx ry h
  obtain ⟨i, j, rfl, rfl, q⟩ := h
  obtain ⟨t, rfl⟩ := rx
  obtain ⟨t', rfl⟩ := ry
  exact rule i j t t' s _ _ ⟨.int (g i j), H, I.tok _, ⟨_, rfl⟩, q⟩
theorem opB0 {f : Value → Value → Sem Value} {g : Int → Int → Bool}
    (rule : ∀ (i j : Int) (t u : Tok) (s : Shared) (Q : Value → Shared → Prop) (E : Value → Shared → Prop), Q (.bool (g i j)) s → wpAny (model X.prog X.w) X.A (f (.int i t) (.int j u)) Q E s) :
    OpR X f (rI0 fun i j => .bl (g i j)) := by
  intro pins s σ H x y v u Q I rx ry h
  obtain ⟨i, j, rfl, rfl, q⟩ := h
  obtain ⟨t, rfl⟩ := rx
  obtain ⟨t', rfl⟩ := ry
  exact rule i j t t' s _ _ ⟨.bl (g i j), H, I, rfl, q⟩

def CDiv (i j : Int) : Prop := 0 < j ∧ j < 1073741824
def CPow (i j : Int) : Prop := 0 ≤ j ∧ j ≤ 1000000 ∧ i.natAbs < 2 ^ 64
def CMul (i j : Int) : Prop := (-(2 ^ 64) < i ∧ i < 2 ^ 64) ∨ (-(2 ^ 64) < j ∧ j < 2 ^ 64)
theorem CMul.ok {i j : Int} (h : CMul i j) : IntMulOk i j := by
  rcases h with ⟨h1, h2⟩ | ⟨h1, h2⟩
  · exact .of_left (intBits_le_64 h1 h2)
  · exact .of_right (intBits_le_64 h1 h2)
theorem two_pow_nn (k : Nat) : (0 : Int) ≤ 2 ^ k := by
  rw [two_pow_cast]
  exact Int.natCast_nonneg _

theorem op_add : OpR X (binaryOp .Add) (rI0 fun i j => .int (i + j)) := opI0 fun _ _ _ _ _ _ _ q => add_int q
theorem op_sub : OpR X (binaryOp .Sub) (rI0 fun i j => .int (i - j)) := opI0 fun _ _ _ _ _ _ _ q => sub_int q
theorem op_mul : OpR X (binaryOp .Mult) (rI CMul fun i j => .int (i * j)) := opI fun _ _ _ _ _ _ _ hc q => mul_int q hc.ok
/-- // by a positive divisor -/
theorem op_fdiv : OpR X (binaryOp .FloorDiv) (rI CDiv fun i j => .int (i / j)) := opI fun i j _ _ _ _ _ hc q => by
  have h1 : (0 : Int) < j := hc.1
  have h2 : j < 1073741824 := hc.2
  exact floordiv_int (by lia) (by rw [Int.fdiv_eq_ediv_of_nonneg i (by lia)]; exact q) (.inl (PyProof.noPylong_small (by lia)))
/-- % by a positive divisor of any size -/
theorem op_mod : OpR X (binaryOp .Mod) (rI (fun _ j => 0 < j) fun i j => .int (i % j)) := opI fun i j _ _ _ _ _ hc q => by
  have h1 : (0 : Int) < j := hc
  exact mod_int' (by lia) (by rw [Int.fmod_eq_emod_of_nonneg i (by lia)]; exact q)
theorem op_pow : OpR X (binaryOp .Pow) (rI CPow fun i j => .int (i ^ j.toNat)) := opI fun _ _ _ _ _ _ _ hc q => pow_int_small hc.1 hc.2.1 hc.2.2 q
theorem op_shr : OpR X (binaryOp .RShift) (rI (fun _ j => 0 ≤ j) fun i j => .int (i / 2 ^ j.toNat)) := opI fun i j _ _ _ _ _ hc q =>
  rshift_int hc (by rw [Int.fdiv_eq_ediv_of_nonneg i (two_pow_nn _)]; exact q)
theorem op_and : OpR X (binaryOp .BitAnd) (rI0 fun i j => .int (Builtin.bitAnd i j)) := opI0 fun _ _ _ _ _ _ _ q => and_int q
theorem unI {f : Value → Sem Value} {g : Int → Int}
    (rule : ∀ (i : Int) (t : Tok) (s : Shared) (Q : Value → Shared → Prop) (E : Value → Shared → Prop), Q (.int (g i) s.toks) { s with toks := s.toks + 1 } → wpAny (model X.prog X.w) X.A (f (.int i t)) Q E s) :
    UnR X f (rU fun i => .int (g i)) := by
  intro pins s σ H x v Q I rx h
  obtain ⟨i, rfl, q⟩ := h
  obtain ⟨t, rfl⟩ := rx
  exact rule i t s _ _ ⟨.int (g i), H, I.tok _, ⟨_, rfl⟩, q⟩
theorem un_neg : UnR X (unaryOp .USub) (rU fun i => .int (-i)) := unI fun _ _ _ _ _ q => neg_int q
/-! ### bools among ints: n += (a < b) -/
end

/-! ### comparisons -/
/-- the scalars that == tells apart as data does -/
def scal : V → V → Bool
  | .non, .non => true | .non, .int _ => true | .int _, .non => true | .non, .bl _ => true | .bl _, .non => true | .non, .str _ => true | .str _, .non => true
  | .int _, .int _ => true | .bl _, .bl _ => true | .str _, .str _ => true | .byt _, .byt _ => true
  | .int _, .str _ => true | .str _, .int _ => true | .bl _, .str _ => true | .str _, .bl _ => true
  | _, _ => false
def rEq : R2 := fun x y H Q => scal x y = true ∧ Q (.bl (decide (x = y))) H
def rNe : R2 := fun x y H Q => scal x y = true ∧ Q (.bl (!decide (x = y))) H

theorem dec_int {i j : Int} : decide (V.int i = V.int j) = (i == j) := by
  rw [Bool.eq_iff_iff]
  simp
theorem dec_bl {i j : Bool} : decide (V.bl i = V.bl j) = (i == j) := by
  rw [Bool.eq_iff_iff]
  simp
theorem dec_str {i j : Str} : decide (V.str i = V.str j) = (i == j) := by
  rw [Bool.eq_iff_iff]
  simp
theorem dec_byt {i j : Array UInt8} : decide (V.byt i = V.byt j) = (i.toList == j.toList) := by
  rw [Bool.eq_iff_iff]
  cases i
  cases j
  simp

section
variable {X : Cx} {a b c : Expr} {ta tb tc : TE} {pos : Pos}
theorem fin_bl {pins : List (Addr × Obj)} {σ : St} {H : Hp} {s : Shared} {Q : VK} {k k' : Bool} (I : Inv X pins σ H s) (q : Q (.bl k) H) (e : k = k') : EP X pins σ Q (.bool k') s := by
  subst e
  exact ⟨.bl k, H, I, rfl, q⟩
theorem op_eq : OpR X (compareOp .Eq) rEq := by
  intro pins s σ H x y v u Q I rx ry h
  obtain ⟨hs, q⟩ := h
  cases x with
  | non =>
    cases rx
    cases y with
    | non => cases ry; exact PySem.EqNone.eq_none_none (fin_bl I q (by simp))
    | bl j => cases ry; exact PySem.EqNone.eq_none_bool (fin_bl I q (by simp))
    | int j => obtain ⟨t', rfl⟩ := ry; exact PySem.EqNone.eq_none_int (fin_bl I q (by simp))
    | str j => obtain ⟨t', rfl⟩ := ry; exact PySem.EqNone.eq_none_str (fin_bl I q (by simp))
    | _ => exact absurd (show false = true from hs) Bool.false_ne_true
  | bl i =>
    cases rx
    cases y with
    | non => cases ry; exact PySem.EqNone.eq_bool_none (fin_bl I q (by simp))
    | bl j => cases ry; exact eq_bool (fin_bl I q dec_bl)
    | str j => obtain ⟨t', rfl⟩ := ry; exact PySem.EqMixed.eq_bool_str (fin_bl I q (by simp))
    | _ => exact absurd (show false = true from hs) Bool.false_ne_true
  | int i =>
    obtain ⟨t, rfl⟩ := rx
    cases y with
    | non => cases ry; exact PySem.EqNone.eq_int_none (fin_bl I q (by simp))
    | int j => obtain ⟨t', rfl⟩ := ry; exact eq_int (fin_bl I q dec_int)
    | str j => obtain ⟨t', rfl⟩ := ry; exact PySem.EqMixed.eq_int_str (fin_bl I q (by simp))
    | _ => exact absurd (show false = true from hs) Bool.false_ne_true
  | str i =>
    obtain ⟨t, rfl⟩ := rx
    cases y with
    | non => cases ry; exact PySem.EqNone.eq_str_none (fin_bl I q (by simp))
    | bl j => cases ry; exact PySem.EqMixed.eq_str_bool (fin_bl I q (by simp))
    | int j => obtain ⟨t', rfl⟩ := ry; exact PySem.EqMixed.eq_str_int (fin_bl I q (by simp))
    | str j => obtain ⟨t', rfl⟩ := ry; exact eq_str (fin_bl I q dec_str)
    | _ => exact absurd (show false = true from hs) Bool.false_ne_true
  | byt i =>
    obtain ⟨t, rfl⟩ := rx
    cases y with
    | byt j => obtain ⟨t', rfl⟩ := ry; exact PySem.W.eq_bytes (fin_bl I q dec_byt)
    | _ => exact absurd (show false = true from hs) Bool.false_ne_true
  | _ => cases y <;> exact absurd (show false = true from hs) Bool.false_ne_true
theorem op_ne : OpR X (compareOp .NotEq) rNe := by
  intro pins s σ H x y v u Q I rx ry h
  obtain ⟨hs, q⟩ := h
  cases x with
  | non =>
    cases rx
    cases y with
    | non => cases ry; exact PySem.EqNone.ne_none_none (fin_bl I q (by simp))
    | bl j => cases ry; exact PySem.EqNone.ne_none_bool (fin_bl I q (by simp))
    | int j => obtain ⟨t', rfl⟩ := ry; exact PySem.EqNone.ne_none_int (fin_bl I q (by simp))
    | str j => obtain ⟨t', rfl⟩ := ry; exact PySem.EqNone.ne_none_str (fin_bl I q (by simp))
    | _ => exact absurd (show false = true from hs) Bool.false_ne_true
  | bl i =>
    cases rx
    cases y with
    | non => cases ry; exact PySem.EqNone.ne_bool_none (fin_bl I q (by simp))
    | bl j => cases ry; exact ne_bool (fin_bl I q (congrArg not dec_bl))
    | str j => obtain ⟨t', rfl⟩ := ry; exact PySem.EqMixed.ne_bool_str (fin_bl I q (by simp))
    | _ => exact absurd (show false = true from hs) Bool.false_ne_true
  | int i =>
    obtain ⟨t, rfl⟩ := rx
    cases y with
    | non => cases ry; exact PySem.EqNone.ne_int_none (fin_bl I q (by simp))
    | int j => obtain ⟨t', rfl⟩ := ry; exact ne_int (fin_bl I q (congrArg not dec_int))
    | str j => obtain ⟨t', rfl⟩ := ry; exact PySem.EqMixed.ne_int_str (fin_bl I q (by simp))
    | _ => exact absurd (show false = true from hs) Bool.false_ne_true
  | str i =>
    obtain ⟨t, rfl⟩ := rx
    cases y with
    | non => cases ry; exact PySem.EqNone.ne_str_none (fin_bl I q (by simp))
    | bl j => cases ry; exact PySem.EqMixed.ne_str_bool (fin_bl I q (by simp))
    | int j => obtain ⟨t', rfl⟩ := ry; exact PySem.EqMixed.ne_str_int (fin_bl I q (by simp))
    | str j => obtain ⟨t', rfl⟩ := ry; exact ne_str (fin_bl I q (congrArg not dec_str))
    | _ => exact absurd (show false = true from hs) Bool.false_ne_true
  | byt i =>
    obtain ⟨t, rfl⟩ := rx
    cases y with
    | byt j => obtain ⟨t', rfl⟩ := ry; exact PySem.W.ne_bytes (fin_bl I q (congrArg not dec_byt))
    | _ => exact absurd (show false = true from hs) Bool.false_ne_true
  | _ => cases y <;> exact absurd (show false = true from hs) Bool.false_ne_true

theorem op_lt : OpR X (compareOp .Lt) (rI0 fun i j => .bl (decide (i < j))) := opB0 fun _ _ _ _ _ _ _ q => lt_int q
theorem op_le : OpR X (compareOp .LtE) (rI0 fun i j => .bl (decide (i ≤ j))) := opB0 fun _ _ _ _ _ _ _ q => le_int q
theorem op_gt : OpR X (compareOp .Gt) (rI0 fun i j => .bl (decide (j < i))) := opB0 fun _ _ _ _ _ _ _ q => gt_int q
/-- the one string within the other -/
theorem op_in_str : OpR X (compareOp .In) (fun x y H Q => ∃ i j, x = .str i ∧ y = .str j ∧ Q (.bl (!(Builtin.Str.occurrences j i 0 j.length 1).isEmpty)) H) := by
  intro pins s σ H x y v u Q I rx ry h
  obtain ⟨i, j, rfl, rfl, q⟩ := h
  obtain ⟨t, rfl⟩ := rx
  obtain ⟨t', rfl⟩ := ry
  exact in_str (fin_bl I q rfl)

/-- is None, is not None: the right side a value none -/
theorem op_isN : OpR X (compareOp .Is) (fun x y H Q => y = .non ∧ Q (.bl (decide (x = .non))) H) := by
  intro pins s σ H x y v u Q I rx ry h
  obtain ⟨rfl, q⟩ := h
  cases ry
  refine is_none_gen (fin_bl I q ?_)
  cases x <;> first
    | (cases rx; rfl)
    | (obtain ⟨t, rfl⟩ := rx; rfl)
theorem op_notin_str : OpR X (compareOp .NotIn) (fun x y H Q => ∃ i j, x = .str i ∧ y = .str j ∧ Q (.bl (!(!(Builtin.Str.occurrences j i 0 j.length 1).isEmpty))) H) := by
  intro pins s σ H x y v u Q I rx ry h
  obtain ⟨i, j, rfl, rfl, q⟩ := h
  obtain ⟨t, rfl⟩ := rx
  obtain ⟨t', rfl⟩ := ry
  exact notIn_str (fin_bl I q rfl)
theorem nomark (b : Expr) {op : CmpOp} (h : op ≠ .In := by decide) (h2 : op ≠ .NotIn := by decide) : behindInMarks op b = false := by
  have e1 : (op == CmpOp.In) = false := by cases op <;> first | rfl | exact absurd rfl h
  have e2 : (op == CmpOp.NotIn) = false := by cases op <;> first | rfl | exact absurd rfl h2
  cases b <;> simp [behindInMarks, e1, e2]
/-- a comparison as a value; hm: nomark b, or (for in, not in) by with_unfolding_all rfl -/
theorem pe_cmpR {op : CmpOp} {r : R2} (ho : OpR X (compareOp op) r) (ha : PE X a ta) (hb : PE X b tb) (hm : behindInMarks op b = false) : PE X (.Compare a [op] [b] pos) (tOp r ta tb) := by
  intro pins s σ H Q I h
  exact wpAny_Compare1 (binT ha hb I h fun v u s2 x y H2 I2 rx ry q => ho pins s2 σ H2 x y v u Q I2 rx ry q) hm
/-- a reading of a value as a test -/
def tTest (t : TE) : TT := fun σ H Q => t σ H fun x H' => ∃ k, x = .bl k ∧ Q k H'
theorem pt_cmpR {op : CmpOp} {r : R2} (ho : OpR X (compareOp op) r) (ha : PE X a ta) (hb : PE X b tb) (hm : behindInMarks op b = false) : PT X (.Compare a [op] [b] pos) (tTest (tOp r ta tb)) := by
  intro pins s σ H Q I h
  refine wpAny_isTrue_Compare1 (thn (ha pins s σ H _ I h) fun v s1 ⟨x, H1, I1, r1, q1⟩ => thn (hb pins s1 σ H1 _ I1 q1) fun u s2 ⟨y, H2, I2, r2, q2⟩ =>
    thn (ho pins s2 σ H2 x y v u _ I2 r1 r2 q2) fun c s3 ⟨z, H3, I3, r3, k, e, q3⟩ => ?_) hm
  subst e
  cases r3
  exact wpAny_truthy_bool ⟨H3, I3, q3⟩
/-! ### truth -/
theorem line63 : (sizeLine : Nat) < 2 ^ 63 := by rw [sizeLine_eq]; decide
/-! ### strs and bytes -/
theorem op_add_str : OpR X (binaryOp .Add) (fun x y H Q => ∃ i j, x = .str i ∧ y = .str j ∧ i.length + j.length ≤ sizeLine ∧ Q (.str (i ++ j)) H) := by
  intro pins s σ H x y v u Q I rx ry h
  obtain ⟨i, j, rfl, rfl, hz, q⟩ := h
  obtain ⟨t, rfl⟩ := rx
  obtain ⟨t', rfl⟩ := ry
  exact add_str (fun t' tk => ⟨.str (i ++ j), H, I.tok _, ⟨_, rfl⟩, q⟩) hz
/-! ### scalar builtins, by CallR -/
theorem vals1 {x : V} {us : List Value} (r : Vals [x] us) : ∃ u, us = [u] ∧ RelV x u := by
  cases r with
  | cons r1 r2 => cases r2; exact ⟨_, rfl, r1⟩
theorem vals2 {x y : V} {us : List Value} (r : Vals [x, y] us) : ∃ u w', us = [u, w'] ∧ RelV x u ∧ RelV y w' := by
  cases r with
  | cons r1 r2 =>
    cases r2 with
    | cons r3 r4 => cases r4; exact ⟨_, _, rfl, r1, r3⟩
theorem call_max2 (hc : X.calm = true) : CallR X (.builtin "max") (fun xs H Q => ∃ i j, xs = [.int i, .int j] ∧ Q (.int (if j > i then j else i)) H) := by
  intro pins s σ H xs us Q I r h
  obtain ⟨i, j, rfl, q⟩ := h
  obtain ⟨u, w', rfl, ⟨t, rfl⟩, ⟨t', rfl⟩⟩ := vals2 r
  refine max_two_ints (I.ok.hd hc) fun h' tk k => ⟨_, H, I.kept k, ?_, q⟩
  by_cases hj : j > i
  · rw [if_pos hj, if_pos hj]; exact ⟨_, rfl⟩
  · rw [if_neg hj, if_neg hj]; exact ⟨_, rfl⟩
theorem call_min2 (hc : X.calm = true) : CallR X (.builtin "min") (fun xs H Q => ∃ i j, xs = [.int i, .int j] ∧ Q (.int (if j < i then j else i)) H) := by
  intro pins s σ H xs us Q I r h
  obtain ⟨i, j, rfl, q⟩ := h
  obtain ⟨u, w', rfl, ⟨t, rfl⟩, ⟨t', rfl⟩⟩ := vals2 r
  refine min_two_ints (I.ok.hd hc) fun h' tk k => ⟨_, H, I.kept k, ?_, q⟩
  by_cases hj : j < i
  · rw [if_pos hj, if_pos hj]; exact ⟨_, rfl⟩
  · rw [if_neg hj, if_neg hj]; exact ⟨_, rfl⟩
theorem call_str_int : CallR X (.type "str") (fun xs H Q => ∃ i, xs = [.int i] ∧ i.natAbs.log2 < 1920 ∧ Q (.str (toString i)) H) := by
  intro pins s σ H xs us Q I r h
  obtain ⟨i, rfl, hz, q⟩ := h
  obtain ⟨u, rfl, t, rfl⟩ := vals1 r
  exact PySem.P.str_of_int hz ⟨.str _, H, I.tok _, ⟨_, rfl⟩, q⟩
end
end L2

namespace L2
open PySem PySem.Spec PyProof.Rows

/-! ### an instance, its attributes a map -/
structure ObjM (h : Heap) (x dx C : Addr) (mA : Str → Option Value) : Prop where
  obj : h.get? x = some (PySem.W.instObj C dx)
  ns : h.Ns1 dx mA
  ne : dx ≠ x

theorem lookIn_ns {h : Heap} {dx : Addr} {mA : Str → Option Value} (n : h.Ns1 dx mA) : ∃ od, h.get? dx = some od ∧ ∀ name, PySem.W.lookIn name od = some (mA name) := by
  obtain ⟨o, es, ep, ho, hd, hk, _, hm⟩ := n
  refine ⟨o, ho, fun name => ?_⟩
  have e := hm name
  unfold nsFind findBy at e
  rw [← Array.find?_toList] at e
  unfold PySem.W.lookIn
  rw [hd]
  dsimp only
  split
  · rename_i y q
    rw [q] at e
    exact congrArg some e
  · rename_i q
    rw [q] at e
    have a : es.toList.any (·.refKey) = false := by
      rw [List.any_eq_false]
      intro y hy
      obtain ⟨z, t, hkey⟩ := hk y (Array.mem_toList_iff.mp hy)
      simp [DictEntry.refKey, hkey]
    have a' : ¬ es.toList.any (·.refKey) = true := by rw [a]; exact Bool.false_ne_true
    rw [if_neg a']
    exact congrArg some e

theorem ObjM.look {h : Heap} {x dx C : Addr} {mA : Str → Option Value} (I : ObjM h x dx C mA) : ∃ od, PySem.W.InstAt h x (PySem.W.instObj C dx) C (some od) ∧ ∀ name, PySem.W.lookIn name od = some (mA name) :=
  let ⟨od, ho, hl⟩ := lookIn_ns I.ns
  ⟨od, ⟨I.obj, rfl, rfl, ho⟩, hl⟩

section
variable {prog : Program} {w : World} {A : Around} {E : Value → Shared → Prop} {s : Shared} {K : PySem.W.Frag} {x dx C f : Addr} {mA : Str → Option Value} {name : Str} {v : Value}

theorem get_map {expr : Bool} {Q : Value → Shared → Prop} (X : K.In s.heap) (I : ObjM s.heap x dx C mA) (hg : PySem.W.plainGet K C name = true) (hh : PySem.W.hasDictIn K C = true)
    (ha : PySem.W.findIn K (.ref C) name = some none) (hv : mA name = some v) (hv' : PySem.W.handedIn v = true) (h : Q v { s with toks := s.toks + 1 }) :
    wpAny (model prog w) A (getAttr (.ref x) name expr) Q E s := by
  obtain ⟨od, J, hl⟩ := I.look
  exact PySem.W.get_value X J (PySem.W.plainGet_of hg).1 (PySem.W.findObj_own hh ha rfl (by rw [hl, hv])) hv' h

theorem get_meth {pl : Sem Bool} {Q : Value × List Value → Shared → Prop} (X : K.In s.heap) (I : ObjM s.heap x dx C mA) (hg : PySem.W.plainGet K C name = true)
    (hf : PySem.W.findIn K (.ref C) name = some (some (.ref f))) (ht : PySem.W.isFn K (.ref f) = true) (hv : mA name = none) (h : Q (.ref f, [.ref x]) s) :
    wpAny (model prog w) A (getMethod (.ref x) name pl) Q E s := by
  obtain ⟨od, J, hl⟩ := I.look
  exact PySem.W.method_fn X J (PySem.W.plainGet_of hg).1 (PySem.W.plainGet_of hg).2 hf (beq_iff_eq.mp ht) (by show (PySem.W.lookIn name od).map (·.isSome) = some false; rw [hl, hv]; rfl) h

theorem set_map {ns : List Str} {Q : Unit → Shared → Prop} (X : K.In s.heap) (I : ObjM s.heap x dx C mA)
    (hs : PySem.W.findIn K (.ref C) "__setattr__" = some (some (.builtin "object.__setattr__"))) (hp : PySem.W.plainOver K C = true) (ht : PySem.W.takerIn K C name = some none) (hh : PySem.W.hasDictIn K C = true)
    (hw : PySem.Within mA ns) (hsz : ns.length ≤ sizeLine)
    (h : ∀ h', ObjM h' x dx C (fun y => if y = name then some v else mA y) → Heap.SameBut dx s.heap h' → Q () { s with heap := h', toks := s.toks + 2 }) :
    wpAny (model prog w) A (setAttr (.ref x) name v) Q E s := by
  obtain ⟨od, J, hl⟩ := I.look
  refine PySem.W.set_plain X J hs (PySem.W.osa_open (s := { s with toks := s.toks + 1 }) (r := none) X J hp ht fun b => ?_)
  obtain ⟨cd, hc, hd'⟩ := PySem.W.any_some hh
  have hx : s.heap.get? x = some ⟨.ref C, some dx, .plain, #[]⟩ := I.obj
  refine wpAny_bind (wpAny_pure (wpAny_bind (wpAny_bind (wpAny_loadPart hx (wpAny_bind (PySem.W.Looks.here (s := { s with toks := s.toks + 1 }) (PySem.W.looks_clsIn X hc) ?_))))))
  rw [hd']
  refine wpAny_pure (a := some dx) (wpAny_bind (wpAny_pure (wpAny_bind ?_)))
  refine wpAny_nsSet1 (s := { s with toks := s.toks + 1 }) I.ns fun h' hn2 hs2 => ?_
  obtain ⟨oD, esD, epD, hoD, hdD, hcD⟩ := hn2.count (PySem.Within.cons name v hw)
  refine wpAny_bind (wpAny_lookBehind hoD (by rw [hdD]; exact pastItsLine_dict (Nat.le_trans hcD (by rw [List.length_cons]; lia))) ?_)
  exact wpAny_pure (h _ ⟨(hs2.2 _ (Ne.symm I.ne)).trans I.obj, hn2, I.ne⟩ hs2)

/-- C(..): the dict at the heap's end, the instance behind it; then its __init__ -/
theorem make_map {R : Result → Shared → Prop} {vs : List Value} {kw : List (Str × Value)} (X : K.In s.heap) (hm : PySem.W.makesIn K C = true)
    (hi : PySem.W.findIn K (.ref C) "__init__" = some (some (.ref f))) (hf : PySem.W.typeIn K (.ref f) = some (.type "function"))
    (h : codeAny (model prog w) (A.under (.builtin "type.__call__" ⟨.ref C :: vs, kw⟩)) (.call (.ref f) ⟨.ref (s.heap.objs.size + 1) :: vs, kw⟩) (PySem.W.InitBack (s.heap.objs.size + 1) R)
      { s with heap := (s.heap.push PySem.W.emptyDict).push (PySem.W.instObj C s.heap.objs.size) }) :
    codeAny (model prog w) A (.call (.ref C) ⟨vs, kw⟩) R s := by
  obtain ⟨hh, g, d, t, os⟩ := s
  exact PySem.W.make_core (PySem.W.makes_of X hm) (PySem.W.looks_findIn X hi) (fun self => PySem.W.bind_fn X self hf) (.inl rfl) h
end

/-! ### the attributes as a list of pairs -/
def putF (f : Str) (v : V) : List (Str × V) → List (Str × V)
  | [] => [(f, v)]
  | (g, x) :: r => if g = f then (g, v) :: r else (g, x) :: putF f v r
theorem lookup_putF (f g : Str) (v : V) : ∀ fs : List (Str × V), (putF f v fs).lookup g = if g = f then some v else fs.lookup g
  | [] => by
    show List.lookup g [(f, v)] = _
    by_cases h : g = f
    · have hb : (g == f) = true := beq_iff_eq.mpr h
      simp only [List.lookup, hb, if_pos h]
    · have hb : (g == f) = false := beq_eq_false_iff_ne.mpr h
      simp only [List.lookup, hb, if_neg h]
  | (k, x) :: r => by
    have ih := lookup_putF f g v r
    rw [show putF f v ((k, x) :: r) = (if k = f then (k, v) :: r else (k, x) :: putF f v r) from rfl]
    by_cases hk : k = f
    · rw [if_pos hk]
      by_cases h : g = k
      · have hb : (g == k) = true := beq_iff_eq.mpr h
        simp only [List.lookup, hb, if_pos (h.trans hk)]
      · have hb : (g == k) = false := beq_eq_false_iff_ne.mpr h
        simp only [List.lookup, hb, if_neg (fun e : g = f => h (e.trans hk.symm))]
    · rw [if_neg hk]
      by_cases h : g = k
      · have hb : (g == k) = true := beq_iff_eq.mpr h
        simp only [List.lookup, hb, if_neg (fun e : g = f => hk (h.symm.trans e))]
      · have hb : (g == k) = false := beq_eq_false_iff_ne.mpr h
        simp only [List.lookup, hb]
        exact ih
theorem keys_putF (f : Str) (v : V) : ∀ fs : List (Str × V), f ∈ (putF f v fs).map (·.1) ∧ ∀ g, g ∈ fs.map (·.1) → g ∈ (putF f v fs).map (·.1)
  | [] => ⟨by simp [putF], fun g h => by simp at h⟩
  | (k, x) :: r => by
    obtain ⟨i1, i2⟩ := keys_putF f v r
    rw [show putF f v ((k, x) :: r) = (if k = f then (k, v) :: r else (k, x) :: putF f v r) from rfl]
    by_cases hk : k = f
    · rw [if_pos hk]
      subst hk
      exact ⟨by simp, fun g h => by simpa using h⟩
    · rw [if_neg hk]
      refine ⟨?_, fun g h => ?_⟩
      · rw [List.map_cons]
        exact List.mem_cons_of_mem _ i1
      · rw [List.map_cons] at h ⊢
        rcases List.mem_cons.mp h with e | e
        · exact List.mem_cons.mpr (.inl e)
        · exact List.mem_cons_of_mem _ (i2 g e)
theorem length_putF (f : Str) (v : V) : ∀ fs : List (Str × V), (putF f v fs).length ≤ fs.length + 1
  | [] => by simp [putF]
  | (k, x) :: r => by
    have ih := length_putF f v r
    rw [show putF f v ((k, x) :: r) = (if k = f then (k, v) :: r else (k, x) :: putF f v r) from rfl]
    by_cases hk : k = f
    · rw [if_pos hk, List.length_cons, List.length_cons]; lia
    · rw [if_neg hk, List.length_cons, List.length_cons]; lia

theorem RelO.some_of {v : V} {o : Option Value} (r : RelO (some v) o) : ∃ u, o = some u ∧ RelV v u := by
  cases o with
  | none => exact (show False from r).elim
  | some u => exact ⟨u, rfl, r⟩
theorem RelO.none_of {o : Option Value} (r : RelO none o) : o = none := by
  cases o with
  | none => rfl
  | some u => exact (show False from r).elim
theorem handed_of {v : V} {u : Value} (r : RelV v u) : PySem.W.handedIn u = true := by
  cases v with
  | non => cases (show u = Value.none from r); rfl
  | bl b => cases (show u = Value.bool b from r); rfl
  | int i => obtain ⟨t, e⟩ := (show ∃ t, u = Value.int i t from r); cases e; rfl
  | str x => obtain ⟨t, e⟩ := (show ∃ t, u = Value.str x t from r); cases e; rfl
  | byt b => obtain ⟨t, e⟩ := (show ∃ t, u = Value.bytes b t from r); cases e; rfl
  | flt b => obtain ⟨t, e⟩ := (show ∃ t, u = Value.float b t from r); cases e; rfl
  | ref a => cases (show u = Value.ref a from r); rfl
  | ty n => cases (show u = Value.type n from r); rfl

section
variable {P : Program} {w : World} {H H' : Hp} {h h' : Heap} {a C dx : Addr} {fs fs' : List (Str × V)}
theorem ins_get (hok : HOk P w H h) (e : H a = some (.ins C dx fs)) : ∃ mA, ObjM h a dx C mA ∧ (∀ f, RelO (fs.lookup f) (mA f)) ∧ PySem.Within mA (fs.map (·.1)) ∧ fs.length ≤ 1000 ∧ H dx = some (.own a) := by
  obtain ⟨d, z, ne, ob, mA, n, r, q⟩ := (show ObjOk P w H h a (.ins C dx fs) from hok a _ e)
  exact ⟨mA, ⟨ob, n, ne⟩, r, q, z, d⟩
end

/-! ### what of the text a class must have -/
structure Cls (K : PySem.W.Frag) (C : Addr) : Prop where
  pg : PySem.W.plainGet K C Str.empty = true
  hd : PySem.W.hasDictIn K C = true
  po : PySem.W.plainOver K C = true
  sa : PySem.W.findIn K (.ref C) "__setattr__" = some (some (.builtin "object.__setattr__"))
theorem Cls.get {K : PySem.W.Frag} {C : Addr} (c : Cls K C) (f : Str) : PySem.W.plainGet K C f = true := c.pg
/-- no class of it has the name -/
def NoAttr (K : PySem.W.Frag) (C : Addr) (f : Str) : Prop := PySem.W.findIn K (.ref C) f = some none
theorem NoAttr.taker {K : PySem.W.Frag} {C : Addr} {f : Str} (n : NoAttr K C f) : PySem.W.takerIn K C f = some none := by
  unfold PySem.W.takerIn
  rw [show PySem.W.findIn K (.ref C) f = some none from n]
  rfl
/-- a method: a plain def of the class or of one above it -/
structure Meth (K : PySem.W.Frag) (C : Addr) (m : Str) (f : Addr) : Prop where
  at_ : PySem.W.findIn K (.ref C) m = some (some (.ref f))
  fn : PySem.W.isFn K (.ref f) = true
  kp : PySem.W.keepIn K (.ref f) = true

section
variable {X : Cx} {pins : List (Addr × Obj)} {σ : St} {H : Hp} {s : Shared} {a C dx : Addr} {fs : List (Str × V)} {f : Str} {v : V} {A : Around} {E : Value → Shared → Prop}

theorem getattr_ok {b : Bool} {Q : Value → Shared → Prop} (I : Inv X pins σ H s) (e : H a = some (.ins C dx fs)) (c : Cls X.K C) (n : NoAttr X.K C f) (l : fs.lookup f = some v)
    (h : ∀ u s', Inv X pins σ H s' → RelV v u → Q u s') : wpAny (model X.prog X.w) A (getAttr (.ref a) f b) Q E s := by
  obtain ⟨mA, O, r, _, _, _⟩ := ins_get I.hok e
  obtain ⟨u, hu, ru⟩ := RelO.some_of (v := v) (o := mA f) (by rw [← l]; exact r f)
  exact get_map I.kIn O (c.get f) c.hd n hu (handed_of ru) (h u _ (I.tok _) ru)

theorem getmeth_ok {m : Str} {g : Addr} {pl : Sem Bool} {Q : Value × List Value → Shared → Prop} (I : Inv X pins σ H s) (e : H a = some (.ins C dx fs)) (c : Cls X.K C) (k : Meth X.K C m g) (l : fs.lookup m = none)
    (h : Q (.ref g, [.ref a]) s) : wpAny (model X.prog X.w) A (getMethod (.ref a) m pl) Q E s := by
  obtain ⟨mA, O, r, _, _, _⟩ := ins_get I.hok e
  have hn : mA m = none := RelO.none_of (by rw [← l]; exact r m)
  exact get_meth I.kIn O (c.get m) k.at_ k.fn hn h

theorem setattr_ok {y : V} {u : Value} {Q : Unit → Shared → Prop} (I : Inv X pins σ H s) (e : H a = some (.ins C dx fs)) (c : Cls X.K C) (n : NoAttr X.K C f) (hl : fs.length < 1000) (ry : RelV y u)
    (h : ∀ s', Inv X pins σ (upd H a (.ins C dx (putF f y fs))) s' → Q () s') : wpAny (model X.prog X.w) A (setAttr (.ref a) f u) Q E s := by
  obtain ⟨mA, O, r, wi, _, ho⟩ := ins_get I.hok e
  have hz : (fs.map (·.1)).length ≤ sizeLine := by rw [List.length_map, sizeLine_eq]; lia
  refine set_map I.kIn O c.sa c.po n.taker c.hd wi hz fun h' O' sb => h _ ?_
  have hd : ∃ o, h'.get? dx = some o := let ⟨o, _, _, e', _⟩ := O'.ns; ⟨o, e'⟩
  refine I.write (x := a) (e := dx) (by rw [e]; exact True.intro) (.inr ho) (fun b q hb z => (sb.2 b hb).trans z) hd ?_
  refine ⟨by rw [upd_ne O.ne]; exact ho, ?_, O.ne, O'.obj, _, O'.ns, fun g => ?_, fun g hg => ?_⟩
  · have := length_putF f y fs; lia
  · show RelO ((putF f y fs).lookup g) (if g = f then some u else mA g)
    rw [lookup_putF]
    by_cases q : g = f
    · rw [if_pos q, if_pos q]; exact ry
    · rw [if_neg q, if_neg q]; exact r g
  · by_cases q : g = f
    · rw [q]; exact (keys_putF f y fs).1
    · refine (keys_putF f y fs).2 g (wi g fun z => hg ?_)
      show (if g = f then some u else mA g) = none
      rw [if_neg q]; exact z

/-- a new instance, tracked, without attributes -/
theorem Inv.made (I : Inv X pins σ H s) : Inv X pins σ (upd (upd H s.heap.objs.size (.own (s.heap.objs.size + 1))) (s.heap.objs.size + 1) (.ins C s.heap.objs.size []))
    { s with heap := (s.heap.push PySem.W.emptyDict).push (PySem.W.instObj C s.heap.objs.size) } := by
  have e1 : (s.heap.push PySem.W.emptyDict).get? s.heap.objs.size = some PySem.W.emptyDict := Heap.get?_push_size s.heap rfl
  have e2 : ((s.heap.push PySem.W.emptyDict).push (PySem.W.instObj C s.heap.objs.size)).get? (s.heap.objs.size + 1) = some (PySem.W.instObj C s.heap.objs.size) := by
    have := Heap.get?_push_size (s.heap.push PySem.W.emptyDict) (o := PySem.W.instObj C s.heap.objs.size) rfl
    rwa [Heap.size_push] at this
  have e3 : (s.heap.push PySem.W.emptyDict).Ns s.heap.objs.size (fun _ => none) := ⟨PySem.W.emptyDict, #[], _, e1, rfl, (fun e he => absurd he (by simp)), fun _ => rfl⟩
  have I1 := I.laid (a := s.heap.objs.size) (o := .own (s.heap.objs.size + 1)) (h' := s.heap.push PySem.W.emptyDict) (t' := s.toks) (fun b u q => Heap.get?_push_of_some _ q) (Nat.le_refl _) ⟨_, e1⟩
  refine I1.laid (a := s.heap.objs.size + 1) (o := .ins C s.heap.objs.size []) (t' := s.toks) (fun b u q => Heap.get?_push_of_some _ q) (Nat.le_of_eq (Heap.size_push _ _)) ?_
  have ne : s.heap.objs.size ≠ s.heap.objs.size + 1 := Nat.ne_of_lt (Nat.lt_succ_self _)
  refine ⟨by rw [upd_ne ne, upd_same], Nat.zero_le _, ne, e2, fun _ => none, (Heap.Ns1.of_empty e3).at fun o q => Heap.get?_push_of_some _ q, fun _ => True.intro, fun y hy => absurd rfl hy⟩

/-- e.f where nothing but the object is asked: through attributeBase (super) and the last hold -/
theorem attr_of {prog : Program} {w : World} {env : Env} {e : Expr} {f : Str} {pos : Pos} {s : Shared} {Q : Value → Shared → Prop} (hb : attributeBase e f env (eval e env) = eval e env)
    (h : wpAny (model prog w) A (eval e env) (fun o s₁ => wpAny (model prog w) A (getAttr o f true) Q E s₁) E s) : wpAny (model prog w) A (eval (.Attribute e f pos) env) Q E s :=
  Attribute_any_ h (by rw [arm_eval_Attribute, hb])
end

/-! ### readings and rules -/
/-- e.f, an attribute of the instance -/
def tFld (K : PySem.W.Frag) (ta : TE) (f : Str) : TE := fun σ H Q => ta σ H fun x H1 => ∃ a C dx fs v, x = .ref a ∧ H1 a = some (.ins C dx fs) ∧ Cls K C ∧ NoAttr K C f ∧ fs.lookup f = some v ∧ Q v H1
/-- e.f = value -/
def sFld (K : PySem.W.Frag) (ta tv : TE) (f : Str) : TS := fun D σ H => tv σ H fun y H1 => ta σ H1 fun x H2 => ∃ a C dx fs, x = .ref a ∧ H2 a = some (.ins C dx fs) ∧ Cls K C ∧ NoAttr K C f ∧ fs.length < 1000 ∧
  D.nx σ (upd H2 a (.ins C dx (putF f y fs)))
section
variable {X : Cx} {o e value : Expr} {f : Str} {pos pos' tpos : Pos} {ta tv : TE}
theorem pe_fld (he : PE X e ta) (hb : attributeBase e f X.env (eval e X.env) = eval e X.env) : PE X (.Attribute e f pos) (tFld X.K ta f) := by
  intro pins s σ H Q I h
  refine attr_of hb (thn (he pins s σ H _ I h) fun u s1 ⟨x, H1, I1, rx, a, C, dx, fs, v, ex, ea, c, n, l, q⟩ => ?_)
  subst ex
  obtain rfl : u = Value.ref a := rx
  exact getattr_ok I1 ea c n l fun u' s2 I2 ru => ⟨v, H1, I2, ru, q⟩
theorem ps_fld (ha : PE X o ta) (hv : PE X value tv) (hs : swapsWith value (some (.Attribute o f pos')) pos.line X.env = pure false) : PS X (.Assign [.Attribute o f pos'] value pos) (sFld X.K ta tv f) := by
  intro pins s σ H D I h
  refine plainObj_wpAny_Assign_Attribute (thn (hv pins s σ H _ I h) fun u s1 ⟨y, H1, I1, ry, q⟩ => thn (ha pins s1 σ H1 _ I1 q) fun ov s2 ⟨x, H2, I2, rx, a, C, dx, fs, ex, ea, c, n, l, q2⟩ => ?_) hs
  subst ex
  obtain rfl : ov = Value.ref a := rx
  exact setattr_ok I2 ea c n l ry fun s3 I3 => ⟨σ, _, I3, q2⟩
end

/-! ### isinstance -/
section
variable {X : Cx} {pins : List (Addr × Obj)} {σ : St} {H : Hp} {s : Shared} {A : Around} {E : Value → Shared → Prop} {Q : Value → Shared → Prop} {c : Value} {b : Bool}
/-- the type of a value, as the fragment's deciders take it; for an instance its class -/
inductive TyOf (K : PySem.W.Frag) (H : Hp) : V → Value → Prop where
  | non : TyOf K H .non (.type "NoneType")
  | bl (x : Bool) : TyOf K H (.bl x) (.type "bool")
  | int (i : Int) : TyOf K H (.int i) (.type "int")
  | str (x : Str) : TyOf K H (.str x) (.type "str")
  | flt (x : UInt64) : TyOf K H (.flt x) (.type "float")
  | lst {a : Addr} {xs : List V} (e : H a = some (.lst xs)) : TyOf K H (.ref a) (.type "list")
  | frz {a : Addr} {o : Obj} {xs : List V} (e : H a = some (.frz o (.lst xs))) : TyOf K H (.ref a) (.type "list")
  | tup {a : Addr} {xs : List V} (e : H a = some (.tup xs)) : TyOf K H (.ref a) (.type "tuple")
  | dK {a : Addr} {kvs : List (Key × V)} (e : H a = some (.dK kvs)) : TyOf K H (.ref a) (.type "dict")
  | dT {a : Addr} {kvs : List (List Key × V)} (e : H a = some (.dT kvs)) : TyOf K H (.ref a) (.type "dict")
  | ins {a C dx : Addr} {fs : List (Str × V)} (e : H a = some (.ins C dx fs)) (cl : Cls K C) (ha : PySem.W.findIn K (.ref C) "__class__" = some (some (.builtin "object.__class__")))
      (hn : PySem.W.specialIn K (.builtin "object.__class__") "__get__" = some (some (.builtin "getset_descriptor.__get__"))) (htk : PySem.W.takesIn K (.builtin "object.__class__") = some true)
      (hm : PySem.W.mroIn K C (.type "object") = some true) : TyOf K H (.ref a) (.ref C)
/-- isinstance(x, c) for one class c, a built-in or an own one: kitOne's answer -/
theorem isinst_ok {x : V} {u t : Value} (I : Inv X pins σ H s) (rx : RelV x u) (ty : TyOf X.K H x t) (e : PySem.W.kitOne X.K t c = some b) (h : ∀ tk, Q (.bool b) { s with toks := tk }) :
    wpAny (model X.prog X.w) A (call (.builtin "isinstance") [u, c]) Q E s := by
  cases ty with
  | non => cases (show u = Value.none from rx); exact PySem.W.kia_one PySem.W.kitx_none I.kIn True.intro e (fun z => nomatch z) h
  | bl y => cases (show u = Value.bool y from rx); exact PySem.W.kia_one PySem.W.kitx_bool I.kIn True.intro e (fun z => nomatch z) h
  | int i => obtain ⟨t, q⟩ := (show ∃ t, u = Value.int i t from rx); cases q; exact PySem.W.kia_one PySem.W.kitx_int I.kIn True.intro e (fun z => nomatch z) h
  | str y => obtain ⟨t, q⟩ := (show ∃ t, u = Value.str y t from rx); cases q; exact PySem.W.kia_one PySem.W.kitx_str I.kIn True.intro e (fun z => nomatch z) h
  | flt y => obtain ⟨t, q⟩ := (show ∃ t, u = Value.float y t from rx); cases q; exact PySem.W.kia_one PySem.W.kitx_float I.kIn True.intro e (fun z => nomatch z) h
  | @lst a xs ea =>
    cases (show u = Value.ref a from rx)
    obtain ⟨_, _, n, _, h1⟩ := (show ObjOk X.prog X.w H s.heap a (.lst xs) from I.hok a _ ea)
    exact PySem.W.kia_one PySem.W.kitx_list I.kIn ⟨_, h1, rfl⟩ e (fun z => nomatch z) h
  | @frz a ob xs ea =>
    cases (show u = Value.ref a from rx)
    obtain ⟨_, _, _, n, _, h1⟩ := (show ObjOk X.prog X.w H s.heap a (.frz ob (.lst xs)) from I.hok a _ ea)
    exact PySem.W.kia_one PySem.W.kitx_list I.kIn ⟨_, h1, rfl⟩ e (fun z => nomatch z) h
  | @tup a xs ea =>
    cases (show u = Value.ref a from rx)
    obtain ⟨_, _, _, p⟩ := (show ObjOk X.prog X.w H s.heap a (.tup xs) from I.hok a _ ea)
    obtain ⟨o, h1, h2, _⟩ := p
    exact PySem.W.kia_one PySem.W.kitx_tuple I.kIn ⟨o, h1, h2⟩ e (fun z => nomatch z) h
  | @dK a kvs ea =>
    cases (show u = Value.ref a from rx)
    obtain ⟨_, _, vs, _, p⟩ := (show ObjOk X.prog X.w H s.heap a (.dK kvs) from I.hok a _ ea)
    obtain ⟨o, es, ep, h1, h2, _⟩ := p
    exact PySem.W.kia_one PySem.W.kitx_dict I.kIn ⟨o, h1, h2.1⟩ e (fun z => nomatch z) h
  | @dT a kvs ea =>
    cases (show u = Value.ref a from rx)
    obtain ⟨_, _, xs, _, o, es, ep, h1, h2, _⟩ := (show ObjOk X.prog X.w H s.heap a (.dT kvs) from I.hok a _ ea)
    exact PySem.W.kia_one PySem.W.kitx_dict I.kIn ⟨o, h1, h2.1⟩ e (fun z => nomatch z) h
  | @ins a C dx fs ea cl ha hn htk hm =>
    cases (show u = Value.ref a from rx)
    obtain ⟨mA, O, _⟩ := ins_get I.hok ea
    obtain ⟨od, J, _⟩ := O.look
    exact PySem.W.kia_one (PySem.W.kitx_own (cl.get _) cl.hd ha hn htk hm) I.kIn J e (fun z => nomatch z) h
end
end L2

namespace L2
open PySem PySem.Spec PyProof.Rows

/-! ### room -/
structure Room (k : Nat) (A : Around) : Prop where
  hd : A.handled = none
  dp : A.depth + 3 * k + 5 < recursionLimit
  un : A.units + 16 * k + 200 < cLine
theorem Room.mono {j k : Nat} {A : Around} (r : Room k A) (h : j ≤ k) : Room j A := ⟨r.hd, by have := r.dp; lia, by have := r.un; lia⟩
theorem Room.deeper {k : Nat} {A : Around} (r : Room (k + 1) A) (env : Env) : Room k (A.deeper env) :=
  ⟨r.hd, by have := r.dp; show A.depth + 1 + 3 * k + 5 < _; lia, by have := r.un; show A.units + 3 + 16 * k + 200 < _; lia⟩
theorem make_depth {A : Around} {C : Addr} {us : List Value} {kw : List (Str × Value)} : (A.under (.builtin "type.__call__" ⟨.ref C :: us, kw⟩)).depth = A.depth + 1 := by
  first | rfl | simp [Around.under, Code.weight, Code.isCreation, Code.isGuard, Code.isCaller, Code.frames, Code.isFrame, guardIds]
theorem make_units {A : Around} {C : Addr} {us : List Value} {kw : List (Str × Value)} : (A.under (.builtin "type.__call__" ⟨.ref C :: us, kw⟩)).units = A.units + 1 := by
  first | rfl | simp [Around.under, Code.cUnits, Code.frames, Code.isFrame]
theorem Room.make {k : Nat} {A : Around} (r : Room (k + 1) A) (C : Addr) (us : List Value) (kw : List (Str × Value)) : Room k (A.under (.builtin "type.__call__" ⟨.ref C :: us, kw⟩)) :=
  ⟨r.hd, by have := r.dp; rw [make_depth]; lia, by have := r.un; rw [make_units]; lia⟩
theorem Room.depth {k : Nat} {A : Around} (r : Room k A) : A.depth < recursionLimit := by have := r.dp; lia
theorem Room.units {k : Nat} {A : Around} (r : Room k A) : A.units + 64 < cLine := by have := r.un; lia
/-! ### argument lists and displays -/
def tNil : TA := fun _ H Q => Q [] H
def tCons (ta : TE) (tr : TA) : TA := fun σ H Q => ta σ H fun x H1 => tr σ H1 fun xs H2 => Q (x :: xs) H2
section
variable {X : Cx} {e : Expr} {es : List Expr} {te : TE} {t : TA} {pos : Pos}
theorem pa_nil : PA X [] tNil := fun _ _ _ _ H Q I h => Calls.spliced_nil ⟨[], H, I, .nil, h⟩
theorem pa_cons (ha : PE X e te) (hr : PA X es t) (hs : starEach (e :: es) X.env = (false, eval e X.env) :: starEach es X.env := by rfl) : PA X (e :: es) (tCons te t) := by
  intro pos pins s σ H Q I h
  rw [hs]
  show wpAny _ _ (spliced ((false, eval e X.env) :: backTo pos (starEach es X.env))) _ _ s
  refine Calls.spliced_cons (thn (ha pins s σ H _ I h) fun u s1 ⟨x, H1, I1, r1, q1⟩ => ?_)
  exact thn (hr pos pins s1 σ H1 _ I1 q1) fun us s2 ⟨xs, H2, I2, r2, q2⟩ => ⟨x :: xs, H2, I2, .cons r1 r2, q2⟩

/-- a tuple, a list of written items -/
def tTup (t : TA) : TE := fun σ H Q => t σ H fun xs H1 => xs.length ≤ sizeLine ∧ ∀ p, H1 p = none → Q (.ref p) (upd H1 p (.tup xs))
def tLst (t : TA) : TE := fun σ H Q => t σ H fun xs H1 => xs.length ≤ sizeLine ∧ ∀ p, H1 p = none → Q (.ref p) (upd H1 p (.lst xs))
theorem pe_tup {x1} (h : PA X es t) : PE X (.Tuple es x1 pos) (tTup t) := by
  intro pins s σ H Q I hq
  refine wpAny_Tuple_spliced (thn (h pos pins s σ H _ I hq) fun us s1 ⟨xs, H1, I1, r, z, q⟩ => ⟨by rw [← r.length]; exact z, ?_⟩)
  have hf : H1 s1.heap.objs.size = none := I1.hok.fresh (Nat.le_refl _)
  refine ⟨.ref s1.heap.objs.size, upd H1 s1.heap.objs.size (.tup xs), I1.laid (t' := s1.toks) (fun b u e => Heap.get?_push_of_some _ e) (Nat.le_refl _) ?_, rfl, q _ hf⟩
  exact ⟨z, us, r, ⟨_, Heap.get?_push_size _ rfl, rfl, _, rfl⟩⟩
theorem pe_lst (h : PA X es t) : PE X (.List es pos) (tLst t) := by
  intro pins s σ H Q I hq
  refine wpAny_List_spliced (thn (h pos pins s σ H _ I hq) fun us s1 ⟨xs, H1, I1, r, z, q⟩ => ⟨by rw [← r.length]; exact z, ?_⟩)
  have hf : H1 s1.heap.objs.size = none := I1.hok.fresh (Nat.le_refl _)
  refine ⟨.ref s1.heap.objs.size, upd H1 s1.heap.objs.size (.lst xs), I1.laid (t' := s1.toks) (fun b u e => Heap.get?_push_of_some _ e) (Nat.le_refl _) ?_, rfl, q _ hf⟩
  exact ⟨z, us, 0, r, Heap.get?_push_size _ rfl⟩
end

/-! ### what a def promises -/
/-- a def's promise: the bound arguments in the parameters' order, the heap, the wanted end, the wanted exception -/
abbrev Sp := List V → Hp → VK → XK → Prop
/-- how an exception lies behind a call (file 08 gives it): the callers' frames, abstract heap and state ahead of the call, the wish, the exception, the state -/
abbrev CXT := List Env → Hp → Shared → XK → Value → Shared → Prop

/-- the state at a call -/
structure Env0 (P : Program) (w : World) (K : PySem.W.Frag) (mg : Str → Option Value) (base : Heap) (A : Around) (outer : List Env) (s : Shared) (H : Hp) : Prop where
  frames : A.frames = some outer
  mod : Mod K mg base
  bs : ∀ b o, base.get? b = some o → s.heap.get? b = some o ∧ H b = none
  bsz : base.objs.size ≤ s.heap.objs.size
  funs : s.heap.FunFrames base outer
  frf : ∀ b ∈ frs outer, H b = none
  hok : HOk P w H s.heap
  bare : AllBare s.gens
/-- a call's end -/
def CE (outer : List Env) (P : Program) (w : World) (H : Hp) (s : Shared) (Q : VK) (u : Value) (s' : Shared) : Prop :=
  ∃ v H', s'.os = s.os ∧ AllBare s'.gens ∧ Un (frs outer) [] H H' s.heap s'.heap ∧ HOk P w H' s'.heap ∧ RelV v u ∧ Q v H'
def CR (CX : CXT) (outer : List Env) (P : Program) (w : World) (H : Hp) (s : Shared) (Q : VK) (E : XK) (r : Result) (s' : Shared) : Prop :=
  match r with
  | .ok (.ret u) => CE outer P w H s Q u s'
  | .ok _ => False
  | .error e => CX outer H s E e s'
structure FnOk (P : Program) (w : World) (K : PySem.W.Frag) (mg : Str → Option Value) (base : Heap) (CX : CXT) (k : Nat) (f : Addr) (fd : FuncData) (ps : List Str) (sp : Sp) : Prop where
  len : ∀ vs H Q E, sp vs H Q E → vs.length = ps.length
  run : ∀ (A : Around) (outer : List Env) (s : Shared) (H : Hp) (args : Args) (us : List Value) (vs : List V) (Q : VK) (E : XK), Room k A → Env0 P w K mg base A outer s H → BindsTo s fd args (ps.zip us) → Vals vs us → sp vs H Q E →
    codeAny (model P w) A (.call (.ref f) args) (CR CX outer P w H s Q E) s
theorem Env0.make {P : Program} {w : World} {K : PySem.W.Frag} {mg : Str → Option Value} {base : Heap} {A : Around} {outer : List Env} {s : Shared} {H : Hp} (e : Env0 P w K mg base A outer s H) (C : Addr) (us : List Value) (kw : List (Str × Value)) :
    Env0 P w K mg base (A.under (.builtin "type.__call__" ⟨.ref C :: us, kw⟩)) outer s H := ⟨by first | exact e.frames | (simpa [Around.under, Code.envs, Code.isFrame, pushEnvs] using e.frames), e.mod, e.bs, e.bsz, e.funs, e.frf, e.hok, e.bare⟩
section
variable {X : Cx} {pins : List (Addr × Obj)} {σ : St} {H : Hp} {s s' : Shared}
/-- from a body: what a callee wants -/
theorem Inv.env0 (I : Inv X pins σ H s) : Env0 X.prog X.w X.K X.mg X.base X.A X.stack s H :=
  ⟨I.ok.frames, I.ok.mod, I.bs, Nat.le_trans I.ok.bsz I.sz, I.stack, I.stkFree, I.hok, I.bare⟩
/-- behind a call -/
theorem Inv.after {Q : VK} {u : Value} (I : Inv X pins σ H s) (h : CE X.stack X.prog X.w H s Q u s') : EP X pins σ Q u s' := by
  obtain ⟨v, H', os, bare, un, hok, r, q⟩ := h
  obtain ⟨hh, g, d, t, os'⟩ := s'
  obtain rfl : os' = s.os := os
  exact ⟨v, H', I.call (h' := hh) (g' := g) (d' := d) (t' := t) (ch := []) un hok bare (fun b z => absurd z (by simp)), r, q⟩
end

/-! ### calls -/
/-- f(..): the written arguments, then the defaults dvs; E: what is wanted of an exception -/
def tCall (sp : Sp) (dvs : List V) (E : XK) (t : TA) : TE := fun σ H Q => t σ H fun vs H1 => sp (vs ++ dvs) H1 Q E
/-- o.m(..) of an instance of the class at C -/
def tMeth (C : Addr) (m : Str) (sp : Sp) (dvs : List V) (E : XK) (ta : TE) (t : TA) : TE := fun σ H Q => ta σ H fun x H1 => ∃ a dx fs, x = .ref a ∧ H1 a = some (.ins C dx fs) ∧ fs.lookup m = none ∧
  t σ H1 fun vs H2 => sp (x :: (vs ++ dvs)) H2 Q E
/-- C(..): a new instance and its dict, then __init__ -/
def tMake (C : Addr) (sp : Sp) (dvs : List V) (E : XK) (t : TA) : TE := fun σ H Q => t σ H fun vs H1 => ∀ x dx, H1 x = none → H1 dx = none → dx ≠ x →
  sp (.ref x :: (vs ++ dvs)) (upd (upd H1 dx (.own x)) x (.ins C dx [])) (fun v H2 => v = .non ∧ Q (.ref x) H2) E

/-- how the parameters are bound: us the positional arguments, kw the keywords' values by name, ds the defaults that fill up -/
def Binds (K : PySem.W.Frag) (fd : FuncData) (ps : List Str) (ds : List Value) : Prop :=
  ∀ (s : Shared) (us : List Value), K.In s.heap → (us ++ ds).length = ps.length → BindsTo s fd ⟨us, []⟩ (ps.zip (us ++ ds))
/-- every parameter is given -/
theorem Binds.all {K : PySem.W.Frag} {fd : FuncData} {ps : List Str} (h : ∀ us : List Value, us.length = ps.length → bindArgs fd ⟨us, []⟩ = pure (ps.zip us)) : Binds K fd ps [] := fun s us _ hl => by
  rw [List.append_nil] at hl ⊢
  exact .of_eq (h us hl)

/-- an exception of a callee reaches what this body wants of exceptions -/
def Passes (CX : CXT) (X : Cx) (E : XK) : Prop := ∀ (pins : List (Addr × Obj)) (σ : St) (H : Hp) (s : Shared) (e : Value) (s' : Shared), Inv X pins σ H s → CX X.stack H s E e s' → X.xe e s'

section
variable {X : Cx} {CX : CXT} {k : Nat} {f C : Addr} {fd : FuncData} {ps : List Str} {sp : Sp} {dvs : List V} {ds : List Value} {E : XK} {x m : Str} {p pos apos : Pos} {e o : Expr} {es : List Expr} {ta : TE} {t : TA}

/-- the callee runs -/
theorem run_fn {pins : List (Addr × Obj)} {σ : St} {H : Hp} {s : Shared} {Q : VK} {us : List Value} {vs : List V} (F : FnOk X.prog X.w X.K X.mg X.base CX k f fd ps sp) (hr : Room k X.A) (hb : Binds X.K fd ps ds) (hd : Vals dvs ds) (hx : Passes CX X E)
    (I : Inv X pins σ H s) (r : Vals vs us) (h : sp (vs ++ dvs) H Q E) : wpAny (model X.prog X.w) X.A (call (.ref f) us) (EP X pins σ Q) X.xe s := by
  have r2 : Vals (vs ++ dvs) (us ++ ds) := r.append hd
  have hl : (us ++ ds).length = ps.length := by rw [← r2.length]; exact F.len _ _ _ _ h
  refine wpAny_call (codeAny_mono (F.run X.A X.stack s H ⟨us, []⟩ (us ++ ds) (vs ++ dvs) Q E hr I.env0 (hb s us I.kIn hl) r2 h) fun r s' hq => ?_)
  cases r with
  | error e => exact hx pins σ H s e s' I hq
  | ok fl =>
    cases fl with
    | ret u => exact I.after hq
    | next => exact False.elim hq
    | brk => exact False.elim hq
    | cont => exact False.elim hq

theorem pe_call (F : FnOk X.prog X.w X.K X.mg X.base CX k f fd ps sp) (hr : Room k X.A) (hg : Gl X x) (hm : X.mg x = some (.ref f)) (hk : PySem.W.keepIn X.K (.ref f) = true) (hb : Binds X.K fd ps ds) (hd : Vals dvs ds) (hx : Passes CX X E)
    (ha : PA X (e :: es) t) (hdb : (x == ("__debug__" : Str)) = false := by decide) (he : starEach (e :: es) X.env = (false, eval e X.env) :: starEach es X.env := by rfl) (hpl : (backTo pos (starEach es X.env)).any (·.1) = false := by rfl) :
    PE X (.Call (.Name x p) (e :: es) [] pos) (tCall sp dvs E t) := by
  intro pins s σ H Q I h
  refine wpAny_Call_Name_kw (ld_glob I hg hm ?_ hdb)
  refine PySem.W.callWith_K (h₀ := X.base) I.ok.mod.kin hk (thn (ha pos pins s σ H _ I h) fun us s1 ⟨vs, H1, I1, r, q⟩ => ⟨I1.kIn, ?_⟩) he hpl
  exact run_fn F hr hb hd hx I1 r q
/-- o.m(e, ..) -/
theorem pe_meth {pl : Sem Bool} (he : PE X o ta) (c : Cls X.K C) (hm : Meth X.K C m f) (F : FnOk X.prog X.w X.K X.mg X.base CX k f fd ps sp) (hr : Room k X.A) (hb : Binds X.K fd ps ds) (hd : Vals dvs ds) (hx : Passes CX X E) (ha : PA X (e :: es) t)
    (hst : starEach (e :: es) X.env = (false, eval e X.env) :: starEach es X.env := by rfl) (hpl : (backTo pos (starEach es X.env)).any (·.1) = false := by rfl)
    (ht : eval (.Call (.Attribute o m apos) (e :: es) [] pos) X.env = (do
      let ov ← eval o X.env
      standAt apos.atName
      let (f, first) ← holding [ov] (getMethod ov m pl)
      callWith pos f first (backTo pos (starEach (e :: es) X.env)) (backToKw pos (keywordEach [] X.env))) := by rfl) :
    PE X (.Call (.Attribute o m apos) (e :: es) [] pos) (tMeth C m sp dvs E ta t) := by
  intro pins s σ H Q I h
  refine PySem.W.methodCall_KW (pl := pl) (thn (he pins s σ H _ I h) fun u s1 ⟨x, H1, I1, rx, a, dx, fs, ex, ea, l, q⟩ => ?_) ht
  subst ex
  obtain rfl : u = Value.ref a := rx
  refine getmeth_ok I1 ea c hm l ?_
  refine PySem.W.callWith_K (first := [.ref a]) (h₀ := X.base) I.ok.mod.kin hm.kp (thn (ha pos pins s1 σ H1 _ I1 q) fun us s2 ⟨vs, H2, I2, r, q2⟩ => ⟨I2.kIn, ?_⟩) hst hpl
  exact run_fn (us := .ref a :: us) (vs := .ref a :: vs) F hr hb hd hx I2 (.cons rfl r) q2
/-- what a class must have to be made -/
structure Mk (K : PySem.W.Frag) (C f : Addr) : Prop where
  makes : PySem.W.makesIn K C = true
  init : PySem.W.findIn K (.ref C) "__init__" = some (some (.ref f))
  fn : PySem.W.isFn K (.ref f) = true
  kp : PySem.W.keepIn K (.ref C) = true

theorem run_make {pins : List (Addr × Obj)} {σ : St} {H : Hp} {s : Shared} {Q : VK} {us : List Value} {vs : List V} (M : Mk X.K C f) (F : FnOk X.prog X.w X.K X.mg X.base CX k f fd ps sp) (hr : Room (k + 1) X.A) (hb : Binds X.K fd ps ds) (hd : Vals dvs ds)
    (hx : Passes CX X E) (I : Inv X pins σ H s) (r : Vals vs us)
    (h : ∀ x dx, H x = none → H dx = none → dx ≠ x → sp (.ref x :: (vs ++ dvs)) (upd (upd H dx (.own x)) x (.ins C dx [])) (fun v H2 => v = .non ∧ Q (.ref x) H2) E) :
    wpAny (model X.prog X.w) X.A (call (.ref C) us) (EP X pins σ Q) X.xe s := by
  have hq := h (s.heap.objs.size + 1) s.heap.objs.size (I.hok.fresh (Nat.le_succ _)) (I.hok.fresh (Nat.le_refl _)) (Nat.ne_of_lt (Nat.lt_succ_self _))
  have I2 := Inv.made (C := C) I
  have r2 : Vals (V.ref (s.heap.objs.size + 1) :: (vs ++ dvs)) (Value.ref (s.heap.objs.size + 1) :: (us ++ ds)) := .cons rfl (r.append hd)
  have hl : (Value.ref (s.heap.objs.size + 1) :: us ++ ds).length = ps.length := by
    have e := r2.length
    rw [F.len _ _ _ _ hq] at e
    exact e.symm
  refine wpAny_call (make_map (f := f) I.kIn M.makes M.init (beq_iff_eq.mp M.fn) (codeAny_mono (F.run _ X.stack _ _ ⟨Value.ref (s.heap.objs.size + 1) :: us, []⟩ (Value.ref (s.heap.objs.size + 1) :: (us ++ ds)) _ _ E (hr.make C us [])
    (I2.env0.make C us []) (hb _ (Value.ref (s.heap.objs.size + 1) :: us) I2.kIn hl) r2 hq) fun r s' hq' => ?_))
  cases r with
  | error e => exact hx pins σ _ _ e s' I2 hq'
  | ok fl =>
    cases fl with
    | ret u =>
      obtain ⟨v, H', I3, rv, ev, q3⟩ := I2.after hq'
      subst ev
      exact ⟨rv, ⟨V.ref (s.heap.objs.size + 1), H', I3, rfl, q3⟩⟩
    | next => exact False.elim hq'
    | brk => exact False.elim hq'
    | cont => exact False.elim hq'
theorem pe_make (M : Mk X.K C f) (F : FnOk X.prog X.w X.K X.mg X.base CX k f fd ps sp) (hr : Room (k + 1) X.A) (hg : Gl X x) (hm : X.mg x = some (.ref C)) (hb : Binds X.K fd ps ds) (hd : Vals dvs ds) (hx : Passes CX X E)
    (ha : PA X (e :: es) t) (hdb : (x == ("__debug__" : Str)) = false := by decide) (he : starEach (e :: es) X.env = (false, eval e X.env) :: starEach es X.env := by rfl) (hpl : (backTo pos (starEach es X.env)).any (·.1) = false := by rfl) :
    PE X (.Call (.Name x p) (e :: es) [] pos) (tMake C sp dvs E t) := by
  intro pins s σ H Q I h
  refine wpAny_Call_Name_kw (ld_glob I hg hm ?_ hdb)
  refine PySem.W.callWith_K (h₀ := X.base) I.ok.mod.kin M.kp (thn (ha pos pins s σ H _ I h) fun us s1 ⟨vs, H1, I1, r, q⟩ => ⟨I1.kIn, ?_⟩) he hpl
  exact run_make M F hr hb hd hx I1 r q
end

/-! ### keywords -/
section
variable {X : Cx} {CX : CXT} {k : Nat} {f C : Addr} {fd : FuncData} {ps ks : List Str} {sp : Sp} {E : XK} {x m : Str} {p pos apos kpos : Pos} {e o : Expr} {es : List Expr} {kws : List Keyword} {te ta : TE} {t tk : TA} {nm : Option Str}
variable {g : List Value → List Value → List Value} {gV : List V → List V → List V}
end

/-! ### a def's body keeps its promise -/
/-- names: the parameters first -/
structure FnScope (N P : List Str) (sc : Scope) : Prop where
  kind : sc.kind = .function
  co : sc.isCoroutine = false
  gen : sc.isGenerator = false
  nd : N.Nodup
  pre : N.take P.length = P
  par : ∀ x ∈ P, sc.names.lookup x = some .local ∨ sc.names.lookup x = some .cell
  nofree : ∀ y ∈ sc.names, y.2 ≠ .free

theorem bindL_out {kindOf : Str → Option NameKind} {x : Str} : ∀ {binds : List (Str × Value)} {m : Str → Option Value}, (∀ v, (x, v) ∉ binds) → bindL kindOf binds m x = m x
  | [], _, _ => rfl
  | (n, v) :: r, m, h => by
    unfold bindL
    rw [bindL_out fun w hw => h w (List.mem_cons_of_mem _ hw)]
    split
    · have : x ≠ n := by rintro rfl; exact h v List.mem_cons_self
      simp [this]
    · rfl
theorem bindC_out {kindOf : Str → Option NameKind} {x : Str} : ∀ {binds : List (Str × Value)} {m : Str → Option Value}, (∀ v, (x, v) ∉ binds) → bindC kindOf binds m x = m x
  | [], _, _ => rfl
  | (n, v) :: r, m, h => by
    unfold bindC
    rw [bindC_out fun w hw => h w (List.mem_cons_of_mem _ hw)]
    split
    · rfl
    · have : x ≠ n := by rintro rfl; exact h v List.mem_cons_self
      simp [this]
theorem bindL_get {kindOf : Str → Option NameKind} {x : Str} {v : Value} : ∀ {P : List Str} {vs : List Value} {i : Nat} {m : Str → Option Value}, P.Nodup → P[i]? = some x → vs[i]? = some v → kindOf x = some .local →
    bindL kindOf (P.zip vs) m x = some v
  | [], _, _, _, _, h, _, _ => by simp at h
  | _ :: _, [], _, _, _, _, h, _ => by simp at h
  | p :: P, w :: vs, 0, m, nd, h1, h2, hk => by
    simp at h1 h2; subst h1; subst h2
    show bindL kindOf ((p, w) :: P.zip vs) m p = _
    unfold bindL
    rw [bindL_out fun v hv => (List.nodup_cons.mp nd).1 (List.of_mem_zip hv).1, if_pos hk]
    simp
  | p :: P, w :: vs, i + 1, m, nd, h1, h2, hk => by
    show bindL kindOf ((p, w) :: P.zip vs) m x = _
    unfold bindL
    exact bindL_get (i := i) (List.nodup_cons.mp nd).2 (by simpa using h1) (by simpa using h2) hk
theorem bindC_get {kindOf : Str → Option NameKind} {x : Str} {v : Value} : ∀ {P : List Str} {vs : List Value} {i : Nat} {m : Str → Option Value}, P.Nodup → P[i]? = some x → vs[i]? = some v → kindOf x ≠ some .local →
    bindC kindOf (P.zip vs) m x = some v
  | [], _, _, _, _, h, _, _ => by simp at h
  | _ :: _, [], _, _, _, _, h, _ => by simp at h
  | p :: P, w :: vs, 0, m, nd, h1, h2, hk => by
    simp at h1 h2; subst h1; subst h2
    show bindC kindOf ((p, w) :: P.zip vs) m p = _
    unfold bindC
    rw [bindC_out fun v hv => (List.nodup_cons.mp nd).1 (List.of_mem_zip hv).1, if_neg hk]
    simp
  | p :: P, w :: vs, i + 1, m, nd, h1, h2, hk => by
    show bindC kindOf ((p, w) :: P.zip vs) m x = _
    unfold bindC
    exact bindC_get (i := i) (List.nodup_cons.mp nd).2 (by simpa using h1) (by simpa using h2) hk

/-- the names' values at the entry -/
def start (N : List Str) (vs : List V) : St := vs.map some ++ List.replicate (N.length - vs.length) none

/-- the context of a def's body, at its entry; an exception leaves the frame, then lies as CX says -/
def cxOf (CX : CXT) (P : Program) (w : World) (K : PySem.W.Frag) (mg : Str → Option Value) (base : Heap) (N : List Str) (qual : Str) (scope : Scope) (f : Addr) (cd : Value) (A : Around) (outer : List Env) (s : Shared) (H : Hp) (E : XK) : Cx where
  prog := P
  w := w
  K := K
  mg := mg
  base := base
  A := A.deeper (envOfC qual scope s.heap.objs.size f cd)
  N := N
  s₀ := s
  H₀ := H
  env := envOfC qual scope s.heap.objs.size f cd
  outer := outer
  stack := envOfC qual scope s.heap.objs.size f cd :: outer
  ex := []
  calm := true
  fn := fun _ => true
  pn := []
  xe := fun e s' => wpAny (model P w) (A.deeper (envOfC qual scope s.heap.objs.size f cd)) (leaving (envOfC qual scope s.heap.objs.size f cd) e) (fun _ s'' => CX outer H s E e s'') (fun e' s'' => CX outer H s E e' s'') s'

theorem cell_has {sc : Scope} {n : Nat} {x : Str} (h : sc.names.lookup x = some .cell) : ∃ c, (cellsFrom n sc.names []).lookup x = some c := by
  have q := PySem.W.cellsFrom_some sc.names n [] (.inl h)
  exact Option.isSome_iff_exists.mp q

theorem inv_start {CX : CXT} {P : Program} {w : World} {K : PySem.W.Frag} {mg : Str → Option Value} {base : Heap} {N ps : List Str} {qual : Str} {scope : Scope} {f : Addr} {cd : Value} {A : Around} {outer : List Env} {s s1 : Shared} {H : Hp} {E : XK} {us : List Value} {vs : List V}
    (S : FnScope N ps scope) (hd : A.handled = none) (e0 : Env0 P w K mg base A outer s H) (hl : vs.length = ps.length) (r : Vals vs us)
    (x : InCallC s s.heap.objs.size (bindL (envOfC qual scope s.heap.objs.size f cd).kindOf (ps.zip us) fun _ => none) (cellsFrom (s.heap.objs.size + 1) scope.names []) (bindC (envOfC qual scope s.heap.objs.size f cd).kindOf (ps.zip us) fun _ => none) s1) :
    Inv (cxOf CX P w K mg base N qual scope f cd A outer s H E) [] (start N vs) H s1 := by
  have hpl : ps.length ≤ N.length := by have := congrArg List.length S.pre; rw [List.length_take] at this; lia
  obtain ⟨h1, tk, rfl, hk⟩ := x.done
  have noA : ∀ b : Addr, b ∉ (cxOf CX P w K mg base N qual scope f cd A outer s H E).ex := fun b z => absurd (show b ∈ ([] : List Addr) from z) (by simp)
  refine ⟨⟨e0.mod, S.kind, rfl, rfl, Nat.le_refl _, fun y z c h1 h2 => ?_, fun y hy => ?_, fun y c _ h => ?_, fun _ => hd, Around.frames_deeper e0.frames, .inr ⟨rfl, rfl⟩, fun b z => absurd z (noA b), e0.bs, e0.bsz, fun b _ _ => noA b, fun b z => absurd z (noA b), e0.funs, e0.frf⟩,
    rfl, e0.bare, Un.kept hk, ⟨_, x.toInCall.ns, fun i y v h1 h2 h3 => ?_⟩, fun y c h => ⟨_, x.cell y c h⟩, e0.hok.fresh (Nat.le_refl _), fun y c h => ?_, fun p hp => absurd (show p ∈ ([] : List (Addr × Obj)) from hp) (by simp), e0.hok.kept hk, ?_⟩
  · exact name_of_addr x.apart (PySem.mem_of_lookup h1) (PySem.mem_of_lookup h2)
  · have hy : scope.names.lookup y = some .cell ∨ scope.names.lookup y = some .free := hy
    rcases hy with hy | hy
    · exact cell_has hy
    · exact absurd rfl (S.nofree _ (PySem.mem_of_lookup hy))
  · exact Nat.le_of_lt (x.above y c (PySem.mem_of_lookup h))
  · have hi : i < vs.length := by
      unfold start at h2
      by_cases hi : i < vs.length
      · exact hi
      · rw [List.getElem?_append_right (by simpa using hi)] at h2
        rw [List.getElem?_replicate] at h2
        split at h2 <;> cases h2
    have ha : vs[i]? = some v := by
      unfold start at h2
      rw [List.getElem?_append_left (by simpa using hi), List.getElem?_map] at h2
      cases e : vs[i]? with
      | none => rw [e] at h2; cases h2
      | some a => rw [e] at h2; cases h2; rfl
    obtain ⟨u, hu, rv⟩ := r.get ha
    have hp : ps[i]? = some y := by
      rw [← S.pre, List.getElem?_take_of_lt (by lia)]; exact h1
    have ndP : ps.Nodup := by rw [← S.pre]; exact S.nd.sublist (List.take_sublist _ _)
    refine ⟨u, rv, ?_⟩
    rcases S.par y (List.mem_of_getElem? hp) with k | k
    · exact .inl ⟨k, bindL_get ndP hp hu k⟩
    · obtain ⟨c, e⟩ := cell_has (n := s.heap.objs.size + 1) k
      refine .inr ⟨.inl k, c, e, ?_⟩
      have q := x.cell y c e
      rw [bindC_get ndP hp hu (by show scope.names.lookup y ≠ _; rw [k]; decide)] at q
      exact q
  · exact e0.hok.fresh (Nat.le_of_lt (x.above y c (PySem.mem_of_lookup h)))
  · unfold start
    show _ = N.length
    rw [List.length_append, List.length_map, List.length_replicate]
    lia

/-- THE RULE: a def (or a method) of the text, by its body. The body's reading t is chosen for each entry; it is run at the parameters' values -/
theorem fn_of {CX : CXT} {P : Program} {w : World} {K : PySem.W.Frag} {mg : Str → Option Value} {base : Heap} {k : Nat} {f : Addr} {name qual : Str} {params : Arguments} {body : List Stmt} {scope : Scope} {dV kV doc pm cdv ct oc : Value} {an od : Option Addr}
    {osl : Array (Option Value)} {N ps : List Str} {sp : Sp} (lk : K.lookup f = some ⟨oc, od, .func (PySem.W.fnOf name qual params body scope dV kV doc pm an cdv ct), osl⟩) (hcd : PySem.W.codeIn K cdv qual = true) (S : FnScope N ps scope)
    (len : ∀ vs H Q E, sp vs H Q E → vs.length = ps.length)
    (hbody : ∀ (A : Around) (outer : List Env) (s : Shared) (H : Hp) (vs : List V) (Q : VK) (E : XK), Room k (A.deeper (envOfC qual scope s.heap.objs.size f cdv)) → sp vs H Q E →
      ∃ t, PSs (cxOf CX P w K mg base N qual scope f cdv A outer s H E) body t ∧ t { nx := fun _ H' => Q .non H', rt := Q } (start N vs) H) :
    FnOk P w K mg base CX (k + 1) f (PySem.W.fnOf name qual params body scope dV kV doc pm an cdv ct) ps sp := by
  refine ⟨len, fun A outer s H args us vs Q E hr e0 hb r hsp => ?_⟩
  have hl := len _ _ _ _ hsp
  have KX : K.In s.heap := e0.mod.kin.keeps fun b o e => (e0.bs b o e).1
  have lim : s.heap.NoLimit := e0.mod.nolimit.keeps fun b o e => (e0.bs b o e).1
  have hkind : ∀ y ∈ ps.zip us, scope.names.lookup y.1 = some .local ∨ (scope.names.lookup y.1 = some .cell ∧ ((cellsFrom (s.heap.objs.size + 1) scope.names []).lookup y.1).isSome = true) := fun ⟨n, v⟩ hy => by
    rcases S.par n (List.of_mem_zip hy).1 with q | q
    · exact .inl q
    · exact .inr ⟨q, PySem.W.cellsFrom_some _ _ _ (.inl q)⟩
  refine codeAny_call_function hr.depth (KX _ _ lk) rfl S.co S.gen rfl (PySem.W.codeRec_of KX hcd) (hb _ _ _ _ ?_)
  refine wpAny_newFunctionEnv_cells S.kind hkind fun env he s1 x => ?_
  subst he
  refine ⟨lim.keeps x.toInCall.keep, codeAny_func ?_⟩
  obtain ⟨t, ht, hq⟩ := hbody A outer s H vs Q E (hr.deeper _) hsp
  have I : Inv (cxOf CX P w K mg base N qual scope f cdv A outer s H E) [] (start N vs) H s1 := inv_start S hr.hd e0 hl r x
  refine wpAny_mono (ht [] s1 (start N vs) H _ I hq) (fun fl s' hs => ?_) fun e s' hs => hs
  have fin : ∀ {σ' : St} {H' : Hp} {v : V} {u : Value}, Inv (cxOf CX P w K mg base N qual scope f cdv A outer s H E) [] σ' H' s' → RelV v u → Q v H' → CE outer P w H s Q u s' :=
    fun {σ' H' v u} J rv q => ⟨v, H', J.os, J.bare, J.base, J.hok, rv, q⟩
  cases fl with
  | ret u =>
    obtain ⟨v, σ', H', J, rv, q⟩ := hs
    exact fin J rv q
  | next =>
    obtain ⟨σ', H', J, q⟩ := hs
    exact fin (v := V.non) (u := Value.none) J rfl q
  | brk =>
    obtain ⟨_, _, _, q⟩ := hs
    exact False.elim q
  | cont =>
    obtain ⟨_, _, _, q⟩ := hs
    exact False.elim q
end L2

namespace L2
open PySem PySem.Spec PyProof.Rows
section
variable {X : Cx} {x : Str} {p pos : Pos} {e : Expr} {es : List Expr} {t : TA} {id T : String} {r : List V → Hp → VK → Prop}

def tCB (r : List V → Hp → VK → Prop) (t : TA) : TE := fun σ H Q => t σ H fun vs H1 => r vs H1 Q
/-- f(e, ..), f a built-in function -/
theorem pe_callB (hc : CallR X (.builtin id) r) (hg : Gl X x) (hm : X.mg x = none) (hv : bootBuiltins x = some (.builtin id)) (ha : PA X (e :: es) t) (hn : x ≠ "__name__" := by decide) (hdb : (x == ("__debug__" : Str)) = false := by decide)
    (he : starEach (e :: es) X.env = (false, eval e X.env) :: starEach es X.env := by rfl) (hpl : (backTo pos (starEach es X.env)).any (·.1) = false := by rfl) : PE X (.Call (.Name x p) (e :: es) [] pos) (tCB r t) := by
  intro pins s σ H Q I h
  refine wpAny_Call_Name_kw (ld_blt I hg hm hv ?_ hn hdb)
  exact PyProof.Rows.callWith_builtin1 (thn (ha pos pins s σ H _ I h) fun us s1 ⟨vs, H1, I1, r1, q1⟩ => hc pins s1 σ H1 vs us Q I1 r1 q1) he hpl
/-- T(e, ..), T a built-in type -/
theorem pe_callTy (hc : CallR X (.type T) r) (hg : Gl X x) (hm : X.mg x = none) (hv : bootBuiltins x = some (.type T)) (ha : PA X (e :: es) t) (hn : x ≠ "__name__" := by decide) (hdb : (x == ("__debug__" : Str)) = false := by decide)
    (he : starEach (e :: es) X.env = (false, eval e X.env) :: starEach es X.env := by rfl) (hpl : (backTo pos (starEach es X.env)).any (·.1) = false := by rfl) : PE X (.Call (.Name x p) (e :: es) [] pos) (tCB r t) := by
  intro pins s σ H Q I h
  refine wpAny_Call_Name_kw (ld_blt I hg hm hv ?_ hn hdb)
  exact PyProof.Rows.callWith_type1 (thn (ha pos pins s σ H _ I h) fun us s1 ⟨vs, H1, I1, r1, q1⟩ => hc pins s1 σ H1 vs us Q I1 r1 q1) he hpl
end
end L2

namespace HT
open PySem PyProof.Rows

section
open PySem.SeqAt
open PySem.AutoSeq1 (wpAny_loadPart')
open PySem.MeetsSeq PySem.MeetsSeq2 PySem.MeetsSeq3

end

section
variable {prog : Program} {w : World} {A : Around} {E : Value → Shared → Prop} {s : Shared}

/-! ### t[a:b], not the whole -/
/-- a slice's bound as a place among n (d where it is left out) -/
def sIx (n d : Nat) : Option Int → Nat
  | none => d
  | some v => if v < 0 then (v + (n : Int)).toNat else min v.toNat n
end
end HT

namespace L2
open PySem PySem.Spec PyProof.Rows

/-! ### the parts of a slice -/
abbrev TO := St → Hp → (Option Int → Hp → Prop) → Prop
/-- a slice's part (left out, or an int) -/
def PO (X : Cx) (e : Option Expr) (t : TO) : Prop :=
  ∀ (pins : List (Addr × Obj)) (s : Shared) (σ : St) (H : Hp) (Q : Option Int → Hp → Prop), Inv X pins σ H s → t σ H Q →
    wpAny (model X.prog X.w) X.A (evalPart e X.env) (fun u s' => ∃ o H', Inv X pins σ H' s' ∧ IsPart u o ∧ Q o H') X.xe s
def tNoPart : TO := fun _ H Q => Q none H
def tPart (t : TE) : TO := fun σ H Q => t σ H fun x H1 => ∃ i, x = .int i ∧ Q (some i) H1

section
variable {X : Cx} {e : Expr} {te : TE} {lo hi : Option Expr} {tl th : TO} {pos p2 : Pos}

theorem po_none : PO X none tNoPart := by
  intro pins s σ H Q I h
  rw [evalPart_none]
  exact wpAny_pure ⟨none, H, I, .none, h⟩
theorem po_some (h : PE X e te) : PO X (some e) (tPart te) := by
  intro pins s σ H Q I hw
  rw [evalPart_some]
  refine thn (h pins s σ H _ I hw) fun u s1 ⟨x, H1, I1, r1, q1⟩ => ?_
  obtain ⟨i, rfl, q⟩ := q1
  obtain ⟨t, rfl⟩ := r1
  exact ⟨some i, H1, I1, .int i t, q⟩

/-- what a slice of a value is, by values: the slice object stands at sl -/
def SlR (X : Cx) (r : V → Option Int → Option Int → Hp → VK → Prop) : Prop :=
  ∀ (pins : List (Addr × Obj)) (s : Shared) (σ : St) (H : Hp) (x : V) (v vl vu : Value) (lo hi : Option Int) (sl : Addr) (Q : VK), Inv X pins σ H s → RelV x v → s.heap.IsSliceOf sl vl vu .none → IsPart vl lo → IsPart vu hi → r x lo hi H Q →
    ∃ T id, typeLookup (.type T) "__getitem__" = pure (some (.builtin id)) ∧ s.TypeIs v T ∧ wpAny (model X.prog X.w) X.A (getItem v (.ref sl)) (EP X pins σ Q) X.xe s
def tSl (r : V → Option Int → Option Int → Hp → VK → Prop) (te : TE) (tl th : TO) : TE := fun σ H Q => te σ H fun x H1 => tl σ H1 fun l H2 => th σ H2 fun u H3 => r x l u H3 Q
/-- a[lo:hi], any a -/
theorem pe_slice {r : V → Option Int → Option Int → Hp → VK → Prop} (hr : SlR X r) (he : PE X e te) (hl : PO X lo tl) (hu : PO X hi th) : PE X (.Subscript e (.Slice lo hi none p2) pos) (tSl r te tl th) := by
  intro pins s σ H Q I h
  refine Subscript_ (thn (he pins s σ H _ I h) fun v s1 ⟨x, H1, I1, r1, q1⟩ => ?_)
  refine wpAny_Slice (thn (hl pins s1 σ H1 _ I1 q1) fun vl s2 ⟨l, H2, I2, pl, q2⟩ => thn (hu pins s2 σ H2 _ I2 q2) fun vu s3 ⟨u, H3, I3, pu, q3⟩ => ?_)
  rw [evalPart_none]
  refine wpAny_pure ?_
  have I4 : Inv X pins σ H3 { s3 with heap := s3.heap.push { cls := .type "slice", data := .fields #[vl, vu, .none] } } := I3.kept (t' := s3.toks) fun b ob q => Heap.get?_push_of_some _ q
  obtain ⟨T, id, hT, ht, hg⟩ := hr pins { s3 with heap := s3.heap.push { cls := .type "slice", data := .fields #[vl, vu, .none] } } σ H3 x v vl vu l u s3.heap.objs.size Q I4 r1 (Heap.IsSliceOf.new ..) pl pu q3
  show wpAny (model X.prog X.w) X.A (subscriptTail e (.Slice lo hi none p2) v (.ref s3.heap.objs.size)) (EP X pins σ Q) X.xe { s3 with heap := s3.heap.push { cls := .type "slice", data := .fields #[vl, vu, .none] } }
  exact tail_any (ops := [.ref s3.heap.objs.size, v]) ht hT hg (by with_unfolding_all rfl)

/-- the items of xs[lo:hi] -/
def cutV (xs : List V) (lo hi : Option Int) : List V := (xs.drop (HT.sIx xs.length 0 lo)).take (HT.sIx xs.length xs.length hi - HT.sIx xs.length 0 lo)
theorem cutV_length (xs : List V) (lo hi : Option Int) : (cutV xs lo hi).length ≤ xs.length := by
  unfold cutV
  rw [List.length_take, List.length_drop]
  lia
/-! ### t < u, t + u -/
end
end L2

namespace L2
open PySem PySem.Spec PyProof.Rows

/-! ### places -/
/-- the place that an index of any sign means -/
def ixN (n : Nat) (i : Int) : Option Nat := if 0 ≤ i then (if i < n then some i.toNat else none) else if -(n : Int) ≤ i then some (i + n).toNat else none
def atI {α : Type} (xs : List α) (i : Int) : Option α := (ixN xs.length i).bind fun j => xs[j]?
theorem ixN_seq {n : Nat} {i : Int} {j : Nat} (h : ixN n i = some j) : seqIndex? i n = some j ∧ j < n ∧ -(n : Int) ≤ i ∧ i < n := by
  unfold ixN at h
  by_cases h0 : 0 ≤ i
  · rw [if_pos h0] at h
    by_cases h1 : i < n
    · rw [if_pos h1] at h
      have e : i.toNat = j := Option.some.inj h
      exact ⟨by rw [seqIndex_of h0 h1, e], by lia, by lia, h1⟩
    · rw [if_neg h1] at h; cases h
  · rw [if_neg h0] at h
    by_cases h1 : -(n : Int) ≤ i
    · rw [if_pos h1] at h
      have e : (i + n).toNat = j := Option.some.inj h
      exact ⟨by rw [seqIndex_neg (by lia) h1, e], by lia, h1, by lia⟩
    · rw [if_neg h1] at h; cases h
theorem atI_get {α : Type} {xs : List α} {i : Int} {v : α} (h : atI xs i = some v) : ∃ j, seqIndex? i xs.length = some j ∧ xs[j]? = some v ∧ j < xs.length ∧ -(xs.length : Int) ≤ i ∧ i < xs.length := by
  unfold atI at h
  cases e : ixN xs.length i with
  | none => rw [e] at h; cases h
  | some j =>
    rw [e] at h
    obtain ⟨h1, h2, h3, h4⟩ := ixN_seq e
    exact ⟨j, h1, h, h2, h3, h4⟩
theorem atI_nat {α : Type} {xs : List α} {j : Nat} {v : α} (h : xs[j]? = some v) : atI xs (j : Int) = some v := by
  have hj : j < xs.length := (List.getElem?_eq_some_iff.mp h).1
  have e : ixN xs.length (j : Int) = some j := by
    unfold ixN
    rw [if_pos (by lia), if_pos (by lia)]; simp
  unfold atI; rw [e]; exact h
/-! ### what may be subscripted -/
/-- what stands as an index of a plain subscript -/
def PlainIx (b : Expr) : Prop := ∀ o i, subscripted b false o i = operate [o, i] (getItem o i)
/-- a subscript by values -/
def IxR (X : Cx) (r : R2) : Prop :=
  ∀ (value slice : Expr) (pins : List (Addr × Obj)) (s : Shared) (σ : St) (H : Hp) (x y : V) (v u : Value) (Q : VK), Inv X pins σ H s → RelV x v → RelV y u → r x y H Q →
    subscripted slice false v u = operate [v, u] (getItem v u) → wpAny (model X.prog X.w) X.A (subscriptTail value slice v u) (EP X pins σ Q) X.xe s
/-- a call of a builtin's method by values: the receiver, the arguments -/
def MtR (X : Cx) (id : String) (r : V → List V → Hp → VK → Prop) : Prop :=
  ∀ (pins : List (Addr × Obj)) (s : Shared) (σ : St) (H : Hp) (x : V) (xs : List V) (v : Value) (us : List Value) (Q : VK), Inv X pins σ H s → RelV x v → Vals xs us → r x xs H Q →
    wpAny (model X.prog X.w) X.A (call (.builtin id) (v :: us)) (EP X pins σ Q) X.xe s
section
variable {X : Cx} {a b : Expr} {ta tb : TE} {pos : Pos}
/-- a[b] -/
theorem pe_ix {r : R2} (hr : IxR X r) (ha : PE X a ta) (hb : PE X b tb) (hs : PlainIx b) : PE X (.Subscript a b pos) (tOp r ta tb) := by
  intro pins s σ H Q I h
  exact Subscript_ (binT ha hb I h fun v u s2 x y H2 I2 rx ry q => hr a b pins s2 σ H2 x y v u Q I2 rx ry q (hs _ _))

def rIxL (K : PySem.W.Frag) : R2 := fun x y H Q => ∃ p xs i v, x = .ref p ∧ y = .int i ∧ SqL K H p xs ∧ atI xs i = some v ∧ Q v H
def rIxT (K : PySem.W.Frag) : R2 := fun x y H Q => ∃ p xs i v, x = .ref p ∧ y = .int i ∧ SqT K H p xs ∧ atI xs i = some v ∧ Q v H
def rIxS : R2 := fun x y H Q => ∃ z i c, x = .str z ∧ y = .int i ∧ z.length ≤ sizeLine ∧ atI z.cps.toList i = some c ∧ Q (.str ⟨#[c]⟩) H
theorem ix_list : IxR X (rIxL X.K) := by
  intro value slice pins s σ H x y v u Q I rx ry h hs
  obtain ⟨p, xs, i, z, rfl, rfl, hq, he, q⟩ := h
  cases rx
  obtain ⟨t, rfl⟩ := ry
  obtain ⟨its, r, pl, hz⟩ := I.list hq
  obtain ⟨j, h1, h2, h3, h4, h5⟩ := atI_get he
  obtain ⟨w, ew, rw'⟩ := r.get h2
  have hl := r.length
  have hn := line63
  have fin : EP X pins σ Q w s := ⟨z, H, I, rw', q⟩
  by_cases h0 : 0 ≤ i
  · have hj : i.toNat = j := by
      rw [seqIndex_of h0 h5] at h1
      exact Option.some.inj h1
    exact item_listR pl.isList h0 (by lia) (by rw [hj]; simpa using ew) fin hs
  · have hj : (i + (its.toArray.size : Int)).toNat = j := by
      rw [seqIndex_neg (by lia) h4] at h1
      rw [List.size_toArray, ← hl]
      exact Option.some.inj h1
    exact subscriptTail_builtinR (x := w) pl.isList.typeIs slot_list_getitem.lookup
      (wpAny_getItem_list_neg (Q := fun r s' => r = w ∧ EP X pins σ Q r s') pl.isList (by lia) (by rw [List.size_toArray] <;> lia) (by lia) (by rw [hj]; simpa using ew) ⟨rfl, fin⟩) hs
theorem ix_tup : IxR X (rIxT X.K) := by
  intro value slice pins s σ H x y v u Q I rx ry h hs
  obtain ⟨p, xs, i, z, rfl, rfl, hq, he, q⟩ := h
  cases rx
  obtain ⟨t, rfl⟩ := ry
  obtain ⟨its, r, pl, hz⟩ := I.tuple hq
  obtain ⟨j, h1, h2, h3, h4, h5⟩ := atI_get he
  obtain ⟨w, ew, rw'⟩ := r.get h2
  have hl := r.length
  have hn := line63
  have fin : EP X pins σ Q w s := ⟨z, H, I, rw', q⟩
  exact subscriptTail_builtinR (x := w) pl.typeIs slot_tuple_getitem.lookup
    (getItem_tuple (j := j) (Q := fun r s' => r = w ∧ EP X pins σ Q r s') pl (by lia) (by lia) (by rw [List.size_toArray, ← hl]; exact h1) (by simpa using ew) ⟨rfl, fin⟩) hs
theorem ix_str : IxR X rIxS := by
  intro value slice pins s σ H x y v u Q I rx ry h hs
  obtain ⟨z, i, c, rfl, rfl, hz, he, q⟩ := h
  obtain ⟨t, rfl⟩ := rx
  obtain ⟨t', rfl⟩ := ry
  obtain ⟨j, h1, h2, h3, h4, h5⟩ := atI_get he
  have hl : z.cps.toList.length = z.length := by simp [Str.length]
  rw [hl] at h1 h4 h5
  have hn := line63
  exact tail_any (typeIs_str s z t) slot_str_getitem.lookup (getItem_str (c := c) (by
    have e1 : decide (i < -(2 ^ 63 : Int)) = false := decide_eq_false (by lia)
    have e2 : decide (i ≥ 2 ^ 63) = false := decide_eq_false (by lia)
    rw [e1, e2, Bool.or_false]) (by rw [h1]; simpa using h2) ⟨.str ⟨#[c]⟩, H, I.tok _, ⟨_, rfl⟩, q⟩) hs
/-! ### xs[i] = v, any sign -/
/-! ### slices -/
theorem slice_bounds (lo hi : Option Int) (n : Nat) : (sliceBounds lo hi none n).1 = ((HT.sIx n 0 lo : Nat) : Int) ∧ (sliceBounds lo hi none n).2.1 = ((HT.sIx n n hi : Nat) : Int) ∧ (sliceBounds lo hi none n).2.2 = 1 := by
  refine ⟨?_, ?_, rfl⟩
  · cases lo with
    | none => simp [sliceBounds, HT.sIx]
    | some i =>
      simp only [sliceBounds, HT.sIx, Option.getD_none, show (1 : Int) > 0 by decide, if_true]
      by_cases h : i < 0
      · simp only [h, if_true] <;> lia
      · simp only [h, if_false] <;> lia
  · cases hi with
    | none => simp [sliceBounds, HT.sIx]
    | some i =>
      simp only [sliceBounds, HT.sIx, Option.getD_none, show (1 : Int) > 0 by decide, if_true]
      by_cases h : i < 0
      · simp only [h, if_true] <;> lia
      · simp only [h, if_false] <;> lia
theorem slicePick_cut (its : List Value) (lo hi : Option Int) : slicePick its.toArray lo hi none = ((its.drop (HT.sIx its.length 0 lo)).take (HT.sIx its.length its.length hi - HT.sIx its.length 0 lo)).toArray := by
  obtain ⟨h1, h2, h3⟩ := slice_bounds lo hi its.toArray.size
  unfold slicePick
  rw [h1, h2, h3]
  simp only [sliceRange_one, pick_run, List.size_toArray] <;> rfl
/-- xs[lo:hi] of a list: a new list -/
def rSlL (K : PySem.W.Frag) : V → Option Int → Option Int → Hp → VK → Prop := fun x lo hi H Q => ∃ a xs, x = .ref a ∧ SqL K H a xs ∧ ∀ p, H p = none → Q (.ref p) (upd H p (.lst (cutV xs lo hi)))
theorem sl_list : SlR X (rSlL X.K) := by
  intro pins s σ H x v vl vu lo hi sl Q I rx hs pl pu h
  obtain ⟨a, xs, rfl, hx, q⟩ := h
  cases rx
  obtain ⟨its, r, ht, hz⟩ := I.list hx
  have hlen := r.length
  refine ⟨"list", _, slot_list_getitem.lookup, ht.isList.typeIs, ?_⟩
  refine wpAny_getItem_list_slice ht.isList hs pl pu .none (by simp) ?_ (by rw [List.size_toArray] <;> lia)
  rw [slicePick_cut, ← hlen]
  refine ⟨.ref s.heap.objs.size, _, I.laid (t' := s.toks) (o := .lst (cutV xs lo hi)) (fun b ob q => Heap.get?_push_of_some _ q) (Nat.le_refl _) ?_, rfl, q _ (I.hok.fresh (Nat.le_refl _))⟩
  exact ⟨Nat.le_trans (cutV_length xs lo hi) hz, _, 0, (r.drop (HT.sIx xs.length 0 lo)).take (HT.sIx xs.length xs.length hi - HT.sIx xs.length 0 lo), Heap.get?_push_size _ rfl⟩

/-! ### in, not in: flat items -/
def flatV : V → Bool
  | .non => true
  | .bl _ => true
  | .int _ => true
  | .str _ => true
  | _ => false
/-- == of flat values -/
def eqV : V → V → Bool
  | .non, .non => true
  | .bl a, .bl b => a == b
  | .bl a, .int b => (if a then 1 else 0) == b
  | .int a, .bl b => a == (if b then 1 else 0)
  | .int a, .int b => a == b
  | .str a, .str b => a == b
  | _, _ => false
theorem eqAt_V {A : Around} {s : Shared} {y x : V} {u v : Value} (ry : RelV y u) (rx : RelV x v) (fy : flatV y = true) (fx : flatV x = true) : SeqAt.EqAt A s u v (eqV y x) := by
  cases y with
  | non =>
    cases ry
    cases x with
    | non => cases rx; exact SeqAt.EqAt.same _
    | bl b => cases rx; exact SeqAt.EqAt.none_bool b
    | int b => obtain ⟨t, rfl⟩ := rx; exact SeqAt.EqAt.none_int b t
    | str b => obtain ⟨t, rfl⟩ := rx; exact SeqAt.EqAt.none_str b t
    | _ => exact absurd (show false = true from fx) Bool.false_ne_true
  | bl a =>
    cases ry
    cases x with
    | non => cases rx; exact SeqAt.EqAt.bool_none a
    | bl b => cases rx; exact SeqAt.EqAt.bool_bool a b
    | int b => obtain ⟨t, rfl⟩ := rx; exact SeqAt.EqAt.bool_int a b t
    | str b => obtain ⟨t, rfl⟩ := rx; exact SeqAt.EqAt.bool_str a b t
    | _ => exact absurd (show false = true from fx) Bool.false_ne_true
  | int a =>
    obtain ⟨t', rfl⟩ := ry
    cases x with
    | non => cases rx; exact SeqAt.EqAt.int_none a t'
    | bl b => cases rx; exact SeqAt.EqAt.int_bool a t' b
    | int b => obtain ⟨t, rfl⟩ := rx; exact SeqAt.EqAt.int_int a t' b t
    | str b => obtain ⟨t, rfl⟩ := rx; exact SeqAt.EqAt.int_str a t' b t
    | _ => exact absurd (show false = true from fx) Bool.false_ne_true
  | str a =>
    obtain ⟨t', rfl⟩ := ry
    cases x with
    | non => cases rx; exact SeqAt.EqAt.str_none a t'
    | bl b => cases rx; exact SeqAt.EqAt.str_bool a t' b
    | int b => obtain ⟨t, rfl⟩ := rx; exact SeqAt.EqAt.str_int a t' b t
    | str b => obtain ⟨t, rfl⟩ := rx; exact SeqAt.EqAt.str_str a t' b t
    | _ => exact absurd (show false = true from fx) Bool.false_ne_true
  | _ => exact absurd (show false = true from fy) Bool.false_ne_true
/-- the items' answers, read off the values (a value's own answer does not lean on its token) -/
def eqU (x : V) (u : Value) : Bool := match u with
  | .none => eqV .non x
  | .bool b => eqV (.bl b) x
  | .int i _ => eqV (.int i) x
  | .str z _ => eqV (.str z) x
  | _ => false
theorem eqU_of {x y : V} {u : Value} (r : RelV y u) (f : flatV y = true) : eqU x u = eqV y x := by
  cases y with
  | non => cases r; rfl
  | bl b => cases r; rfl
  | int i => obtain ⟨t, rfl⟩ := r; rfl
  | str z => obtain ⟨t, rfl⟩ := r; rfl
  | _ => exact absurd (show false = true from f) Bool.false_ne_true
theorem any_eqU {x : V} : ∀ {xs : List V} {us : List Value}, Vals xs us → xs.all flatV = true → us.any (eqU x) = xs.any fun y => eqV y x
  | _, _, .nil, _ => rfl
  | y :: xs, u :: us, .cons r t, f => by
    rw [List.all_cons, Bool.and_eq_true] at f
    rw [List.any_cons, List.any_cons, eqU_of r f.1, any_eqU t f.2]
theorem mem_eqAt {A : Around} {s : Shared} {x : V} {v : Value} (rx : RelV x v) (fx : flatV x = true) : ∀ {xs : List V} {us : List Value}, Vals xs us → xs.all flatV = true → ∀ u ∈ us, SeqAt.EqAt A s u v (eqU x u)
  | _, _, .nil, _ => fun u hu => by cases hu
  | y :: xs, u :: us, .cons r t, f => fun u' hu => by
    rw [List.all_cons, Bool.and_eq_true] at f
    rcases List.mem_cons.mp hu with rfl | hu
    · rw [eqU_of r f.1]; exact eqAt_V r rx f.1 fx
    · exact mem_eqAt rx fx t f.2 u' hu
def inV (x : V) (xs : List V) : Bool := xs.any fun y => eqV y x
/-- x in a list or tuple of flat items -/
def rIn (K : PySem.W.Frag) (neg : Bool) : R2 := fun x y H Q => ∃ p xs, y = .ref p ∧ (SqL K H p xs ∨ SqT K H p xs) ∧ flatV x = true ∧ xs.all flatV = true ∧ Q (.bl (if neg then !inV x xs else inV x xs)) H
theorem op_in_seq : OpR X (compareOp .In) (rIn X.K false) := by
  intro pins s σ H x y v u Q I rx ry h
  obtain ⟨p, xs, rfl, hq, fx, fs, q⟩ := h
  cases ry
  rcases hq with hq | hq
  · obtain ⟨its, r, pl, hz⟩ := I.list hq
    refine SeqAt.in_listAt (eqU x) pl.isList (fun w hw => mem_eqAt rx fx r fs w (by simpa using hw)) ⟨.bl _, H, I, rfl, ?_⟩
    rw [show its.toArray.any (eqU x) = its.any (eqU x) by simp, any_eqU r fs]
    exact q
  · obtain ⟨its, r, pl, hz⟩ := I.tuple hq
    refine SeqAt.in_tupleAt (eqU x) pl (fun w hw => mem_eqAt rx fx r fs w (by simpa using hw)) ⟨.bl _, H, I, rfl, ?_⟩
    rw [show its.toArray.any (eqU x) = its.any (eqU x) by simp, any_eqU r fs]
    exact q
/-! ### len, list(x), tuple(x) of any list or tuple that is read -/
theorem call_len_seq : CallR X (.builtin "len") (fun xs H Q => ∃ p ys, xs = [.ref p] ∧ (SqL X.K H p ys ∨ SqT X.K H p ys) ∧ Q (.int ys.length) H) := by
  intro pins s σ H xs us Q I r h
  obtain ⟨p, ys, rfl, hq, q⟩ := h
  obtain ⟨u, rfl, rx⟩ := vals1 r
  cases rx
  have hn := line63
  rcases hq with hq | hq
  · obtain ⟨its, r', pl, hz⟩ := I.list hq
    have hlen := r'.length
    exact Calls.call_len_list pl.isList (by simp only [List.size_toArray] <;> lia) ⟨.int ys.length, H, I.tok _, ⟨s.toks + 1, by rw [List.size_toArray, hlen]⟩, q⟩
  · obtain ⟨its, r', pl, hz⟩ := I.tuple hq
    have hlen := r'.length
    exact len_tuple pl (by simp only [List.size_toArray] <;> lia) ⟨.int ys.length, H, I.tok _, ⟨s.toks + 1, by rw [List.size_toArray, hlen]⟩, q⟩
theorem call_len_str : CallR X (.builtin "len") (fun xs H Q => ∃ z, xs = [.str z] ∧ z.length ≤ sizeLine ∧ Q (.int z.length) H) := by
  intro pins s σ H xs us Q I r h
  obtain ⟨z, rfl, hz, q⟩ := h
  obtain ⟨u, rfl, t, rfl⟩ := vals1 r
  have hn := line63
  exact len_str (by lia) ⟨.int z.length, H, I.tok _, ⟨_, rfl⟩, q⟩
theorem call_tuple_of : CallR X (.type "tuple") (fun xs H Q => ∃ p ys, xs = [.ref p] ∧ ((SqL X.K H p ys ∧ ∀ l, H l = none → Q (.ref l) (upd H l (.tup ys))) ∨ (SqT X.K H p ys ∧ Q (.ref p) H))) := by
  intro pins s σ H xs us Q I r h
  obtain ⟨p, ys, rfl, h⟩ := h
  obtain ⟨u, rfl, rx⟩ := vals1 r
  cases rx
  rcases h with ⟨hq, q⟩ | ⟨hq, q⟩
  · obtain ⟨its, r', pl, hz⟩ := I.list hq
    have hlen := r'.length
    refine call_tuple_list pl.isList (fun h' kp => ?_) (by simp only [List.size_toArray] <;> lia)
    have I1 : Inv X pins σ H { s with heap := h' } := I.kept (t' := s.toks) kp
    have I2 : Inv X pins σ (upd H h'.objs.size (.tup ys)) { s with heap := h'.push { cls := .type "tuple", data := .seq its.toArray } } :=
      I1.laid (t' := s.toks) (fun b o e => Heap.get?_push_of_some _ e) (Nat.le_refl _) (show ObjOk X.prog X.w _ _ _ (.tup ys) from ⟨hz, its, r', IsTup.new _ _⟩)
    exact ⟨.ref h'.objs.size, _, I2, rfl, q _ (I1.hok.fresh (Nat.le_refl _))⟩
  · obtain ⟨its, r', pl, hz⟩ := I.tuple hq
    exact call_tuple_same pl ⟨.ref p, H, I, rfl, q⟩

/-! ### the call of a builtin's method: o.m(..) -/
/-- the value is of that builtin type -/
def tyV (K : PySem.W.Frag) (T : String) (x : V) (H : Hp) : Prop := match x with
  | .str _ => T = "str"
  | .int _ => T = "int"
  | .ref p => (T = "list" ∧ ∃ xs, SqL K H p xs) ∨ (T = "tuple" ∧ ∃ o, K.lookup p = some o ∧ o.cls = .type "tuple" ∧ o.dict = none) ∨
      (T = "dict" ∧ ((∃ kvs, H p = some (.dK kvs)) ∨ ∃ kvs, H p = some (.dT kvs))) ∨ (T = "set" ∧ ∃ S n, H p = some (.set S n))
  | _ => False
theorem tyV_is {pins : List (Addr × Obj)} {σ : St} {H : Hp} {s : Shared} {T : String} {x : V} {v : Value} (I : Inv X pins σ H s) (r : RelV x v) (ty : tyV X.K T x H) :
    s.TypeIs v T ∧ ∀ a, v = .ref a → ∃ ob, s.heap.get? a = some ob ∧ ob.dict = none := by
  cases x with
  | str z =>
    obtain ⟨t, rfl⟩ := r
    cases (show T = "str" from ty)
    exact ⟨typeIs_str s z t, fun _ e => nomatch e⟩
  | int i =>
    obtain ⟨t, rfl⟩ := r
    cases (show T = "int" from ty)
    exact ⟨typeIs_int s i t, fun _ e => nomatch e⟩
  | ref p =>
    cases r
    rcases ty with ⟨rfl, xs, hq⟩ | ⟨rfl, o, hk, hc, hd⟩ | ⟨rfl, hk⟩ | ⟨rfl, S, n, hk⟩
    · obtain ⟨its, _, pl, _⟩ := I.list hq
      refine ⟨pl.isList.typeIs, fun a e => ?_⟩
      cases e
      obtain ⟨o, n, e, c, hd, _⟩ := pl
      exact ⟨o, e, hd⟩
    · refine ⟨⟨o, I.kIn p o hk, hc⟩, fun a e => ?_⟩
      cases e
      exact ⟨o, I.kIn _ o hk, hd⟩
    · have z : ∃ o, s.heap.get? p = some o ∧ o.ExactDict := by
        rcases hk with ⟨kvs, hk⟩ | ⟨kvs, hk⟩
        · obtain ⟨_, _, _, _, o, _, _, e, ex, _⟩ := I.hok p _ hk
          exact ⟨o, e, ex⟩
        · obtain ⟨_, _, _, _, o, _, _, e, ex, _⟩ := I.hok p _ hk
          exact ⟨o, e, ex⟩
      obtain ⟨o, e, ex⟩ := z
      refine ⟨⟨o, e, ex.1⟩, fun a e2 => ?_⟩
      cases e2
      exact ⟨o, e, ex.2.1⟩
    · obtain ⟨o, _, _, _, e, ex, _⟩ := I.hok p _ hk
      refine ⟨⟨o, e, ex.1⟩, fun a e2 => ?_⟩
      cases e2
      exact ⟨o, e, ex.2.1⟩
  | _ => exact False.elim ty
def tBM (K : PySem.W.Frag) (T : String) (r : V → List V → Hp → VK → Prop) (to : TE) (t : TA) : TE := fun σ H Q => to σ H fun x H1 => tyV K T x H1 ∧ t σ H1 fun xs H2 => r x xs H2 Q
variable {o e : Expr} {es : List Expr} {to : TE} {t : TA} {name : Str} {apos cpos : Pos} {T id : String} {r : V → List V → Hp → VK → Prop}
theorem pe_bm (pa : PlainAttrs T) (slot : Slot T name id) (hty : typeOf (.builtin id) = pure (.type "method_descriptor")) (hm : MtR X id r) (ho : PE X o to) (ha : PA X (e :: es) t)
    (hbase : attributeBase o name X.env (eval o X.env) = eval o X.env := by rfl)
    (hfew : ((backTo cpos (starEach (e :: es) X.env)).all (fun x => !x.1) && (backToKw cpos (keywordEach [] X.env)).all (fun x => x.1.isSome)
      && decide ((e :: es).length + ([] : List Keyword).length + (if ([] : List Keyword).isEmpty then 0 else 1) < 30)) = true := by rfl)
    (hline : (apos.endLine == cpos.line) = true := by rfl) (hs : starEach (e :: es) X.env = (false, eval e X.env) :: starEach es X.env := by rfl) (hplain : (backTo cpos (starEach es X.env)).any (·.1) = false := by rfl) :
    PE X (.Call (.Attribute o name apos) (e :: es) [] cpos) (tBM X.K T r to t) := by
  intro pins s σ H Q I h
  refine wpAny_Call_method_late hbase hfew hline rfl (thn (ho pins s σ H _ I h) fun v s1 ⟨x, H1, I1, r1, ty, q1⟩ => ?_)
  obtain ⟨h1, h2⟩ := tyV_is I1 r1 ty
  refine ⟨T, id, pa, slot, hty, h1, h2, ?_⟩
  have hA := ha cpos pins s1 σ H1 _ I1 q1
  rw [hs] at hA ⊢
  refine Calls.callWith_builtin (by show (false || (backTo cpos (starEach es X.env)).any (·.1)) = false; rw [hplain] <;> rfl) (Calls.evalArgs_plain ?_)
  exact thn hA fun us s2 ⟨vs, H2, I2, r2, q2⟩ => hm pins s2 σ H2 x vs v us Q I2 r1 r2 q2
/- xs.append(e), list.index on a module's tuple .. are MtR facts of 06m -/
end
end L2

namespace L2
open PySem PySem.Spec PyProof.Rows

def MtM (X : Cx) (id : String) (r : V → List V → Hp → VK → Prop) : Prop :=
  ∀ (pins : List (Addr × Obj)) (s : Shared) (σ : St) (H : Hp) (x : V) (xs : List V) (v : Value) (us : List Value) (Q : VK), Inv X pins σ H s → RelV x v → Vals xs us → r x xs H Q →
    wpAny (model X.prog X.w) X.A (call (.builtin id) (v :: us)) (EP X pins σ Q) X.xe s

/-! ### lists of values -/
theorem Vals.one : ∀ {x : V} {us : List Value}, Vals [x] us → ∃ u, us = [u] ∧ RelV x u
  | _, _, .cons r .nil => ⟨_, rfl, r⟩
theorem Vals.two : ∀ {x y : V} {us : List Value}, Vals [x, y] us → ∃ u v, us = [u, v] ∧ RelV x u ∧ RelV y v := by
  intro x y us h; cases h with
  | cons r t => cases t with
    | cons q t => cases t; exact ⟨_, _, rfl, r, q⟩
theorem Vals.rep {xs : List V} {us : List Value} (h : Vals xs us) : ∀ k : Nat, Vals (List.replicate k xs).flatten (List.replicate k us).flatten
  | 0 => .nil
  | k + 1 => by
    rw [List.replicate_succ, List.replicate_succ, List.flatten_cons, List.flatten_cons]
    exact Vals.append h (Vals.rep h k)
theorem foldl_rep (its : List Value) : ∀ (k : Nat) (acc : List Value),
    List.foldl (fun x1 x2 => x1 ++ x2) acc.toArray (List.replicate k its.toArray) = (acc ++ (List.replicate k its).flatten).toArray
  | 0, acc => by simp
  | k + 1, acc => by
    have e : acc.toArray ++ its.toArray = (acc ++ its).toArray := by simp
    have e2 : (acc ++ its) ++ (List.replicate k its).flatten = acc ++ (List.replicate (k + 1) its).flatten := by
      rw [List.replicate_succ, List.flatten_cons, List.append_assoc]
    rw [← e2, ← foldl_rep its k (acc ++ its), ← e, List.replicate_succ, List.foldl_cons]

section
variable {X : Cx} {pins : List (Addr × Obj)} {σ : St} {H : Hp} {s : Shared} {l b : Addr} {xs ys zs : List V}

/-! ### the two steps: a tracked list is rewritten, a new list is laid -/
theorem Inv.lset {its its' : List Value} {n : Nat} {f : Array Value → Array Value} {t' : Nat} (I : Inv X pins σ H s) (hH : H l = some (.lst xs))
    (e : s.heap.get? l = some { cls := .type "list", data := .seq its.toArray n }) (hf : f its.toArray = its'.toArray) (hv : Vals ys its') (hz : ys.length ≤ sizeLine) :
    Inv X pins σ (upd H l (.lst ys)) { s with heap := s.heap.update l (Obj.mapSeq f), toks := t' } := by
  have q := PySem.IsL.update e f
  rw [hf] at q
  refine I.write (x := l) (e := l) (by rw [hH]; exact trivial) (.inl rfl) (fun b' u hb hu => (Heap.get?_update_other s.heap (Obj.mapSeq f) (Ne.symm hb)).trans hu) ⟨_, q⟩ ?_
  exact ⟨hz, its', _, hv, q⟩
theorem Inv.lnew {its : List Value} {t' : Nat} (I : Inv X pins σ H s) (hv : Vals ys its) (hz : ys.length ≤ sizeLine) :
    Inv X pins σ (upd H s.heap.objs.size (.lst ys)) { s with heap := s.heap.push { cls := .type "list", data := .seq its.toArray }, toks := t' } :=
  I.laid (fun _ _ q => Heap.get?_push_of_some _ q) (Nat.le_refl _) ⟨hz, its, 0, hv, Heap.get?_push_size _ rfl⟩
theorem Inv.fresh (I : Inv X pins σ H s) : H s.heap.objs.size = none := I.hok.fresh (Nat.le_refl _)
theorem Inv.lstM (I : Inv X pins σ H s) (hH : H l = some (.lst xs)) : xs.length ≤ sizeLine ∧ ∃ (its : List Value) (n : Nat), Vals xs its ∧ xs.length = its.length ∧ s.heap.get? l = some { cls := .type "list", data := .seq its.toArray n } := by
  obtain ⟨z, its, n, r, e⟩ := I.hok l _ hH
  exact ⟨z, its, n, r, r.length, e⟩

theorem notLongL {n : Nat} (h : n ≤ sizeLine) : Builtin.List.listTooLong n = false := by
  unfold Builtin.List.listTooLong
  exact decide_eq_false (by lia)
end

section
variable {X : Cx}

/-! ### methods -/
def rAppend : V → List V → Hp → VK → Prop := fun x vs H Q => ∃ l xs y, x = .ref l ∧ vs = [y] ∧ H l = some (.lst xs) ∧ xs.length < sizeLine ∧ Q .non (upd H l (.lst (xs ++ [y])))
theorem mt_append : MtM X "list.append" rAppend := by
  intro pins s σ H x vs v us Q I rx rv h
  obtain ⟨l, xs, y, rfl, rfl, hH, hz, q⟩ := h
  cases rx
  obtain ⟨u, rfl, ru⟩ := rv.one
  obtain ⟨z, its, n, r, hl, e⟩ := I.lstM hH
  refine call_meets F.slot_list_append ⟨_, e, rfl⟩ F.entry_list_append (F.args_list_append_2 _ _) (PySem.list_append l its.toArray n u (by rw [List.size_toArray]; lia)) ⟨e, ?_⟩
  refine ⟨.non, _, I.lset (its' := its ++ [u]) hH e (by simp) (r.append (.cons ru .nil)) ?_, rfl, q⟩
  rw [List.length_append, List.length_singleton]
  lia

/-! ### list + list, list += list, list * int -/
def rCat : R2 := fun x y H Q => ∃ l b xs zs, x = .ref l ∧ y = .ref b ∧ H l = some (.lst xs) ∧ H b = some (.lst zs) ∧ xs.length + zs.length ≤ sizeLine ∧ ∀ p, H p = none → Q (.ref p) (upd H p (.lst (xs ++ zs)))
theorem op_cat : OpR X (binaryOp .Add) rCat := by
  intro pins s σ H x y v u Q I rx ry h
  obtain ⟨l, b, xs, zs, rfl, rfl, hH, hB, hz, q⟩ := h
  cases rx
  cases ry
  obtain ⟨z, its, n, r, hl, e⟩ := I.lstM hH
  obtain ⟨z2, its2, n2, r2, hl2, e2⟩ := I.lstM hB
  refine PySem.P.add_list e e2 ?_ (by rw [List.size_toArray, List.size_toArray]; lia)
  have ea : its.toArray ++ its2.toArray = (its ++ its2).toArray := by simp
  rw [ea]
  exact ⟨.ref _, _, I.lnew (t' := s.toks) (r.append r2) (by rw [List.length_append]; lia), rfl, q _ I.fresh⟩
/-- a list times an int (a negative one is nothing) -/
def rRep : R2 := fun x y H Q => ∃ l k xs, x = .ref l ∧ y = .int k ∧ H l = some (.lst xs) ∧ -(2 ^ 63) ≤ k ∧ k < 2 ^ 63 ∧ xs.length * k.toNat ≤ sizeLine ∧
  ∀ p, H p = none → Q (.ref p) (upd H p (.lst (List.replicate k.toNat xs).flatten))
theorem len_rep {α : Type} (xs : List α) (k : Nat) : (List.replicate k xs).flatten.length = k * xs.length := by
  induction k with
  | zero => simp
  | succ k ih => rw [List.replicate_succ, List.flatten_cons, List.length_append, ih, Nat.succ_mul, Nat.add_comm]
theorem op_rep : OpR X (binaryOp .Mult) rRep := by
  intro pins s σ H x y v u Q I rx ry h
  obtain ⟨l, k, xs, rfl, rfl, hH, h1, h2, hz, q⟩ := h
  cases rx
  obtain ⟨t, rfl⟩ := ry
  obtain ⟨z, its, n, r, hl, e⟩ := I.lstM hH
  have hlen : its.toArray.size * k.toNat ≤ sizeLine := by rw [List.size_toArray, ← hl]; exact hz
  have hcap : ¬ its.toArray.size * k.toNat > (2 ^ 63 - 1) / 8 := by
    have : (sizeLine : Nat) ≤ (2 ^ 63 - 1) / 8 := by decide
    lia
  have hfit : ¬ (!Builtin.List.listFitsIndex k) = true := by
    rw [fitsIndex_both h1 h2]
    exact Bool.false_ne_true
  have hlong : ¬ Builtin.List.listTooLong (its.toArray.size * k.toNat) = true := by
    rw [notLongL hlen]
    exact Bool.false_ne_true
  have hnew : List.foldl (fun x1 x2 => x1 ++ x2) #[] (List.replicate (if its.toArray.isEmpty = true then 0 else k.toNat) its.toArray) = (List.replicate k.toNat its).flatten.toArray := by
    have f0 : ∀ m : Nat, List.foldl (fun x1 x2 => x1 ++ x2) #[] (List.replicate m its.toArray) = (List.replicate m its).flatten.toArray := fun m => by
      have := foldl_rep its m []
      rw [List.nil_append] at this
      exact this
    rw [f0]
    cases its with
    | nil => simp
    | cons a r' => rw [if_neg (by simp)]
  refine wpAny_binaryOp_repeat_ref (T := "list") (U := "int") (by decide) ⟨_, e, rfl⟩ (fun s' => typeIs_int s' k t) noFill_list_mul F.fills_int_mul F.slot_int_rmul repeat_list F.slot_int_index.lookup
    (call_meets F.slot_int_rmul (typeIs_int s k t) F.entry_int_rmul (F.args_int_rmul_2 _ _) (int___rmul___int_list k t l its.toArray n)
      ⟨e, rfl, ⟨_, e, rfl⟩, call_meets F.slot_list_mul ⟨_, e, rfl⟩ F.entry_list_mul (F.args_list_mul_2 _ _) (AutoListH.list___mul___list_int_3 l its.toArray n k t hfit hcap hlong) ⟨e, ?_⟩⟩)
  rw [hnew]
  exact ⟨.ref _, _, I.lnew (t' := s.toks) (r.rep k.toNat) (by rw [len_rep, Nat.mul_comm]; exact hz), rfl, q _ I.fresh⟩

/-! ### del xs[i] -/
end

/-! ### xs[a:b] = ys -/
section
variable {prog : Program} {w : World} {A : Around} {E : Value → Shared → Prop} {s : Shared}
end

section
variable {X : Cx}
end
end L2

namespace Att
open PySem PySem.W PySem.Calls PyProof.Rows

/-! ### the script -/
theorem ints_of_wellAll {P : Params} {h : Heap} : ∀ (ns : List Int) (vs : List Value), WellAll P h vs (ns.map WData.int) → IntsAre vs ns := by
  intro ns
  induction ns with
  | nil =>
    intro vs w
    rw [List.map_nil] at w
    cases w
    exact .nil
  | cons n ns ih =>
    intro vs w
    rw [List.map_cons] at w
    cases w with
    | cons a b =>
      cases a
      exact .cons _ _ (ih _ b)

theorem script_of {l : OpenLaw} {n : Nat} (hn : l.most = some n) {P : Params} {h : Heap} {args : List WData} {vals : List Value}
    (hpre : l.row.toRowW.claim.pre args = true) (hwl : WellAll P h vals args) :
    ∃ a vs ns, vals = [Value.ref a] ∧ args = [WData.list (ns.map WData.int)] ∧ h.get? a = some { cls := .type "list", data := .seq vs.toArray } ∧ IntsAre vs ns ∧ ns.length ≤ n := by
  have hsh : WShape.hasAll [] args [.list .int] = true := (pre_splitW hpre).1
  have hc : l.pre.holds [] { args := args } = true := (pre_splitW hpre).2
  obtain ⟨d, r, rfl, h1, h2⟩ := hasAllW_cons hsh
  obtain rfl := hasAllW_nil h2
  obtain ⟨xs, rfl, h3⟩ := hasW_list h1
  obtain ⟨ns, rfl⟩ := items_int h3
  have hlen : ns.length ≤ n := by
    unfold OpenLaw.pre at hc
    have h4 : (WTm.not (.lt (.lit (.int (n : Int))) (.len (.arg 0)))).holds [] { args := [.list (ns.map .int)] } = true := by
      have h4 := (holds_andW hc).1
      rw [hn] at h4
      exact h4
    have h5 := condW_of h4 (w_not (w_lt w_lit (w_len_list (w_arg rfl))))
    rw [List.length_map] at h5
    refine Nat.le_of_not_lt fun q => ?_
    have q' : (n : Int) < ((ns.length : Nat) : Int) := by lia
    first
      | (rw [decide_eq_true q'] at h5; exact absurd h5 (by decide))
      | (simp at h5; lia)
  cases hwl with
  | cons w1 w2 =>
    cases w2
    cases w1 with
    | list ho hall => exact ⟨_, _, ns, rfl, rfl, ho, ints_of_wellAll ns _ hall, hlen⟩

theorem post_true (l : OpenLaw) (args : List WData) : l.row.toRowW.claim.post args (.bool true) args = true :=
  postW_of (r := l.row.toRowW) (X := (true == true))
    (show WShape.has [] (.bool true) .bool = true by first | rfl | decide | simp [WShape.has, WShape.arms, WShape.armsAll])
    (show (WTm.eq .res (.lit (.bool true))).value [] { args := args, res := some (.bool true), after := args } = some (.bool (true == true)) from w_eq_bool (w_res rfl) w_lit) rfl

/-! ### the attachment: holds_open's last premise (the goal 'hc' behind k_head) from a wpAny of the law's body -/
/-- the same from a codeAny of the CALL (for a layer whose function contracts speak of calls) -/
theorem attach_call {l : OpenLaw} {n : Nat} {q : Program} {loose : List Str} {XP : (Str → Option Value) → Heap → Prop} {YP : World → Heap → Prop} {d : DefRec}
    (hn : l.most = some n) (hdf : d.params.defaults = [])
    (call : ∀ (w : World) (s₀ s₁ : Shared) (mg mb : Str → Option Value) (fa : Addr) (o : Obj) (pm cd doc : Value) (a : Addr) (vs : List Value) (ns : List Int),
      Ground q loose [] XP w s₀ mg mb s₁.heap → YP w s₁.heap →
      s₁.heap.get? fa = some o → o.data = .func (docDef d.name d.params d.body d.scope pm cd doc) → s₁.heap.CodeRec cd d.name → mg d.name = some (.ref fa) →
      s₁.heap.get? a = some { cls := .type "list", data := .seq vs.toArray } → IntsAre vs ns → ns.length ≤ n → s₁.gens = #[] →
      codeAny (model l.prog w) callerA (.call (.ref fa) ⟨[.ref a], []⟩) (fun r s' => r = .ok (.ret (.bool true)) ∧ OldK s₁.heap s'.heap ∧ s'.os = s₁.os ∧ AllBare s'.gens) s₁) :
    WalkO q loose XP YP l.row.toRowW d [] (fun f vs => PySem.call f vs) := by
  intro w s₀ s₁ mg mb G Y fa o pm cd doc dV kV ho hd hcd hD hmg hg args vals as hpre hlay hrd hwl hlo
  obtain rfl : dV = .none := Dflts.none hD hdf
  obtain rfl : kV = .none := Dflts.noKw hD
  obtain ⟨a, vs, ns, rfl, rfl, hobj, hints, hlen⟩ := script_of hn hpre hwl
  refine enter_call (codeAny_mono (call w s₀ s₁ mg mb fa o pm cd doc a vs ns G Y ho (fd_plain hd) hcd hmg hobj hints hlen hg) fun r s' hq => ?_)
  obtain ⟨rfl, h2, h3, h4⟩ := hq
  exact ⟨.inl ⟨.bool true, .bool true, [], rfl, fun _ => rfl, .bool true, post_true l _, fun _ => ⟨List.Pairwise.nil, fun _ hm => (nomatch hm)⟩⟩, h2, h3, h4⟩

/-! ### rules over ANY heap (no ledger) from facts about the written part K: the library's own take a ledger (News) for what they write -/
section
variable {prog : Program} {w : World} {A : Around} {E : Value → Shared → Prop} {s : Shared} {K : Frag}

/-! the whole heap as the ledger: makes every rule that writes through a ledger a rule over any heap -/
end
end Att

namespace L2
open PySem PySem.Spec PyProof.Rows

theorem vals_ints : ∀ {vs : List Value} {ns : List Int}, IntsAre vs ns → Vals (ns.map V.int) vs
  | _, _, .nil => .nil
  | _, _, .cons n t h => .cons ⟨t, rfl⟩ (vals_ints h)

/-- nothing is tracked but the script, known to the object (or it is an object of the module) -/
def Only (H : Hp) : Prop := ∀ b, H b = none ∨ ∃ o xs, H b = some (.frz o (.lst xs))

/-- THE HEAD: the law's promise, at the heap behind the top. F, the promise of the law's def, may use that base is part of the heap (so K.In base, base.Ns mainGlobals mg stand in Mod) -/
theorem law_call {P : Program} {w : World} {K : PySem.W.Frag} {mg mb : Str → Option Value} {CX : CXT} {k : Nat} {fa a : Addr} {fd : FuncData} {x : Str} {sp : Sp} {s₁ : Shared} {vs : List Value} {ns : List Int}
    (KX : K.In s₁.heap) (hns : s₁.heap.Ns mainGlobals mg) (hb : s₁.heap.Ns builtinsNs mb) (hbb : ∀ x : Str, x ≠ "__name__" → mb x = bootBuiltins x) (hlim : s₁.heap.NoLimit) (hg : s₁.gens = #[])
    (ha : s₁.heap.get? a = some { cls := .type "list", data := .seq vs.toArray }) (hi : IntsAre vs ns) (hl : ns.length ≤ sizeLine) (hr : Room k callerA)
    (F : ∀ base : Heap, K.In base → base.Ns mainGlobals mg → FnOk P w K mg base CX k fa fd [x] sp) (hbind : ∀ (s : Shared) (u : Value), BindsTo s fd ⟨[u], []⟩ [(x, u)])
    (hsp : ∀ H : Hp, Only H → SqL K H a (ns.map V.int) → sp [.ref a] H (fun v _ => v = .bl true) fun _ _ _ => False)
    (hCX : ∀ H e s', CX [] H s₁ (fun _ _ _ => False) e s' → False) :
    codeAny (model P w) callerA (.call (.ref fa) ⟨[.ref a], []⟩) (fun r s' => r = .ok (.ret (.bool true)) ∧ OldK s₁.heap s'.heap ∧ s'.os = s₁.os ∧ AllBare s'.gens) s₁ := by
  have rv := vals_ints hi
  have lenV := hi.length
  -- from an abstract heap in which nothing but the script may be tracked
  have core : ∀ H : Hp, Only H → SqL K H a (ns.map V.int) → HOk P w H s₁.heap → (∀ b, H b ≠ none → b = a) → (H a ≠ none → K.lookup a = none) →
      codeAny (model P w) callerA (.call (.ref fa) ⟨[.ref a], []⟩) (fun r s' => r = .ok (.ret (.bool true)) ∧ OldK s₁.heap s'.heap ∧ s'.os = s₁.os ∧ AllBare s'.gens) s₁ := by
    intro H hO hS hok hA hK
    have base_of : ∀ {b : Addr} {o : Obj}, s₁.heap.get? b = some o → H b = none → (hidT s₁.heap H).get? b = some o := fun e n => hidT_get e n
    have noA : ∀ {b : Addr} {o : Obj} {es : Array DictEntry} {ep : Nat}, s₁.heap.get? b = some o → o.data = .dict es ep → H b = none := fun {b o es ep} e d => by
      cases q : H b with
      | none => rfl
      | some u =>
        have e' : b = a := hA b (by rw [q]; simp)
        subst e'
        rw [ha] at e; cases e
        have d' : Data.seq vs.toArray _ = Data.dict es ep := d
        cases d'
    have nsK : ∀ {b : Addr} {m : Str → Option Value}, s₁.heap.Ns b m → (hidT s₁.heap H).Ns b m := fun {b m} ⟨o, es, ep, e, d, r⟩ => ⟨o, es, ep, base_of e (noA e d), d, r⟩
    have hKb : K.In (hidT s₁.heap H) := fun b o e => base_of (KX b o e) (by
      cases q : H b with
      | none => rfl
      | some u =>
        have e' : b = a := hA b (by rw [q]; simp)
        subst e'
        rw [hK (by rw [q]; simp)] at e; cases e)
    have hM : Mod K mg (hidT s₁.heap H) := ⟨hKb, nsK hns, ⟨mb, nsK hb, hbb⟩, let ⟨mc, h1, h2⟩ := hlim; ⟨mc, nsK h1, h2⟩⟩
    have e0 : Env0 P w K mg (hidT s₁.heap H) callerA [] s₁ H := ⟨rfl, hM, fun b o e => of_hidT e, Nat.le_of_eq (hidT_size _ _), trivial, fun b hb => absurd (show b ∈ ([] : List Addr) from hb) (by simp), hok, .of_eq hg⟩
    refine codeAny_mono ((F _ hKb (nsK hns)).run callerA [] s₁ H ⟨[.ref a], []⟩ [.ref a] [.ref a] _ _ hr e0 (hbind s₁ (.ref a)) (.cons rfl .nil) (hsp H hO hS)) fun r s' h => ?_
    cases r with
    | error e => exact (hCX H e s' h).elim
    | ok fl =>
      cases fl with
      | next => exact False.elim h
      | brk => exact False.elim h
      | cont => exact False.elim h
      | ret u =>
        obtain ⟨v, H', os, bare, un, hok', r', q⟩ := h
        have q' : v = .bl true := q
        subst q'
        obtain rfl : u = Value.bool true := r'
        refine ⟨rfl, OldK.of_keep fun b o e => ?_, os, bare⟩
        cases q : H b with
        | none => exact un.keep b o e q (by intro z; exact absurd (show b ∈ ([] : List Addr) from z) (by simp)) (by simp)
        | some u =>
          rcases hO b with z | ⟨ob, xs, z⟩
          · rw [q] at z; cases z
          · have z2 := un.frzs b ob _ z
            obtain ⟨e1, _⟩ := hok b _ z
            obtain ⟨e2, _⟩ := hok' b _ z2
            rw [e] at e1; cases e1
            exact e2
  cases hk : K.lookup a with
  | some o =>
    -- the script is one of the module's own objects
    have e := KX a o hk
    rw [ha] at e
    cases e
    refine core (fun _ => none) (fun _ => .inl rfl) (.inr ⟨_, vs.toArray, _, hk, rfl, rfl, rfl, by rw [List.size_toArray, lenV]; exact hl, by simpa using rv⟩) (fun b u z => by have z' : (none : Option HO) = some u := z; cases z') (fun b z => absurd rfl z) fun z => absurd rfl z
  | none =>
    refine core (fun b => if b = a then some (.frz { cls := .type "list", data := .seq vs.toArray } (.lst (ns.map V.int))) else none) (fun b => ?_) (.inl (.inr ⟨{ cls := .type "list", data := .seq vs.toArray }, if_pos rfl⟩)) (fun b u z => ?_) (fun b z => ?_) fun _ => hk
    · by_cases hb : b = a
      · exact .inr ⟨_, _, if_pos hb⟩
      · exact .inl (if_neg hb)
    · by_cases hb : b = a
      · have z' := (if_pos hb).symm.trans z
        cases z'
        subst hb
        exact ⟨ha, by rw [List.length_map]; exact hl, vs, _, rv, ha⟩
      · have z' := (if_neg hb).symm.trans z
        cases z'
    · by_cases hb : b = a
      · exact hb
      · exact absurd (if_neg hb) z
end L2

namespace L2
open PySem PySem.Spec PyProof.Rows

/-- the goal that k_head leaves (case hc), from the law's promise. F gives the function object fd (K's own) once, then the promise over every base -/
theorem walk_of {l : PySem.W.OpenLaw} {n k : Nat} {q : Program} {loose : List Str} {XP : (Str → Option Value) → Heap → Prop} {YP : World → Heap → Prop} {d : DefRec} {K : Params → PySem.W.Frag} {CX : World → CXT} {sp : World → Sp} {x : Str}
    (hn : l.most = some n) (hn2 : n ≤ sizeLine) (hdf : d.params.defaults = []) (hr : Room k callerA)
    (hY : ∀ (w : World) (h : Heap), YP w h → (K w.params).In h)
    (F : ∀ (w : World) (mg : Str → Option Value) (fa : Addr) (h : Heap), (K w.params).In h → h.Ns mainGlobals mg → mg d.name = some (.ref fa) →
      ∃ fd : FuncData, (∀ (s : Shared) (u : Value), BindsTo s fd ⟨[u], []⟩ [(x, u)]) ∧
        ∀ base : Heap, (K w.params).In base → base.Ns mainGlobals mg → FnOk l.prog w (K w.params) mg base (CX w) k fa fd [x] (sp w))
    (hsp : ∀ (w : World) (H : Hp) (a : Addr) (ns : List Int), ns.length ≤ n → Only H → SqL (K w.params) H a (ns.map V.int) → sp w [.ref a] H (fun v _ => v = .bl true) fun _ _ _ => False)
    (hCX : ∀ (w : World) (H : Hp) (s : Shared) (e : Value) (s' : Shared), CX w [] H s (fun _ _ _ => False) e s' → False) :
    PySem.W.WalkO q loose XP YP l.row.toRowW d [] (fun f vs => PySem.call f vs) := by
  refine Att.attach_call hn hdf fun w s₀ s₁ mg mb fa o pm cd doc a vs ns G Y ho hd hcd hmg hobj hints hlen hg => ?_
  have KX := hY w _ Y
  obtain ⟨fd, hb, hF⟩ := F w mg fa _ KX G.T.g hmg
  exact law_call KX G.T.g G.T.b G.T.builtins G.T.nolimit hg hobj hints (Nat.le_trans hlen hn2) hr hF hb (fun H hO hS => hsp w H a ns hlen hO hS) fun H e s' => hCX w H s₁ e s'
end L2

/- THE LAST THEOREM (shape; LID, My.* are yours):
   My.Adr: a structure of the addresses that your layer names (classes, functions); My.Txt K t: a structure (Prop) of the equations over K;
   My.txt_mk : {K} {implicit addresses ..} (e1 : nsIn K mainGlobals "law" = some (some (.ref f))) (e2 : K.lookup f = some ⟨oc, od, .func (fnOf "law" "law" params body scope dV kV doc pm an cdv ct), sl⟩) (e3 : codeIn K cdv "law" = true) .. : ∃ t, My.Txt K t

set_option maxRecDepth 100000 in
set_option maxHeartbeats 0 in
theorem PySem.Challenge.cw_LID_holds : PySem.Challenge.rw_LID.Holds := by
  w_on; o_law; k_head; (case hw => w_witness2)
  k_fill
  refine L2.walk_of (l := PySem.Challenge.rw_LID) (n := 63) (k := 40) (x := "script") (CX := fun w => ..) (sp := fun _ => My.sp_law) rfl (by decide) rfl ⟨rfl, by decide, by decide⟩ (fun w h Y => PySem.W.kIn_of Y) ?F ?S ?C
  case F =>
    intro w mg fa h KX G hmg
    have T : ∃ t, My.Txt (L2.KOf KX) t := by
      dsimp only [L2.KOf]                          -- K must stand as «<heap const> w.params» for k_is
      refine' My.txt_mk ?e1 ?e2 ?e3 ..
      (case e1 => PySem.W.k_is)                    -- in the order: a name -> its address -> its object -> its parts
      (case e2 => PySem.W.k_is)
      ..
    obtain ⟨t, T⟩ := T
    have e0 := hmg.symm.trans (PySem.W.mg_of KX G T.law)
    cases e0                                       -- fa is the law's own address
    exact ⟨_, fun s u => .of_eq rfl, fun base kb nb => My.law_fn T kb nb⟩     -- if «.of_eq rfl» comes too early: refine' ⟨_, ?b, fun base kb nb => My.law_fn T kb nb⟩; exact fun s u => .of_eq rfl
  case S => exact fun w H a ns hl hO hS => ..
  case C => exact ..
(the tactic k_is has no namespace: write k_is) -/

/-! SHORT WORDS over the layer: a def of the text, its body, what a loop and a test want. -/
namespace L2
open PySem PySem.Spec PyProof.Rows

/-! ### the text by places -/
/-- the j-th statement of a class's body -/
def inClass (s : Stmt) (j : Nat) : Stmt := match s with
  | .ClassDef _ _ _ body _ _ _ _ _ _ _ => body.getD j (.Pass ⟨0, 0, 0, 0⟩)
  | _ => .Pass ⟨0, 0, 0, 0⟩
def defArgs (s : Stmt) : Arguments := match s with
  | .FunctionDef _ a _ _ _ _ _ _ _ _ => a
  | _ => { posonlyargs := [], args := [], vararg := none, kwonlyargs := [], kw_defaults := [], kwarg := none, defaults := [] }
def defBody (s : Stmt) : List Stmt := match s with
  | .FunctionDef _ _ b _ _ _ _ _ _ _ => b
  | _ => []
def defScope (s : Stmt) : Scope := match s with
  | .FunctionDef _ _ _ _ _ _ sc _ _ _ => sc
  | _ => { kind := .function, names := [], isGenerator := false, isCoroutine := false }

/-! ### no exception leaves a def -/
abbrev CX0 : CXT := fun _ _ _ _ _ _ => False
abbrev E0 : XK := fun _ _ _ => False
theorem pass0 {X : Cx} : Passes CX0 X E0 := fun _ _ _ _ _ _ _ h => h.elim

/-! ### a def (or method) of the text as it stands behind the top -/
structure Fun (K : PySem.W.Frag) (x qual : Str) (st : Stmt) (f : Addr) (fd : FuncData) : Prop where
  ex : ∃ (oc : Value) (od : Option Addr) (kV doc pm : Value) (an : Option Addr) (cdv ct : Value) (osl : Array (Option Value)),
    fd = PySem.W.fnOf x qual (defArgs st) (defBody st) (defScope st) .none kV doc pm an cdv ct ∧ K.lookup f = some ⟨oc, od, .func fd, osl⟩ ∧ PySem.W.codeIn K cdv qual = true
  kp : PySem.W.keepIn K (.ref f) = true
section
variable {P : Program} {w : World} {K : PySem.W.Frag} {mg : Str → Option Value} {base : Heap}
/-- THE RULE for a def: its body as a term of rules, and the reading of that term -/
theorem Fun.ok {x qual : Str} {st : Stmt} {f : Addr} {fd : FuncData} {N ps : List Str} {k : Nat} {sp : Sp} (F : Fun K x qual st f fd) (S : FnScope N ps (defScope st)) (len : ∀ vs H Q E, sp vs H Q E → vs.length = ps.length)
    (hbody : ∀ (cdv : Value) (A : Around) (outer : List Env) (s : Shared) (H : Hp) (vs : List V) (Q : VK) (E : XK), Room k (A.deeper (envOfC qual (defScope st) s.heap.objs.size f cdv)) → sp vs H Q E →
      ∃ t, PSs (cxOf CX0 P w K mg base N qual (defScope st) f cdv A outer s H E).nox (defBody st) t ∧ t { nx := fun _ H' => Q .non H', rt := Q } (start N vs) H) : FnOk P w K mg base CX0 (k + 1) f fd ps sp := by
  obtain ⟨oc, od, kV, doc, pm, an, cdv, ct, osl, rfl, lk, hcd⟩ := F.ex
  refine fn_of lk hcd S len fun A outer s H vs Q E hr hsp => ?_
  obtain ⟨t, h, q⟩ := hbody cdv A outer s H vs Q E hr hsp
  exact ⟨t, h.nox, q⟩
/-- how its arguments bind (no defaults): h is «fun _ _ _ _ _ _ us hl => match us, hl with | [_, _], _ => rfl», one _ a parameter -/
theorem Fun.binds {x qual : Str} {st : Stmt} {f : Addr} {fd : FuncData} {ps : List Str} (F : Fun K x qual st f fd)
    (h : ∀ (kV doc pm : Value) (an : Option Addr) (cdv ct : Value) (us : List Value), us.length = ps.length → bindArgs (PySem.W.fnOf x qual (defArgs st) (defBody st) (defScope st) .none kV doc pm an cdv ct) ⟨us, []⟩ = pure (ps.zip us)) : Binds K fd ps [] := by
  obtain ⟨oc, od, kV, doc, pm, an, cdv, ct, osl, rfl, lk, hcd⟩ := F.ex
  exact .all (h kV doc pm an cdv ct)
theorem fun_mk {x qual : Str} {st : Stmt} {f : Addr} {oc : Value} {od an : Option Addr} {osl : Array (Option Value)} {kV doc pm cdv ct : Value} (l : K.lookup f = some ⟨oc, od, .func (PySem.W.fnOf x qual (defArgs st) (defBody st) (defScope st) .none kV doc pm an cdv ct), osl⟩)
    (c : PySem.W.codeIn K cdv qual = true) (k : PySem.W.keepIn K (.ref f) = true) : Fun K x qual st f (PySem.W.fnOf x qual (defArgs st) (defBody st) (defScope st) .none kV doc pm an cdv ct) := ⟨⟨oc, od, kV, doc, pm, an, cdv, ct, osl, rfl, l, c⟩, k⟩
end
/-! ### expressions in short: the name that stands in the i-th slot -/
section
variable {X : Cx}
theorem pv (i : Nat) {x : Str} {pos : Pos} (hN : X.N[i]? = some x := by rfl) (hv : Vis X.env.scope x := by first | exact Or.inl rfl | exact Or.inr (Or.inl rfl) | exact Or.inr (Or.inr rfl)) (hd : (x == ("__debug__" : Str)) = false := by decide)
    (hcd : (x == ("__classdict__" : Str)) = false := by decide) : PE X (.Name x pos) (tVar i) := pe_var hN hv hd hcd
end

/-! ### tests -/
theorem iteF {A B : Prop} (h : B) : if false = true then A else B := by
  rw [if_neg Bool.false_ne_true]
  exact h
theorem iteT {A B : Prop} (h : A) : if true = true then A else B := by
  rw [if_pos rfl]
  exact h
theorem ite2 {c A B : Prop} [Decidable c] (h1 : c → A) (h2 : ¬ c → B) : if c then A else B := by
  by_cases h : c
  · rw [if_pos h]
    exact h1 h
  · rw [if_neg h]
    exact h2 h
theorem iteNS {c A B : Prop} [Decidable c] (hc : c) (h : B) : if (!decide c) = true then A else B := by
  rw [decide_eq_true hc]
  exact iteF h

/-! ### heaps -/
/-- all that was tracked is as it was -/
def Same (H H' : Hp) : Prop := ∀ b o, H b = some o → H' b = some o
theorem Same.refl (H : Hp) : Same H H := fun _ _ h => h
theorem Same.trans {H H1 H2 : Hp} (a : Same H H1) (b : Same H1 H2) : Same H H2 := fun c o h => b c o (a c o h)
theorem Same.seq {K : PySem.W.Frag} {H H' : Hp} {a : Addr} {xs : List V} (e : Same H H') (h : SqL K H a xs) : SqL K H' a xs := by
  rcases h with (h | ⟨o, h⟩) | h
  · exact .inl (.inl (e _ _ h))
  · exact .inl (.inr ⟨o, e _ _ h⟩)
  · exact .inr h

end L2

set_option Elab.async false
set_option linter.all false
set_option maxRecDepth 100000
namespace L2
open PySem PySem.Spec PyProof.Rows

/-! ### lists of pairs as tables -/
section
variable {κ : Type} [DecidableEq κ]
end


/-! ### a tracked dict, its keys ints and texts or tuples of these -/
section
variable {P : Program} {w : World} {H : Hp} {h : Heap} {a : Addr}
end

section
variable {X : Cx} {pins : List (Addr × Obj)} {σ : St} {H : Hp} {s : Shared} {a : Addr} {y v : V} {u r : Value} {o : Option V} {A : Around} {E : Value → Shared → Prop}

end

section
variable {X : Cx} {pins : List (Addr × Obj)} {σ : St} {H : Hp} {s : Shared} {a : Addr} {kvs : List (Key × V)} {k : Key} {u : Value} {A : Around} {E : Value → Shared → Prop}
end


/-! ### readings and rules -/
section
variable {X : Cx} {o i e value : Expr} {pos pos' tpos : Pos} {td ty tv : TE}
end


/-! ### displays -/
section
variable {X : Cx} {pos : Pos}
end

/-! ### methods -/
section
variable {X : Cx} {pins : List (Addr × Obj)} {σ : St} {H : Hp} {s : Shared} {a : Addr} {y d : V} {u r : Value} {o : Option V} {A : Around} {E : Value → Shared → Prop}
end

section
variable {X : Cx} {o e f : Expr} {apos cpos : Pos} {td ty tx : TE}
end

/-! ### dict(d): a copy -/
section
variable {X : Cx} {pins : List (Addr × Obj)} {σ : St} {H : Hp} {s : Shared} {a : Addr} {kvs : List (Key × V)} {A : Around} {E : Value → Shared → Prop}
end


section
variable {X : Cx} {pins : List (Addr × Obj)} {σ : St} {H : Hp} {s : Shared} {a : Addr} {y : V} {u : Value} {A : Around} {E : Value → Shared → Prop}
end
end L2
namespace L2
open PySem PySem.Spec PyProof.Rows
section
variable {X : Cx}
end
/-! ### a dict's pairs: keys that differ -/
section
variable {κ : Type} [DecidableEq κ]
end
end L2

set_option Elab.async false
set_option linter.all false
set_option maxRecDepth 100000
/-! Refusals over the hand layer: an exception of an own class is made, leaves frames, is caught. -/
namespace L2
open PySem PySem.Spec PyProof.Rows

theorem ObjOk.be {P : Program} {w : World} {H : Hp} {h : Heap} {a : Addr} {o : HO} (x : ObjOk P w H h a o) : ∃ u, h.get? a = some u := by
  cases o with
  | lst xs => obtain ⟨_, _, _, _, e⟩ := x; exact ⟨_, e⟩
  | tup xs => obtain ⟨_, _, _, u, e, _⟩ := x; exact ⟨u, e⟩
  | dK kvs => obtain ⟨_, _, _, _, u, _, _, e, _⟩ := x; exact ⟨u, e⟩
  | dT kvs => obtain ⟨_, _, _, _, u, _, _, e, _⟩ := x; exact ⟨u, e⟩
  | set S n => obtain ⟨u, _, _, _, e, _⟩ := x; exact ⟨u, e⟩
  | ins C dx fs => obtain ⟨_, _, _, e, _⟩ := x; exact ⟨_, e⟩
  | own y => exact x
  | xd fs => obtain ⟨_, ⟨u, _, _, e, _⟩, _⟩ := x; exact ⟨u, e⟩
  | rng lo hi => obtain ⟨_, _, _, e⟩ := x; exact ⟨_, e⟩
  | frz ob u => exact ⟨_, x.1⟩
  | tbl ps => exact ⟨_, x⟩
  | met f y => exact ⟨_, x⟩
  | ext φ => exact x.2.1

/-- h' is h but at the hidden addresses; of the frames fs the slots alone may be others -/
structure Near (hid fs : List Addr) (h h' : Heap) : Prop where
  keep : ∀ b o, h.get? b = some o → b ∉ hid → h'.get? b = some o
  slot : ∀ b o, b ∈ fs → h.get? b = some o → ∃ sl, h'.get? b = some { o with slots := sl }
  sub : ∀ b, b ∈ fs → b ∈ hid
/-- from the library's words: everything but the hidden stays, the frames up to slots -/
theorem near_of {hid : List Addr} {l : List Env} {b0 h h' : Heap} (k : (PySem.W.hideAll h hid).StaysIn h') (up : h.UpToSlots h') (fr : h.FunFrames b0 l) (sub : ∀ b, b ∈ frs l → b ∈ hid) : Near hid (frs l) h h' where
  keep := fun b o q n => k b o (PySem.W.hideAll_get _ q n)
  slot := fun b o m q => by
    obtain ⟨_, o', q', d⟩ := fr.mem m
    rw [q] at q'
    cases q'
    exact up b o q d
  sub := sub
theorem hok_near {P : Program} {w : World} {H : Hp} {h h' : Heap} {hid fs : List Addr} (hok : HOk P w H h) (n : Near hid fs h h') (free : ∀ b, b ∈ hid → H b = none) : HOk P w H h' := fun b u q =>
  (hok b u q).stay (fun c v hc r => n.keep c v r fun m => by
    have z := free c m
    rcases hc with rfl | hc
    · rw [q] at z; cases z
    · rw [hc] at z; cases z) (fun _ z => z) fun _ _ z => z
theorem un_near {gs hid fs : List Addr} {H0 H : Hp} {g h h' : Heap} (u : Un gs [] H0 H g h) (n : Near hid fs h h') (out : ∀ b, b ∈ hid → b ∈ fs ∨ g.get? b = none) (inn : ∀ b, b ∈ fs → b ∈ gs ∨ g.get? b = none) : Un gs [] H0 H g h' where
  keep := fun b o q m hb hx => n.keep b o (u.keep b o q m hb hx) fun z => by
    rcases out b z with y | y
    · rcases inn b y with y | y
      · exact hb y
      · rw [q] at y; cases y
    · rw [q] at y; cases y
  slot := fun b o q m hb hx => by
    obtain ⟨sl, e⟩ := u.slot b o q m hb hx
    by_cases z : b ∈ hid
    · rcases out b z with y | y
      · obtain ⟨sl', e'⟩ := n.slot b _ y e
        exact ⟨sl', e'⟩
      · rw [q] at y; cases y
    · exact ⟨sl, n.keep b _ e z⟩
  free := u.free
  there := fun b o q hx => by
    obtain ⟨o', e⟩ := u.there b o q hx
    by_cases z : b ∈ hid
    · rcases out b z with y | y
      · obtain ⟨sl', e'⟩ := n.slot b _ y e
        exact ⟨_, e'⟩
      · rw [q] at y; cases y
    · exact ⟨_, n.keep b _ e z⟩
  tups := u.tups
  frzs := u.frzs
  tbls := u.tbls

/-- the exception at a, of class cls, flies; T is its trace -/
def FlyT (a T : Addr) (cls : Value) (h : Heap) : Prop :=
  ∃ (oe : Obj) (vs : Array Value) (oT : Obj) (ts : Array Value) (a0 : Value), h.get? a = some oe ∧ (oe.cls = cls ∧ vs[0]? = some a0) ∧ oe.data = .fields vs ∧ vs[1]? = some (.ref T) ∧ T ≠ a ∧ h.get? T = some oT ∧ oT.data = .fields ts ∧ ts[3]? = some .none
/-- how an exception lies behind a call -/
def CXE (P : Program) (w : World) : CXT := fun outer H s E e s' =>
  ∃ (a T : Addr) (cls : Value) (H' : Hp), e = .ref a ∧ s'.os = s.os ∧ AllBare s'.gens ∧ Un (frs outer) [] H H' s.heap s'.heap ∧ HOk P w H' s'.heap ∧
    FlyT a T cls s'.heap ∧ s.heap.get? a = none ∧ s.heap.get? T = none ∧ H' a = none ∧ H' T = none ∧ E cls none H'

theorem flyW {a T : Addr} {cls : Value} {h b0 : Heap} {l : List Env} (f : FlyT a T cls h) (fr : h.FunFrames b0 l) : ∃ a0, Heap.FlyingW (PySem.W.hideAll h (a :: T :: frs l)) l a cls a0 h := by
  obtain ⟨oe, vs, oT, ts, a0, e1, e2, e3, e4, e5, e6, e7, e8⟩ := f
  refine ⟨a0, fun b o q => PySem.W.of_hideAll _ q, PySem.W.hideAll_none _ (.head _), PySem.W.funFrames_hide fr (fun env he b hb => ?_), oe, vs, T, oT, ts, e1, e2, e3, e4, PySem.W.hideAll_none _ (.tail _ (.head _)), e5, e6, e7, e8⟩
  exact .tail _ (.tail _ (List.mem_filterMap.mpr ⟨env, he, hb⟩))
/-- its new trace is as new as the old one -/
theorem fly_on {P : Program} {w : World} {a : Addr} {cls a0 : Value} {h h' g b0 : Heap} {H : Hp} {l l' : List Env} {hid : List Addr} (fr : h.FunFrames b0 l) (fl : Heap.FlyingW (PySem.W.hideAll h hid) l' a cls a0 h') (n : Near hid (frs l) h h')
    (gk : ∀ b o, g.get? b = some o → ∃ o', h.get? b = some o') (hh : ∀ b, b ∈ hid → b ∈ frs l ∨ (g.get? b = none ∧ H b = none)) (hok : HOk P w H h) : ∃ T', FlyT a T' cls h' ∧ g.get? T' = none ∧ H T' = none := by
  obtain ⟨_, _, _, oe, vs, T', oT, ts, e1, e2, e3, e4, e5, e6, e7, e8, e9⟩ := fl
  refine ⟨T', ⟨oe, vs, oT, ts, a0, e1, e2, e3, e4, e6, e7, e8, e9⟩, ?_⟩
  by_cases z : T' ∈ hid
  · rcases hh T' z with y | y
    · obtain ⟨_, o, ho, hd⟩ := fr.mem y
      obtain ⟨sl, q⟩ := n.slot T' o y ho
      rw [e7] at q
      cases q
      exact absurd e8 (hd ts)
    · exact y
  · have nh : h.get? T' = none := by
      cases q : h.get? T' with
      | none => rfl
      | some o =>
        have := PySem.W.hideAll_get hid q z
        rw [e5] at this
        cases this
    constructor
    · cases q : g.get? T' with
      | none => rfl
      | some o =>
        obtain ⟨o', q'⟩ := gk _ _ q
        rw [nh] at q'
        cases q'
    · cases q : H T' with
      | none => rfl
      | some u =>
        obtain ⟨v, e⟩ := (hok T' u q).be
        rw [nh] at e
        cases e

section
variable {P : Program} {w : World} {K : PySem.W.Frag} {mg : Str → Option Value} {base : Heap} {N : List Str} {qual : Str} {scope : Scope} {f : Addr} {cd : Value} {A : Around} {outer : List Env} {s : Shared} {H : Hp} {E : XK}
/-- a made exception reaches what this body wants of exceptions -/
def Raises (X : Cx) (E : XK) : Prop := ∀ (pins : List (Addr × Obj)) (σ : St) (H : Hp) (s : Shared) (e : Addr) (cls : Value) (args : List Value) (h' : Heap), Inv X pins σ H s → Heap.MadeExcOf s.heap h' e cls args → E cls none H → X.xe (.ref e) { s with heap := h' }
theorem Inv.gk {X : Cx} {pins : List (Addr × Obj)} {σ : St} {H : Hp} {s : Shared} (I : Inv X pins σ H s) (hx : X.ex = []) : ∀ b o, X.s₀.heap.get? b = some o → ∃ o', s.heap.get? b = some o' := fun b o q => I.base.there b o q (by rw [hx]; simp)
theorem Inv.gn {X : Cx} {pins : List (Addr × Obj)} {σ : St} {H : Hp} {s : Shared} (I : Inv X pins σ H s) (hx : X.ex = []) {b : Addr} (q : s.heap.get? b = none) : X.s₀.heap.get? b = none := by
  cases e : X.s₀.heap.get? b with
  | none => rfl
  | some o =>
    obtain ⟨o', e'⟩ := I.gk hx b o e
    rw [q] at e'
    cases e'
/-- this body's own frame is younger than its entry -/
theorem Inv.ownNew {X : Cx} {pins : List (Addr × Obj)} {σ : St} {H : Hp} {s : Shared} (I : Inv X pins σ H s) : X.s₀.heap.get? X.env.locals = none := Heap.get?_none_of_le I.ok.above
theorem Inv.frsOut {X : Cx} {pins : List (Addr × Obj)} {σ : St} {H : Hp} {s : Shared} (I : Inv X pins σ H s) : ∀ b, b ∈ frs X.stack → b ∈ frs X.outer ∨ X.s₀.heap.get? b = none := fun b hb => by
  rcases List.mem_cons.mp (I.stkSub b hb) with z | z
  · right; rw [z]; exact I.ownNew
  · exact .inl z

theorem raisesE : Raises (cxOf (CXE P w) P w K mg base N qual scope f cd A outer s H E) E := by
  intro pins σ H1 s1 e cls args h' I hx hE
  have fr := I.stack
  have hs : ∀ b, b ∈ frs (cxOf (CXE P w) P w K mg base N qual scope f cd A outer s H E).stack → b ∈ frs (cxOf (CXE P w) P w K mg base N qual scope f cd A outer s H E).stack := fun _ z => z
  have st : (PySem.W.hideAll s1.heap (frs (cxOf (CXE P w) P w K mg base N qual scope f cd A outer s H E).stack)).StaysIn s1.heap := fun b o q => PySem.W.of_hideAll _ q
  have fr2 := PySem.W.funFrames_hide (as := frs (cxOf (CXE P w) P w K mg base N qual scope f cd A outer s H E).stack) fr (fun env he b hb => List.mem_filterMap.mpr ⟨env, he, hb⟩)
  refine wpAny_leaves_madeW (s := { s1 with heap := h' }) I.ok.frames rfl st fr2 hx fun h2 t x1 x2 x3 x4 => ?_
  have nr : Near (frs (cxOf (CXE P w) P w K mg base N qual scope f cd A outer s H E).stack) (frs (cxOf (CXE P w) P w K mg base N qual scope f cd A outer s H E).stack) s1.heap h2 :=
    ⟨fun b o q z => x1.1 b o (PySem.W.hideAll_get _ q z), fun b o z q => by
      obtain ⟨_, o', q', d⟩ := fr.mem z
      rw [q] at q'
      cases q'
      exact x4 b o (hx.keeps b o q) d, fun _ z => z⟩
  obtain ⟨T, fl, gT, nT⟩ := fly_on (P := P) (w := w) (g := s.heap) (H := H1) fr x1 nr (I.gk rfl) (fun b z => .inl z) I.hok
  refine ⟨e, T, cls, H1, rfl, I.os, I.bare, un_near I.base nr (fun b z => .inl z) I.frsOut, hok_near I.hok nr I.stkFree, fl, I.gn rfl hx.new, gT, ?_, nT, hE⟩
  cases q : H1 e with
  | none => rfl
  | some u =>
    obtain ⟨v, z⟩ := (I.hok e u q).be
    rw [hx.new] at z
    cases z
theorem passE : Passes (CXE P w) (cxOf (CXE P w) P w K mg base N qual scope f cd A outer s H E) E := by
  intro pins σ H1 s1 e s' I h
  obtain ⟨a, T, cls, H', rfl, os, bare, un, hok, fl, na, nT, ha, hT, hE⟩ := h
  have J : Inv (cxOf (CXE P w) P w K mg base N qual scope f cd A outer s H E) pins σ H' s' := I.call' (ch := []) os un hok bare (fun b z => absurd z (by simp))
  have fr := J.stack
  obtain ⟨a0, fw⟩ := flyW fl fr
  refine wpAny_leaves_onW J.ok.frames rfl fw fun h2 x1 x2 => ?_
  have nr := near_of x1.1 x2 fr (fun b z => .tail _ (.tail _ z))
  have ga := I.gn rfl na
  have gT := I.gn rfl nT
  have hid : ∀ b, b ∈ a :: T :: frs (cxOf (CXE P w) P w K mg base N qual scope f cd A outer s H E).stack → b ∈ frs (cxOf (CXE P w) P w K mg base N qual scope f cd A outer s H E).stack ∨ (s.heap.get? b = none ∧ H' b = none) := fun b z => by
    rcases List.mem_cons.mp z with rfl | z
    · exact .inr ⟨ga, ha⟩
    · rcases List.mem_cons.mp z with rfl | z
      · exact .inr ⟨gT, hT⟩
      · exact .inl z
  obtain ⟨T2, fl2, gT2, nT2⟩ := fly_on (P := P) (w := w) (g := s.heap) (H := H') fr x1 nr (J.gk rfl) hid J.hok
  refine ⟨a, T2, cls, H', rfl, J.os, J.bare, un_near J.base nr (fun b z => (hid b z).imp id (·.1)) J.frsOut, hok_near J.hok nr (fun b z => ?_), fl2, ga, gT2, ha, nT2, hE⟩
  rcases hid b z with y | y
  · exact J.stkFree b y
  · exact y.2
/-- a def that may refuse -/
theorem Fun.okE {x : Str} {st : Stmt} {fd : FuncData} {ps : List Str} {k : Nat} {sp : Sp} (F : Fun K x qual st f fd) (S : FnScope N ps (defScope st)) (len : ∀ vs H Q E, sp vs H Q E → vs.length = ps.length)
    (hbody : ∀ (cdv : Value) (A : Around) (outer : List Env) (s : Shared) (H : Hp) (vs : List V) (Q : VK) (E : XK), Room k (A.deeper (envOfC qual (defScope st) s.heap.objs.size f cdv)) → sp vs H Q E →
      ∃ t, PSs (cxOf (CXE P w) P w K mg base N qual (defScope st) f cdv A outer s H E) (defBody st) t ∧ t { nx := fun _ H' => Q .non H', rt := Q } (start N vs) H) : FnOk P w K mg base (CXE P w) (k + 1) f fd ps sp := by
  obtain ⟨oc, od, kV, doc, pm, an, cdv, ct, osl, rfl, lk, hcd⟩ := F.ex
  exact fn_of lk hcd S len fun A outer s H vs Q E hr hsp => hbody cdv A outer s H vs Q E hr hsp
end
end L2

set_option Elab.async false
set_option linter.all false
set_option maxRecDepth 100000
namespace L2
open PySem PySem.Spec PyProof.Rows

/-! ### an own class of refusals under ValueError -/
def vmro : List Value := [.type "ValueError", .type "Exception", .type "BaseException", .type "object"]
abbrev ExcC (K : PySem.W.Frag) (C : Addr) : Prop := PySem.W.excIn K C vmro "ValueError.__new__" = true
theorem exc_obj {K : PySem.W.Frag} {h : Heap} {C : Addr} {bmB : List Value} {newId : String} (X : K.In h) (q : PySem.W.excIn K C bmB newId = true) :
    ∃ (bm : List Value) (N : Addr) (nm qn : Str) (bs : List Value) (hd : Bool) (sn : List Str) (sub : List Value) (ab : Bool) (col : Option Bool) (dd : Option Addr) (k0 k1 k2 k3 k5 : Option Value) (mN : Str → Option Value),
      h.get? C = some (excClassObj nm qn C N bs bm hd sn sub ab col dd k0 k1 k2 k3 k5 newId) ∧ h.Ns N mN ∧ mN "__init__" = none ∧ OwnTail h bmB bm ∧ ∀ v, PySem.W.mroIn K C v = some ((Value.ref C :: bm).contains v) := by
  unfold PySem.W.excIn at q
  split at q
  case h_2 => cases q
  rename_i dd cd sl ho
  split at q
  case h_2 => cases q
  rename_i C' bm k0 k1 k2 k3 n k5 hm hs
  simp only [Bool.and_eq_true, beq_iff_eq, Bool.not_eq_true'] at q
  obtain ⟨⟨⟨⟨⟨q1, q2⟩, q3⟩, q4⟩, q5⟩, q6⟩ := q
  subst q1 q2
  have mro : ∀ v, PySem.W.mroIn K C' v = some ((Value.ref C' :: bm).contains v) := fun v => by
    unfold PySem.W.mroIn PySem.W.clsIn
    rw [ho]
    show (if cd.mro.isEmpty = true then none else some (cd.mro.contains v)) = _
    rw [hm]
    rfl
  obtain ⟨nm, bs, mr, ns, qn, hd, sn, sub, ab, col, del⟩ := cd
  dsimp only at hm q3 q5 q6
  subst hm
  subst q3
  obtain ⟨l⟩ := sl
  dsimp only at hs
  subst hs
  exact ⟨bm, ns, nm, qn, bs, hd, sn, sub, ab, col, dd, k0, k1, k2, k3, k5, _, X _ _ ho, .of_isNs (PySem.W.isNs_of_in X q5), PySem.W.nsMap_none_of_in X q5 q6, PySem.W.tail_of_in X q4, mro⟩

section
variable {X : Cx} {C : Addr} {x : Str} {np cpos pos : Pos} {e : Expr} {es : List Expr} {t : TA} {E : XK}
/-! ### raise C(..) -/
def tRaise (C : Addr) (E : XK) (t : TA) : TS := fun _ σ H => t σ H fun vs H1 => vs.length ≤ 100 ∧ E (.ref C) none H1
theorem ps_raise (hx : Raises X E) (hc : X.calm = true) (hg : Gl X x) (hm : X.mg x = some (.ref C)) (hC : ExcC X.K C) (ha : PA X (e :: es) t)
    (hdb : (x == ("__debug__" : Str)) = false := by decide) (he : starEach (e :: es) X.env = (false, eval e X.env) :: starEach es X.env := by rfl) (hpl : (backTo cpos (starEach es X.env)).any (·.1) = false := by rfl) :
    PS X (.Raise (some (.Call (.Name x np) (e :: es) [] cpos)) none pos) (tRaise C E t) := by
  intro pins s σ H D I h
  obtain ⟨bm, N, nm, qn, bs, hd, sn, sub, ab, col, dd, k0, k1, k2, k3, k5, mN, hO, hN, hi, hT, hM⟩ := exc_obj I.mod.kin hC
  have hbase : bm.contains (.type "BaseException") = true := hT.hasType (by decide)
  refine wpAny_Raise_call_subU (C := C) (nm := nm) (q := qn) (N := N) (bs := bs) (bm := bm) (hdct := hd) (sn := sn) (sub := sub) (ab := ab) (col := col) (dd := dd) (k0 := k0) (k1 := k1) (k2 := k2) (k3 := k3) (k5 := k5) (newId := "ValueError.__new__") (mN := mN)
    PySem.F.excBase_ValueError (by decide) PySem.F.excBase_ValueError hbase (I.ok.hd hc) (by rw [he]; show (false || (backTo cpos (starEach es X.env)).any (·.1)) = false; rw [hpl]; rfl) hi (ld_glob I hg hm ⟨rfl, ?_⟩ hdb)
  have hA := ha cpos pins s σ H _ I h
  rw [he] at hA ⊢
  refine Calls.evalArgs_plain (thn hA fun us s1 ⟨vs, H1, I1, r1, hl, q1⟩ => ?_)
  have k : ∀ b o, X.base.get? b = some o → s1.heap.get? b = some o := I1.bk
  refine ⟨rfl, ?_, k _ _ hO, hN.keeps k, hT.keeps k, fun h' e' hx' => hx pins σ H1 s1 e' _ _ h' I1 hx' q1⟩
  show us.length ≤ sizeLine
  rw [← r1.length]
  exact Nat.le_trans hl (by decide)
end

/-! ### calls whose exceptions are taken where S holds of the names -/
def PassesS (CX : CXT) (X : Cx) (E : XK) (S : St → Prop) : Prop := ∀ (pins : List (Addr × Obj)) (σ : St) (H : Hp) (s : Shared) (e : Value) (s' : Shared), S σ → Inv X pins σ H s → CX X.stack H s E e s' → X.xe e s'
def tCallS (S : St → Prop) (sp : Sp) (dvs : List V) (E : XK) (t : TA) : TE := fun σ H Q => S σ ∧ t σ H fun vs H1 => sp (vs ++ dvs) H1 Q E
section
variable {X : Cx} {CX : CXT} {k : Nat} {f : Addr} {fd : FuncData} {ps : List Str} {sp : Sp} {dvs : List V} {ds : List Value} {E : XK} {x : Str} {p pos : Pos} {e : Expr} {es : List Expr} {t : TA} {S : St → Prop}
theorem run_fnS {pins : List (Addr × Obj)} {σ : St} {H : Hp} {s : Shared} {Q : VK} {us : List Value} {vs : List V} (F : FnOk X.prog X.w X.K X.mg X.base CX k f fd ps sp) (hr : Room k X.A) (hb : Binds X.K fd ps ds) (hd : Vals dvs ds) (hx : PassesS CX X E S)
    (hS : S σ) (I : Inv X pins σ H s) (r : Vals vs us) (h : sp (vs ++ dvs) H Q E) : wpAny (model X.prog X.w) X.A (call (.ref f) us) (EP X pins σ Q) X.xe s := by
  have r2 : Vals (vs ++ dvs) (us ++ ds) := r.append hd
  have hl : (us ++ ds).length = ps.length := r2.length.symm.trans (F.len _ _ _ _ h)
  refine wpAny_call (codeAny_mono (F.run X.A X.stack s H ⟨us, []⟩ (us ++ ds) (vs ++ dvs) Q E hr I.env0 (hb s us I.kIn hl) r2 h) ?_)
  intro r s' hq
  rcases r with e | (_ | _ | _ | _)
  · exact hx pins σ H s e s' hS I hq
  all_goals first
    | exact I.after hq
    | exact hq.elim
theorem pe_callS (F : FnOk X.prog X.w X.K X.mg X.base CX k f fd ps sp) (hr : Room k X.A) (hg : Gl X x) (hm : X.mg x = some (.ref f)) (hk : PySem.W.keepIn X.K (.ref f) = true) (hb : Binds X.K fd ps ds) (hd : Vals dvs ds) (hx : PassesS CX X E S)
    (ha : PA X (e :: es) t) (hdb : (x == ("__debug__" : Str)) = false := by decide) (he : starEach (e :: es) X.env = (false, eval e X.env) :: starEach es X.env := by rfl) (hpl : (backTo pos (starEach es X.env)).any (·.1) = false := by rfl) :
    PE X (.Call (.Name x p) (e :: es) [] pos) (tCallS S sp dvs E t) := by
  intro pins s σ H Q I h
  obtain ⟨hS, h⟩ := h
  refine wpAny_Call_Name_kw (ld_glob I hg hm ?_ hdb)
  refine PySem.W.callWith_K (h₀ := X.base) I.ok.mod.kin hk ?_ he hpl
  exact thn (ha pos pins s σ H _ I h) fun us s1 ⟨vs, H1, I1, r, q⟩ => ⟨I1.kIn, run_fnS F hr hb hd hx hS I1 r q⟩
end

/-! ### the same state for another wish, other standing pins, another Around -/
theorem Inv.re {X : Cx} {pins pins2 pn2 : List (Addr × Obj)} {σ : St} {H : Hp} {s : Shared} {A2 : Around} {c2 : Bool} {xe2 : Value → Shared → Prop} (I : Inv X pins σ H s) (hd : c2 = true → A2.handled = none) (hf : A2.frames = X.A.frames)
    (hp : ∀ p, p ∈ pn2 ++ pins2 → p ∈ X.pn ++ pins) : Inv { X with A := A2, calm := c2, xe := xe2, pn := pn2 } pins2 σ H s :=
  ⟨⟨I.ok.mod, I.ok.kind, I.ok.glob, I.ok.blt, I.ok.above, I.ok.inj, I.ok.has, I.ok.cab, hd, hf.trans I.ok.frames, I.ok.stk, I.ok.exf, I.ok.bs, I.ok.bsz, I.ok.noex, I.ok.exfs, I.ok.funs, I.ok.frf⟩,
    I.os, I.bare, I.base, I.loc, I.cell, I.free, I.freeC, fun p z => I.pin p (hp p z), I.hok, I.len⟩
theorem Inv.un_re {X : Cx} {pins pins2 pn2 : List (Addr × Obj)} {σ : St} {H : Hp} {s : Shared} {A2 : Around} {c2 : Bool} {xe2 : Value → Shared → Prop} (I : Inv { X with A := A2, calm := c2, xe := xe2, pn := pn2 } pins2 σ H s) (hd : X.calm = true → X.A.handled = none)
    (hf : X.A.frames = A2.frames) (hp : ∀ p, p ∈ X.pn ++ pins → p ∈ pn2 ++ pins2) : Inv X pins σ H s :=
  ⟨⟨I.ok.mod, I.ok.kind, I.ok.glob, I.ok.blt, I.ok.above, I.ok.inj, I.ok.has, I.ok.cab, hd, hf.trans I.ok.frames, I.ok.stk, I.ok.exf, I.ok.bs, I.ok.bsz, I.ok.noex, I.ok.exfs, I.ok.funs, I.ok.frf⟩,
    I.os, I.bare, I.base, I.loc, I.cell, I.free, I.freeC, fun p z => I.pin p (hp p z), I.hok, I.len⟩
theorem SP.map {X Y : Cx} {p q : List (Addr × Obj)} {D : Ends} {f : Flow} {s : Shared} (k : ∀ σ H, Inv X p σ H s → Inv Y q σ H s) (h : SP X p D f s) : SP Y q D f s := by
  cases f with
  | next => obtain ⟨σ', H', I, z⟩ := h; exact ⟨σ', H', k _ _ I, z⟩
  | brk => obtain ⟨σ', H', I, z⟩ := h; exact ⟨σ', H', k _ _ I, z⟩
  | cont => obtain ⟨σ', H', I, z⟩ := h; exact ⟨σ', H', k _ _ I, z⟩
  | ret u => obtain ⟨v, σ', H', I, r, z⟩ := h; exact ⟨v, σ', H', k _ _ I, r, z⟩

/-- an exception object that is held: its class -/
def isExc (a D : Addr) : HO := .ext fun h => ∃ o, h.get? a = some o ∧ o.cls = .ref D ∧ PySem.W.notCls o = true
theorem isExc_ok {P : Program} {w : World} {H : Hp} {h : Heap} {a D : Addr} {o : Obj} (e : h.get? a = some o) (c : o.cls = .ref D) (n : PySem.W.notCls o = true) : ObjOk P w H h a (isExc a D) :=
  ⟨⟨o, e, c, n⟩, ⟨o, e⟩, fun h1 h2 ⟨o1, e1, c1, n1⟩ k => ⟨o1, k _ e1, c1, n1⟩⟩
/-- a thing of the heap that was not tracked is, from now on -/
theorem Inv.track {X : Cx} {pins : List (Addr × Obj)} {σ : St} {H : Hp} {s : Shared} {a : Addr} {o : HO} (I : Inv X pins σ H s) (ha : H a = none) (h0 : X.s₀.heap.get? a = none) (hb : X.base.get? a = none) (hL : X.env.locals ≠ a) (hc : ∀ x c, X.env.cells.lookup x = some c → c ≠ a)
    (hp : ∀ p, p ∈ X.pn ++ pins → p.1 ≠ a) (hs : ∀ b, b ∈ X.fs → b ≠ a) (new : ObjOk X.prog X.w (upd H a o) s.heap a o) : Inv X pins σ (upd H a o) s := by
  have ne : ∀ b u, H b = some u → b ≠ a := fun b u q z => by rw [z, ha] at q; cases q
  refine ⟨I.ok, I.os, I.bare, ⟨I.base.keep, I.base.slot, fun b u q n x => ?_, I.base.there, fun b xs q => ?_, fun b u v q => ?_, fun b ps q => ?_⟩, I.loc, I.cell, ?_, fun x c q => ?_, fun p z => ?_, fun b u q => ?_, I.len⟩
  · rw [upd_ne (fun z => by rw [z, h0] at q; cases q)]
    exact I.base.free b u q n x
  · have z := I.base.tups b xs q
    rw [upd_ne (ne _ _ z)]; exact z
  · have z := I.base.frzs b u v q
    rw [upd_ne (ne _ _ z)]; exact z
  · obtain ⟨m, z⟩ := I.base.tbls b ps q
    exact ⟨m, by rw [upd_ne (ne _ _ z)]; exact z⟩
  · rw [upd_ne hL]; exact I.free
  · rw [upd_ne (hc x c q)]; exact I.freeC x c q
  · obtain ⟨e, n, r⟩ := I.pin p z
    exact ⟨e, by rw [upd_ne (hp p z)]; exact n, r⟩
  · by_cases z : b = a
    · subst z
      rw [upd_same] at q
      cases q
      exact new
    · rw [upd_ne z] at q
      exact (I.hok b u q).stay (fun c v _ r => r) (fun c r => by rw [upd_ne (ne _ _ r)]; exact r) fun c xs r => by rw [upd_ne (ne _ _ r)]; exact r
/-- behind «as e»: the name is gone -/
theorem Inv.gone {X : Cx} {pins : List (Addr × Obj)} {σ : St} {H : Hp} {s : Shared} {h' : Heap} {n : Str} {i : Nat} {v : Option Value} {m : Str → Option Value} {tk : Nat} (I : Inv X pins σ H s) (hN : X.N.Nodup) (hi : X.N[i]? = some n) (hl : X.env.scope.names.lookup n = some .local)
    (hl0 : ∀ (i : Nat) (x : Str) (v : V), X.N[i]? = some x → σ[i]? = some (some v) → Vis X.env.scope x → ∃ u, RelV v u ∧ Look X.env s.heap m x u) (hn' : h'.Ns X.env.locals (fun x => if x = n then v else m x)) (sb : Heap.SameBut X.env.locals s.heap h') : Inv X pins (σ.set i none) H { s with heap := h', toks := tk } := by
  have neL : ∀ b o, X.s₀.heap.get? b = some o → b ≠ X.env.locals := fun b o e => Nat.ne_of_lt (Nat.lt_of_lt_of_le (Heap.lt_size e) I.ok.above)
  refine ⟨I.ok, I.os, I.bare, ⟨fun b o e z hb hx => ?_, fun b o e z hb hx => ?_, I.base.free, fun b o e hx => ?_, I.base.tups, I.base.frzs, I.base.tbls⟩, ⟨_, hn', fun j y v' e1 e2 e3 => ?_⟩, fun y c e => ?_, I.free, I.freeC, fun p hp => ?_, fun b u q => ?_, by simpa using I.len⟩
  · exact (sb.2 b (neL b o e)).trans (I.base.keep b o e z hb hx)
  · obtain ⟨sl, q⟩ := I.base.slot b o e z hb hx
    exact ⟨sl, (sb.2 b (neL b o e)).trans q⟩
  · obtain ⟨o', q⟩ := I.base.there b o e hx
    exact ⟨o', (sb.2 b (neL b o e)).trans q⟩
  · by_cases hj : j = i
    · subst hj
      rw [List.getElem?_set_self (by rw [I.len]; exact (List.getElem?_eq_some_iff.mp hi).1)] at e2
      cases e2
    · rw [List.getElem?_set_ne (Ne.symm hj)] at e2
      obtain ⟨u, r, l⟩ := hl0 j y v' e1 e2 e3
      refine ⟨u, r, ?_⟩
      have ny : y ≠ n := fun z => hj (nodup_ix hN e1 (z ▸ hi))
      rcases l with ⟨k, q⟩ | ⟨k, c, q, z⟩
      · exact .inl ⟨k, by simp [ny, q]⟩
      · exact .inr ⟨k, c, q, z.sameBut sb (I.cne y c q)⟩
  · obtain ⟨w', z⟩ := I.cell y c e
    exact ⟨w', z.sameBut sb (I.cne y c e)⟩
  · obtain ⟨e, z, ne, r⟩ := I.pin p hp
    exact ⟨(sb.2 p.1 ne).trans e, z, ne, r⟩
  · have ne : ∀ c v, H c = some v → c ≠ X.env.locals := fun c v q z => by rw [z, I.free] at q; cases q
    refine (I.hok b u q).stay (fun c v hc r => (sb.2 c ?_).trans r) (fun _ z => z) fun _ _ z => z
    rcases hc with rfl | hc
    · exact ne _ _ q
    · exact ne _ _ hc
end L2

set_option Elab.async false
set_option linter.all false
set_option maxRecDepth 100000
namespace L2
open PySem PySem.Spec PyProof.Rows

/-! ### does an except clause of an own class take an exception of an own class -/
theorem exc_takes {K : PySem.W.Frag} {M : Model} {A : Around} {E : Value → Shared → Prop} {s : Shared} {e C D : Addr} {oe : Obj} {Q : Bool → Shared → Prop} (X : K.In s.heap) (hC : ExcC K C) (hD : ExcC K D) (hs : PySem.W.mroIn K D (.ref C) = some true)
    (he : s.heap.get? e = some oe) (hcls : oe.cls = .ref D) (hq : Q true s) : wpAny M A (excMatches (.ref e) (.ref C)) Q E s := by
  obtain ⟨h, g, d, t, os⟩ := s
  obtain ⟨bm, N, nm, qn, bs, hd, sn, sub, ab, col, dd, k0, k1, k2, k3, k5, mN, hO, hN, hi, hT, hM⟩ := exc_obj X hD
  have hbase : bm.contains (.type "BaseException") = true := hT.hasType (by decide)
  by_cases z : D = C
  · subst z
    exact wpAny_excMatches_sub_self hO he hcls hbase hq
  · obtain ⟨bm', N', nm', qn', bs', hd', sn', sub', ab', col', dd', k0', k1', k2', k3', k5', mN', hO', hN', hi', hT', hM'⟩ := exc_obj X hC
    have hcB : (Value.ref C :: bm').contains (.type "BaseException") = true := by rw [List.contains_cons, hT'.hasType (X := "BaseException") (b := true) (by decide), Bool.or_true]
    have hcC : (Value.ref D :: bm).contains (.ref C) = true := Option.some.inj ((hM (.ref C)).symm.trans hs)
    have f := tc_notTuple
    unfold excMatches
    repeat (first
      | (with_reducible refine wpAny_loadPart_at he ?_; rw [hcls])
      | with_reducible refine wpAny_loadPart_at hO' ?_
      | (with_reducible refine wpAny_isSubtype_exc hO' ?_; rw [hcB])
      | (with_reducible refine wpAny_isSubtype_exc hO ?_; rw [hcC])
      | wp_step)
    exact hq

section
variable {X : Cx} {C : Addr} {x n : Str} {np hpos pos : Pos} {i : Nat} {b₀ : Stmt} {suite body : List Stmt} {S : St → Prop} {tb : XK → TS} {th : TS}
/-- what is wanted of an exception of a try's body -/
abbrev tryXe (X : Cx) (pins : List (Addr × Obj)) (D : Ends) (hs : List ExceptHandler) : Value → Shared → Prop := fun e s₁ =>
  wpAny (model X.prog X.w) X.A (noteFrame e X.env) (fun _ s₂ => wpAny (model X.prog X.w) X.A (setFlight e none) (fun _ s₃ => wpAny (model X.prog X.w) X.A (handleBy e X.env hs) (SP X pins D) X.xe s₃) X.xe s₂) X.xe s₁
end

/-! ### defs that are called within an except suite: nothing is known of what is handled -/
structure RoomH (k : Nat) (A : Around) : Prop where
  dp : A.depth + 3 * k + 5 < recursionLimit
  un : A.units + 16 * k + 200 < cLine
theorem Room.marked {k : Nat} {A : Around} (r : Room k A) (e : Option Value) : RoomH k (A.mark e) := ⟨r.dp, r.un⟩
structure FnOkH (P : Program) (w : World) (K : PySem.W.Frag) (mg : Str → Option Value) (base : Heap) (k : Nat) (f : Addr) (fd : FuncData) (ps : List Str) (sp : Sp) : Prop where
  len : ∀ vs H Q E, sp vs H Q E → vs.length = ps.length
  run : ∀ (A : Around) (outer : List Env) (s : Shared) (H : Hp) (args : Args) (us : List Value) (vs : List V) (Q : VK), RoomH k A → Env0 P w K mg base A outer s H → BindsTo s fd args (ps.zip us) → Vals vs us → sp vs H Q E0 →
    codeAny (model P w) A (.call (.ref f) args) (CR CX0 outer P w H s Q E0) s
section
variable {P : Program} {w : World} {K : PySem.W.Frag} {mg : Str → Option Value} {base : Heap}
theorem Fun.okH {x qual : Str} {st : Stmt} {f : Addr} {fd : FuncData} {N ps : List Str} {k : Nat} {sp : Sp} (F : Fun K x qual st f fd) (S : FnScope N ps (defScope st)) (len : ∀ vs H Q E, sp vs H Q E → vs.length = ps.length)
    (hbody : ∀ (cdv : Value) (A : Around) (outer : List Env) (s : Shared) (H : Hp) (vs : List V) (Q : VK), RoomH k (A.deeper (envOfC qual (defScope st) s.heap.objs.size f cdv)) → sp vs H Q E0 →
      ∃ t, PSs { cxOf CX0 P w K mg base N qual (defScope st) f cdv A outer s H E0 with calm := false, xe := fun _ _ => False } (defBody st) t ∧ t { nx := fun _ H' => Q .non H', rt := Q } (start N vs) H) : FnOkH P w K mg base (k + 1) f fd ps sp := by
  obtain ⟨oc, od, kV, doc, pm, an, cdv, ct, osl, rfl, lk, hcd⟩ := F.ex
  refine ⟨len, fun A outer s H args us vs Q hr e0 hb r hsp => ?_⟩
  have hl := len _ _ _ _ hsp
  have KX : K.In s.heap := e0.mod.kin.keeps fun b o e => (e0.bs b o e).1
  have lim : s.heap.NoLimit := e0.mod.nolimit.keeps fun b o e => (e0.bs b o e).1
  refine codeAny_call_function (by have := hr.dp; lia) (KX _ _ lk) rfl S.co S.gen rfl (PySem.W.codeRec_of KX hcd) (hb _ _ _ _ ?_)
  refine wpAny_newFunctionEnv_cells S.kind (fun ⟨y, v⟩ hy => ?_) fun env he s1 z => ?_
  · rcases S.par y (List.of_mem_zip hy).1 with q | q
    · exact .inl q
    · exact .inr ⟨q, PySem.W.cellsFrom_some _ _ _ (.inl q)⟩
  subst he
  refine ⟨lim.keeps z.toInCall.keep, codeAny_func ?_⟩
  obtain ⟨t, ht, hq⟩ := hbody cdv A outer s H vs Q ⟨by have := hr.dp; show A.depth + 1 + 3 * k + 5 < _; lia, by have := hr.un; show A.units + 3 + 16 * k + 200 < _; lia⟩ hsp
  have I : Inv (cxOf CX0 P w K mg base N qual (defScope st) f cdv { A with handled := none } outer s H E0) [] (start N vs) H s1 := inv_start S rfl ⟨e0.frames, e0.mod, e0.bs, e0.bsz, e0.funs, e0.frf, e0.hok, e0.bare⟩ hl r z
  have J : Inv { cxOf CX0 P w K mg base N qual (defScope st) f cdv A outer s H E0 with calm := false, xe := fun _ _ => False } [] (start N vs) H s1 := I.re (A2 := A.deeper (envOfC qual (defScope st) s.heap.objs.size f cdv)) (c2 := false) (fun z => nomatch z) rfl (fun _ z => z)
  refine wpAny_mono (ht [] s1 (start N vs) H _ J hq) (fun fl s' hs => ?_) fun _ _ z => z.elim
  cases fl with
  | ret u =>
    obtain ⟨v, σ', H', J, rv, q⟩ := hs
    exact ⟨v, H', J.os, J.bare, J.base, J.hok, rv, q⟩
  | next =>
    obtain ⟨σ', H', J, q⟩ := hs
    exact ⟨.non, H', J.os, J.bare, J.base, J.hok, rfl, q⟩
  | brk => obtain ⟨_, _, _, q⟩ := hs; exact q.elim
  | cont => obtain ⟨_, _, _, q⟩ := hs; exact q.elim
end
section
variable {X : Cx} {k : Nat} {f : Addr} {fd : FuncData} {ps : List Str} {sp : Sp} {x : Str} {p pos : Pos} {e : Expr} {es : List Expr} {t : TA}
theorem pe_callH (F : FnOkH X.prog X.w X.K X.mg X.base k f fd ps sp) (hr : RoomH k X.A) (hg : Gl X x) (hm : X.mg x = some (.ref f)) (hk : PySem.W.keepIn X.K (.ref f) = true) (hb : Binds X.K fd ps [])
    (ha : PA X (e :: es) t) (hdb : (x == ("__debug__" : Str)) = false := by decide) (he : starEach (e :: es) X.env = (false, eval e X.env) :: starEach es X.env := by rfl) (hpl : (backTo pos (starEach es X.env)).any (·.1) = false := by rfl) :
    PE X (.Call (.Name x p) (e :: es) [] pos) (tCall sp [] E0 t) := by
  intro pins s σ H Q I h
  refine wpAny_Call_Name_kw (ld_glob I hg hm ?_ hdb)
  refine PySem.W.callWith_K (h₀ := X.base) I.ok.mod.kin hk ?_ he hpl
  refine thn (ha pos pins s σ H _ I h) fun us s1 ⟨vs, H1, I1, r, q⟩ => ⟨I1.kIn, ?_⟩
  have q : sp (vs ++ []) H1 Q E0 := q
  rw [List.append_nil] at q
  have hl : us.length = ps.length := r.length.symm.trans (F.len _ _ _ _ q)
  have hb1 := hb s1 us I1.kIn (by rw [List.append_nil]; exact hl)
  rw [List.append_nil] at hb1
  refine wpAny_call (codeAny_mono (F.run X.A X.stack s1 H1 ⟨us, []⟩ us vs Q hr I1.env0 hb1 r q) ?_)
  intro r s' hq
  rcases r with e | (_ | _ | _ | _)
  all_goals first
    | exact I1.after hq
    | exact hq.elim
end
end L2

set_option Elab.async false
set_option linter.all false
set_option maxRecDepth 100000
namespace L2
open PySem PySem.Spec PyProof.Rows

/-! ### texts: the signs, slices, methods -/
section
variable {X : Cx} {tg : Expr}
/-- a text's signs, one by one -/
def Its (x : Str) : It := ⟨fun i _ => i < x.cps.size, fun i H v H' => H' = H ∧ ∃ c, x.cps[i]? = some c ∧ v = .str ⟨#[c]⟩, fun i _ => i = x.cps.size⟩
theorem turn_str {P : Program} {w : World} {K : PySem.W.Frag} (it : Addr) (x : Str) (t : Tok) (T : String) (hn : ["enumerate", "zip", "dict_itemiterator", "dict_reverseitemiterator", "odict_iterator", "itertools.zip_longest", "itertools.pairwise"].contains T = false)
    (W : ∀ A : Around, A.handled = none → Walks P w A it [it] [it] x.cps.size (SignAt x) (fun i h => h.IsStrIter it T x t i))
    (hself : ∀ (A : Around) (i : Nat) (s : Shared) (Q : Value → Shared → Prop) (E : Value → Shared → Prop), s.heap.IsStrIter it T x t i → Q (.ref it) s → wpAny (model P w) A (pyIter (.ref it)) Q E s) : Turn P w K tg (Its x) [it] it (fun i h => h.IsStrIter it T x t i) where
  mem := by simp
  obj := fun i h st b hb => by
    have e : b = it := by simpa using hb
    subst e
    obtain ⟨o, e, c, d⟩ := st
    exact ⟨o, e, fun v z => by rw [d] at z; cases z⟩
  keep := fun i h h' ⟨o, e, r⟩ k => ⟨o, k it (by simp) o e, r⟩
  item := by
    intro X hP hw hK hc i pins s σ H E I hf st hg
    subst hP hw hK
    obtain ⟨f0, f1, f2, f3, f4, f5⟩ := hf it (by simp)
    refine (W X.A (I.ok.hd hc)).item i s _ _ hg st fun v h' tk hv st' kk => ?_
    obtain ⟨c, u, hc', rfl⟩ := hv
    have I1 : Inv X pins σ H { s with heap := h', toks := tk } := I.turned (fun b o hb e => kk b o (by simpa using hb) e) f0 f1 f3 f4 f5
    obtain ⟨o, e, oc, od⟩ := id st'
    exact ⟨_, rfl, go_of (s := { s with heap := h', toks := tk }) e oc od hn ⟨.str ⟨#[c]⟩, H, I1, ⟨u, rfl⟩, ⟨rfl, c, hc', rfl⟩, st', fun b hb => (hf b hb).1⟩⟩
  done := by
    intro X hP hw hK hc i pins s σ H E I hf st hg
    subst hP hw hK
    obtain ⟨f0, f1, f2, f3, f4, f5⟩ := hf it (by simp)
    have z : i = x.cps.size := hg
    subst z
    exact (W X.A (I.ok.hd hc)).done s _ _ st fun h' tk kk => ⟨rfl, I.turned (fun b o hb e => kk b o (by simpa using hb) e) f0 f1 f3 f4 f5⟩
  self := hself
def iStr (tl : TE) : TI := fun σ H R => tl σ H fun v H1 => ∃ x, v = .str x ∧ R (Its x) H1
theorem pi_str {l : Expr} {tl : TE} (hl : PE X l tl) : PI X tg l (iStr tl) := by
  intro pins s σ H R I h
  refine thn (hl pins s σ H _ I h) fun v s1 ⟨y, H1, I1, r1, q1⟩ => ?_
  obtain ⟨x, rfl, q⟩ := q1
  obtain ⟨t, rfl⟩ := r1
  have fp : ∀ b, b ∈ [s1.heap.objs.size] → FpOk X pins H1 b := fun b hb => by
    have e : b = s1.heap.objs.size := by simpa using hb
    subst e
    exact I1.fpOk (Nat.le_refl _) (I1.hok.fresh (Nat.le_refl _))
  cases ha : x.cps.all (· < 128) with
  | true =>
    refine wpAny_pyIter_ascii ha ?_
    refine ⟨s1.heap.objs.size, [s1.heap.objs.size], _, _, H1, rfl, I1.kept (t' := s1.toks) fun b o e => Heap.get?_push_of_some _ e, turn_str _ x t "str_ascii_iterator" (by decide) (fun A hA => Walks.strAscii hA _ x t) (fun _ _ _ _ _ st h => wpAny_pyIter_striter_ascii st h), ⟨_, Heap.get?_push_size _ rfl, rfl, rfl⟩, fp, q⟩
  | false =>
    refine wpAny_pyIter_wide ha ?_
    refine ⟨s1.heap.objs.size, [s1.heap.objs.size], _, _, H1, rfl, I1.kept (t' := s1.toks) fun b o e => Heap.get?_push_of_some _ e, turn_str _ x t "str_iterator" (by decide) (fun A hA => Walks.strWide hA _ x t) (fun _ _ _ _ _ st h => wpAny_pyIter_striter_wide st h), ⟨_, Heap.get?_push_size _ rfl, rfl, rfl⟩, fp, q⟩
/-- over a text, by what holds ahead of each sign -/
theorem for_str {x : Str} {g : TG} {tb : TS} {D : Ends} {σ : St} {H : Hp} (Pv : Nat → St → Hp → Prop) (h0 : Pv 0 σ H)
    (hs : ∀ i c σ H, x.cps[i]? = some c → Pv i σ H → g (.str ⟨#[c]⟩) σ H fun σ2 H2 => tb { D with nx := Pv (i + 1), ct := Pv (i + 1), bk := D.nx } σ2 H2) (hd : ∀ σ H, Pv x.cps.size σ H → D.nx σ H) :
    ∃ W : Nat → Nat → St → Hp → Prop, (∃ m, W 0 m σ H) ∧ ∀ i m σ H, W i m σ H →
      ((Its x).stop i H ∧ D.nx σ H) ∨ ((Its x).go i H ∧ ∃ N : St → Hp → Prop, (∀ σ' H', N σ' H' → ∃ m', m' < m ∧ W (i + 1) m' σ' H') ∧ ∀ v H', (Its x).yld i H v H' → g v σ H' fun σ2 H2 => tb { D with nx := N, ct := N, bk := D.nx } σ2 H2) := by
  refine ⟨fun i m σ H => m = x.cps.size - i ∧ i ≤ x.cps.size ∧ Pv i σ H, ⟨x.cps.size, by simp, Nat.zero_le _, h0⟩, ?_⟩
  rintro i m σ H ⟨rfl, hi, p⟩
  by_cases hlt : i < x.cps.size
  · refine .inr ⟨hlt, Pv (i + 1), fun σ' H' p' => ⟨x.cps.size - (i + 1), by lia, rfl, hlt, p'⟩, fun v H' y => ?_⟩
    obtain ⟨e, c, hc, rfl⟩ := y
    subst e
    exact hs i c σ _ hc p
  · have e : i = x.cps.size := by lia
    subst e
    exact .inl ⟨rfl, hd σ H p⟩

/-- text[lo:hi] -/
def rSlS : V → Option Int → Option Int → Hp → VK → Prop := fun x lo hi H Q => ∃ z, x = .str z ∧ z.length ≤ sizeLine ∧ Q (.str (Txt.slice z lo hi)) H
theorem sl_str : SlR X rSlS := by
  intro pins s σ H x v vl vu lo hi sl Q I rx hs pl pu h
  obtain ⟨z, rfl, hz, q⟩ := h
  obtain ⟨t, rfl⟩ := rx
  refine ⟨"str", _, F.slot_str_getitem.lookup, typeIs_str _ _ _, ?_⟩
  obtain ⟨o, ho, hc, hd⟩ := hs
  have fin : ∀ t' k, EP X pins σ Q (.str (Txt.slice z lo hi) t') { s with toks := k } := fun t' k => ⟨.str _, H, I.tok k, ⟨t', rfl⟩, q⟩
  have le := Nat.le_trans (Txt.slice_le z lo hi) hz
  cases pl with
  | none =>
    cases pu with
    | none => exact wpAny_getItem_str_slice (l := none) (u := none) (st := none) ⟨o, ho, hc, hd⟩ rfl (post_val_or_str ⟨le, fin⟩)
    | int j uj => exact wpAny_getItem_str_slice (l := none) (u := some (j, uj)) (st := none) ⟨o, ho, hc, hd⟩ rfl (post_val_or_str ⟨le, fin⟩)
  | int i ui =>
    cases pu with
    | none => exact wpAny_getItem_str_slice (l := some (i, ui)) (u := none) (st := none) ⟨o, ho, hc, hd⟩ rfl (post_val_or_str ⟨le, fin⟩)
    | int j uj => exact wpAny_getItem_str_slice (l := some (i, ui)) (u := some (j, uj)) (st := none) ⟨o, ho, hc, hd⟩ rfl (post_val_or_str ⟨le, fin⟩)
theorem mt_find : MtR X "str.find" (fun x xs H Q => ∃ a b, x = .str a ∧ xs = [.str b] ∧ Q (.int (Txt.find a b)) H) := by
  intro pins s σ H x xs v us Q I rx r h
  obtain ⟨a, b, rfl, rfl, q⟩ := h
  obtain ⟨t, rfl⟩ := rx
  cases r with
  | cons r1 r2 =>
    cases r2
    obtain ⟨u, rfl⟩ := r1
    exact SC.find ⟨.int _, H, I.tok _, ⟨_, rfl⟩, q⟩
/-- int(text) -/
theorem call_int_text : CallR X (.type "int") (fun xs H Q => ∃ x n, xs = [.str x] ∧ PySem.intText? x = some n ∧ x.length ≤ 640 ∧ Q (.int n) H) := by
  intro pins s σ H xs us Q I r h
  obtain ⟨x, n, rfl, hn, hl, q⟩ := h
  cases r with
  | cons r1 r2 =>
    cases r2
    obtain ⟨t, rfl⟩ := r1
    exact PySem.W.KIN.call_text hn hl ⟨.int n, H, I.tok _, ⟨_, rfl⟩, q⟩
/-- all(xs), xs a list of bools -/
theorem call_all (hc : X.calm = true) : CallR X (.builtin "all") (fun xs H Q => ∃ (p : Addr) (bs : List Bool), xs = [.ref p] ∧ SqL X.K H p (bs.map V.bl) ∧ Q (.bl (bs.all id)) H) := by
  intro pins s σ H xs us Q I r h
  obtain ⟨p, bs, rfl, hq, q⟩ := h
  cases r with
  | cons r1 r2 =>
    cases r2
    cases (show _ = Value.ref p from r1)
    obtain ⟨its, rv, pl, hz⟩ := I.list hq
    have hne : p ≠ s.heap.objs.size := Nat.ne_of_lt (by obtain ⟨o, n, e, _⟩ := pl; exact Heap.lt_size e)
    refine call_all_walk (wpAny_pyIter_list pl.isList ?_)
    have vals : ∀ (i : Nat) v, its[i]? = some v → ∃ b, bs[i]? = some b ∧ v = .bool b := fun i v e => by
      cases eb : bs[i]? with
      | none =>
        have : its[i]? = none := rv.none_of (by rw [List.getElem?_map, eb]; rfl)
        rw [e] at this
        cases this
      | some b =>
        obtain ⟨u, hu, ru⟩ := rv.get (i := i) (x := V.bl b) (by rw [List.getElem?_map, eb]; rfl)
        rw [e] at hu
        cases hu
        exact ⟨b, rfl, ru⟩
    refine ⟨s.heap.objs.size, _, _, _, _, _, fun i => bs.getD i true, rfl, Walks.list (A := X.A.in1) (I.ok.hd hc) s.heap.objs.size p hne its.toArray, ⟨⟨_, Heap.get?_push_size _ rfl, rfl, rfl⟩, ?_⟩, ?_, ?_⟩
    · exact pl.isList.at fun o e => Heap.get?_push_of_some _ e
    · intro i v s2 Q2 E2 hP hQ
      obtain ⟨b, eb, rfl⟩ := vals i v (by simpa using hP)
      have e2 : bs.getD i true = b := by rw [List.getD_eq_getElem?_getD, eb]; rfl
      have hQ : Q2 (bs.getD i true) s2 := hQ
      rw [e2] at hQ
      exact wpAny_truthy_bool hQ
    · intro h' tk kk
      have I2 : Inv X pins σ H { s with heap := h', toks := tk } := I.kept fun b o e => kk b o (by intro z; exact Nat.ne_of_lt (Heap.lt_size e) (by simpa using z)) (Heap.get?_push_of_some _ e)
      have len : its.toArray.size = bs.length := by rw [List.size_toArray, ← rv.length, List.length_map]
      have e3 : (List.range its.toArray.size).all (fun i => bs.getD i true) = bs.all id := by
        rw [len, Bool.eq_iff_iff, List.all_eq_true, List.all_eq_true]
        constructor
        · intro z b hb
          obtain ⟨i, hi, e⟩ := List.mem_iff_getElem.mp hb
          have := z i (List.mem_range.mpr hi)
          rw [List.getD_eq_getElem?_getD, List.getElem?_eq_getElem hi, e] at this
          exact this
        · intro z i hi
          have hi' := List.mem_range.mp hi
          rw [List.getD_eq_getElem?_getD, List.getElem?_eq_getElem hi']
          exact z _ (List.getElem_mem hi')
      rw [e3]
      exact ⟨.bl _, H, I2, rfl, q⟩

/-! ### range(a, b, c), written step -/
def Itr3 (lo c : Int) (n : Nat) : It := ⟨fun i _ => i < n, fun i H x H' => H' = H ∧ x = .int (lo + i * c), fun i _ => i = n⟩
theorem turn_range3 {P : Program} {w : World} {K : PySem.W.Frag} (it : Addr) (lo c : Int) (n : Nat) : Turn P w K tg (Itr3 lo c n) [it] it (fun i h => IsRangeIter h it (lo + (i : Nat) * c) ((n : Int) - (i : Nat)) c) where
  mem := by simp
  obj := fun i h st b hb => by
    have e : b = it := by simpa using hb
    subst e
    exact ⟨_, st, fun v z => by
      have z' : Data.fields _ = Data.cell v := z
      cases z'⟩
  keep := fun i h h' st k => k it (by simp) _ st
  item := by
    intro X hP hw hK hc i pins s σ H E I hf st hg
    subst hP hw hK
    obtain ⟨f0, f1, f2, f3, f4, f5⟩ := hf it (by simp)
    refine (Walks.range (prog := X.prog) (w := X.w) (I.ok.hd hc) it lo c n).item i s _ _ hg st fun v h' tk hv st' kk => ?_
    obtain ⟨t, rfl⟩ := hv
    have I1 : Inv X pins σ H { s with heap := h', toks := tk } := I.turned (fun b o hb e => kk b o (by simpa using hb) e) f0 f1 f3 f4 f5
    exact ⟨_, rfl, go_of (s := { s with heap := h', toks := tk }) (n := "range_iterator") st' rfl rfl (by decide) ⟨.int (lo + i * c), H, I1, ⟨t, rfl⟩, ⟨rfl, rfl⟩, st', fun b hb => (hf b hb).1⟩⟩
  done := by
    intro X hP hw hK hc i pins s σ H E I hf st hg
    subst hP hw hK
    obtain ⟨f0, f1, f2, f3, f4, f5⟩ := hf it (by simp)
    have z : i = n := hg
    subst z
    exact (Walks.range (prog := X.prog) (w := X.w) (I.ok.hd hc) it lo c i).done s _ _ st fun h' tk kk => ⟨rfl, I.turned (fun b o hb e => kk b o (by simpa using hb) e) f0 f1 f3 f4 f5⟩
  self := fun _ _ _ _ _ st h => wpAny_pyIter_rangeiter st h
def iRng3 (ta : TA) : TI := fun σ H R => ta σ H fun vs H1 => ∃ (i j c : Int) (n : Nat), vs = [.int i, .int j, .int c] ∧ c ≠ 0 ∧ (j - i).natAbs < 1073741824 ∧ c.natAbs < 1073741824 ∧ Builtin.Range.small i j c = true ∧ Builtin.Range.rangeSize i j c = (n : Int) ∧ R (Itr3 i c n) H1
theorem pi_range3 {a b c : Expr} {ta : TA} {p pos : Pos} (hg : Gl X "range") (hm : X.mg "range" = none) (ha : PA X [a, b, c] ta) (hs : starEach [a, b, c] X.env = [(false, eval a X.env), (false, eval b X.env), (false, eval c X.env)] := by rfl)
    (hs2 : starEach [b, c] X.env = [(false, eval b X.env), (false, eval c X.env)] := by rfl) : PI X tg (.Call (.Name "range" p) [a, b, c] [] pos) (iRng3 ta) := by
  intro pins s σ H R I h
  refine Call_ (ld_blt I hg hm boot_range (PyProof.Rows.callWith_type1 (thn (ha pos pins s σ H _ I h) fun us s1 ⟨vs, H1, I1, r1, q1⟩ => ?_) (by rw [hs, hs2]) (by rw [hs2]; rfl)))
  obtain ⟨i, j, c, n, rfl, hc, hb1, hb2, hsm, hsz, q⟩ := q1
  cases r1 with
  | cons r rr =>
    cases rr with
    | cons r' rr =>
      cases rr with
      | cons r'' rr =>
        cases rr
        obtain ⟨t, rfl⟩ := r
        obtain ⟨t', rfl⟩ := r'
        obtain ⟨t'', rfl⟩ := r''
        refine call_range_3 hc (wpAny_pyIter_range (IsRange.new ..) hsm ?_) (.inl (PyProof.noPylong_small (by lia)))
        have I2 : Inv X pins σ H1 { s1 with heap := s1.heap.push { cls := .type "range", data := .fields #[.int i t, .int j t', .int c t''] } } := I1.kept (t' := s1.toks) fun b o e => Heap.get?_push_of_some _ e
        refine ⟨(s1.heap.push { cls := .type "range", data := .fields #[.int i t, .int j t', .int c t''] }).objs.size, [(s1.heap.push { cls := .type "range", data := .fields #[.int i t, .int j t', .int c t''] }).objs.size], _, _, H1, rfl,
          I2.kept (t' := s1.toks) fun b o e => Heap.get?_push_of_some _ e, turn_range3 _ i c n, ?_, fun b hb => ?_, q⟩
        · show IsRangeIter _ _ (i + ((0 : Nat) : Int) * c) ((n : Int) - ((0 : Nat) : Int)) c
          have e1 : i + ((0 : Nat) : Int) * c = i := by simp
          have e2 : (n : Int) - ((0 : Nat) : Int) = Builtin.Range.rangeSize i j c := by rw [hsz]; simp
          rw [e1, e2]
          exact Heap.get?_push_size _ rfl
        · have e : b = (s1.heap.push { cls := .type "range", data := .fields #[.int i t, .int j t', .int c t''] }).objs.size := by simpa using hb
          subst e
          exact I2.fpOk (Nat.le_refl _) (I2.hok.fresh (Nat.le_refl _))
theorem for_range3 {lo c : Int} {n : Nat} {g : TG} {tb : TS} {D : Ends} {σ : St} {H : Hp} (Pv : Nat → St → Hp → Prop) (h0 : Pv 0 σ H)
    (hs : ∀ i σ H, i < n → Pv i σ H → g (.int (lo + i * c)) σ H fun σ2 H2 => tb { D with nx := Pv (i + 1), ct := Pv (i + 1), bk := D.nx } σ2 H2) (hd : ∀ σ H, Pv n σ H → D.nx σ H) :
    ∃ W : Nat → Nat → St → Hp → Prop, (∃ m, W 0 m σ H) ∧ ∀ i m σ H, W i m σ H →
      ((Itr3 lo c n).stop i H ∧ D.nx σ H) ∨ ((Itr3 lo c n).go i H ∧ ∃ N : St → Hp → Prop, (∀ σ' H', N σ' H' → ∃ m', m' < m ∧ W (i + 1) m' σ' H') ∧ ∀ v H', (Itr3 lo c n).yld i H v H' → g v σ H' fun σ2 H2 => tb { D with nx := N, ct := N, bk := D.nx } σ2 H2) := by
  refine ⟨fun i m σ H => m = n - i ∧ i ≤ n ∧ Pv i σ H, ⟨n, by simp, Nat.zero_le _, h0⟩, ?_⟩
  rintro i m σ H ⟨rfl, hi, p⟩
  by_cases hlt : i < n
  · refine .inr ⟨hlt, Pv (i + 1), fun σ' H' p' => ⟨n - (i + 1), by lia, rfl, hlt, p'⟩, fun v H' y => ?_⟩
    obtain ⟨e, rfl⟩ := y
    subst e
    exact hs i σ _ hlt p
  · have e : i = n := by lia
    subst e
    exact .inl ⟨rfl, hd σ H p⟩
end
end L2

set_option Elab.async false
set_option linter.all false
set_option maxRecDepth 100000
namespace L2
open PySem PySem.Spec PyProof.Rows

/-! ### [x in G for x in text], G a text of the module -/
section
variable {X : Cx} {iter : Expr} {ti : TE} {x G : Str} {px px1 px2 cpos pos : Pos} {scope : Scope} {g : Str}
end

/-! ### isinstance, of an exception too -/
structure ExcF (K : PySem.W.Frag) (D : Addr) : Prop where
  hd : PySem.W.hasDictIn K D = true
  ga : PySem.W.findIn K (.ref D) "__getattribute__" = some (some (.builtin "BaseException.__getattribute__"))
  gt : PySem.W.findIn K (.ref D) "__getattr__" = some none
  cl : PySem.W.findIn K (.ref D) "__class__" = some (some (.builtin "object.__class__"))
  sp : PySem.W.specialIn K (.builtin "object.__class__") "__get__" = some (some (.builtin "getset_descriptor.__get__"))
  tk : PySem.W.takesIn K (.builtin "object.__class__") = some true
  mo : PySem.W.mroIn K D (.type "object") = some true
  mb : PySem.W.mroIn K D (.type "BaseException") = some true
section
variable {K : PySem.W.Frag} {prog : Program} {w : World} {A : Around} {E : Value → Shared → Prop} {s : Shared} {a D : Addr} {o : Obj}
open PySem.W Builtin Builtin.ObjectAttr Builtin.Getset_descriptor
theorem exc_find {M : Model} {h : Heap} (X : K.In h) (f : ExcF K D) : Looks M h (find (.ref a) (.ref D) "__class__") (.bind (.builtin "getset_descriptor.__get__") (.builtin "object.__class__")) :=
  (looks_findIn X f.cl).andThen ((looks_specialIn X f.sp).andThen ((show Looks M h (dataDescriptor? (some (.builtin "object.__class__")) (some (.builtin "getset_descriptor.__get__"))) (some (.builtin "getset_descriptor.__get__", .builtin "object.__class__")) from (looks_takesIn X f.tk).andThen .now).andThen (Looks.tag .now)))
theorem exc_get {R : Result → Shared → Prop} {tp : Value} (X : K.In s.heap) (f : ExcF K D) (he : s.heap.get? a = some o) (hc : o.cls = .ref D) (hq : R (.ok (.ret (.ref D))) s) :
    codeAny (model prog w) A (.call (.builtin "getset_descriptor.__get__") ⟨[.builtin "object.__class__", .ref a, tp], []⟩) R s := by
  obtain ⟨h, g, d, t, os⟩ := s
  have L0 : Looks (model prog w) h (typeOf (.ref a)) (.ref D) := hc ▸ (Looks.ld he).andThen .now
  have L1 := looks_mroIn (M := model prog w) X f.mo
  refine codeAny_call_builtin KF.slot_gs.plain KF.entry_gs (KF.slot_gs.check _ _ _ _ _ _ _ _ KF.type_class (KF.args_gs _ _ _) ?_)
  unfold Builtin.«getset_descriptor.__get__» descrGet
  rw [dga_obj]
  refine wpAny_bind (wpAny_pure ?_)
  unfold descrGetter descrCheckInstance descrNameAndClass isInstance
  simp only [KF.owner_class]
  repeat lk
  refine ⟨Code.quiet_builtin _ (by decide +kernel), codeAny_builtin KF.entry_class ?_⟩
  unfold Builtin.«object.__class__» shownTypeOf
  repeat lk
  exact hq
theorem exc_class {Q : Option Value → Shared → Prop} (X : K.In s.heap) (f : ExcF K D) (he : s.heap.get? a = some o) (hc : o.cls = .ref D) (hq : Q (some (.ref D)) { s with toks := s.toks + 1 }) :
    wpAny (model prog w) A (getAttr? (.ref a) "__class__") Q E s := by
  obtain ⟨h, g, d, t, os⟩ := s
  have L0 : Looks (model prog w) h (typeOf (.ref a)) (.ref D) := hc ▸ (Looks.ld he).andThen .now
  have L1 := looks_findIn (M := model prog w) X f.ga
  have L2 := looks_findIn (M := model prog w) X f.gt
  have L3 := exc_find (M := model prog w) (a := a) X f
  have L4 : Looks (model prog w) h (isInstance (.ref a) (.type "BaseException")) true := L0.andThen (looks_mroIn X f.mb)
  unfold getAttr? getAttrBy? getAttrBy
  refine wpAny_bind (wpAny_mkText (wpAny_bind (wpAny_attempt (wpAny_holding (wpAny_bind (L0.at (wpAny_bind (L1.at ?_))))))))
  dsimp only
  have n0 : (Value.builtin "BaseException.__getattribute__" == Value.builtin "object.__getattribute__") = false := by decide +kernel
  rw [if_neg (by rw [n0, Bool.and_false]; exact Bool.false_ne_true)]
  unfold getAttrByItsOwn hookBefore
  rw [if_pos (by rfl)]
  refine wpAny_bind (L2.at ?_)
  refine wpAny_bind (wpAny_attempt (wpAny_holding ?_))
  unfold callGetattribute
  rw [if_neg (by decide)]
  unfold boundAndCalled
  refine wpAny_bind (wpAny_of_eq (PySem.F.excAttr_ValueError.ga.bind (.ref a)) ?_)
  dsimp only
  refine wpAny_call (codeAny_call_builtin PySem.F.excAttr_ValueError.ga.plain PySem.F.entry_bexc_ga ?_)
  have hk : builtinKind "BaseException.__getattribute__" = some .slot := by decide +kernel
  have hsp : splitId "BaseException.__getattribute__" = some ("BaseException", "__getattribute__") := by decide +kernel
  have har := PySem.F.args_bexc_ga (.ref a) (.str "__class__" t)
  simp only [checkBuiltinCall, hk, hsp]
  refine wpAny_bind (L4.at ?_)
  rw [if_neg (by decide)]
  refine wpAny_of_eq (a := ()) har ?_
  unfold Builtin.«object.__getattribute__»
  dsimp only at L3
  repeat ((fail_if_success (with_reducible show wpAny _ _ (call _ _) _ _ _)); lk)
  refine wpAny_call (exc_get (s := ⟨h, g, d, t + 1, os⟩) X f he hc ?_)
  dsimp only
  repeat lk
  exact hq
end
end L2

set_option Elab.async false
set_option linter.all false
set_option maxRecDepth 100000
namespace L2
open PySem PySem.Spec PyProof.Rows
/-- the type of a value, of a held exception too -/
inductive TyX (K : PySem.W.Frag) (H : Hp) : V → Value → Prop where
  | of {x : V} {t : Value} (h : TyOf K H x t) : TyX K H x t
  | exc {a D : Addr} (e : H a = some (isExc a D)) (f : ExcF K D) : TyX K H (.ref a) (.ref D)
theorem kitx_exc {K : PySem.W.Frag} {a D : Addr} (f : ExcF K D) : PySem.W.KitX K (.ref a) (.ref D) (fun h => ∃ o, h.get? a = some o ∧ o.cls = .ref D ∧ PySem.W.notCls o = true) where
  ty := fun M h X ⟨o, e, c, _⟩ => c ▸ (PySem.W.Looks.ld e).andThen .now
  it := fun M h X _ => by
    obtain ⟨cd, hc, _⟩ := PySem.W.any_some f.hd
    unfold PySem.W.clsIn at hc
    split at hc
    · rename_i c' d' cd' sl' ho
      intro A' Q' E' s' k q
      unfold isType loadHead
      exact wpAny_bind (wpAny_loadPart (k _ _ (X _ _ ho)) (wpAny_pure q))
    · cases hc
  ne := fun h tp dd its n sl X htp => by
    obtain ⟨cd, hc, _⟩ := PySem.W.any_some f.hd
    refine Bool.eq_false_iff.mpr fun q => ?_
    have e : D = tp := Value.ref.inj (beq_iff_eq.mp q)
    subst e
    unfold PySem.W.clsIn at hc
    split at hc
    · rename_i c' d' cd' sl' ho
      have z := (X _ _ ho).symm.trans htp
      cases z
    · cases hc
  ca := fun X ⟨o, e, c, _⟩ k => exc_class X f e c k
def clsV : V → Option Value
  | .ty n => some (.type n)
  | .ref C => some (.ref C)
  | _ => none
theorem call_isi {X : Cx} : CallR X (.builtin "isinstance") (fun xs H Q => ∃ x c cv t b, xs = [x, c] ∧ clsV c = some cv ∧ TyX X.K H x t ∧ PySem.W.kitOne X.K t cv = some b ∧ Q (.bl b) H) := by
  intro pins s σ H xs us Q I r h
  obtain ⟨x, c, cv, t, b, rfl, hc, ty, hk, q⟩ := h
  cases r with
  | @cons _ u _ _ rx rr =>
    cases rr with
    | @cons _ v _ _ rc rn =>
      cases rn
      have ev : v = cv := by
        cases c with
        | ty n => cases hc; exact rc
        | ref C => cases hc; exact rc
        | _ => cases hc
      subst ev
      cases ty with
      | of ty => exact isinst_ok I rx ty hk fun tk => ⟨.bl b, H, I.tok tk, rfl, q⟩
      | @exc a D e f =>
        cases (show u = Value.ref a from rx)
        obtain ⟨p, _, _⟩ := (show ObjOk X.prog X.w H s.heap a (isExc a D) from I.hok a _ e)
        exact PySem.W.kia_one (kitx_exc f) I.kIn p hk (fun z => nomatch z) fun tk => ⟨.bl b, H, I.tok tk, rfl, q⟩
def rIsi (K : PySem.W.Frag) : List V → Hp → VK → Prop := fun xs H Q => ∃ x c cv t b, xs = [x, c] ∧ clsV c = some cv ∧ TyX K H x t ∧ PySem.W.kitOne K t cv = some b ∧ Q (.bl b) H
/-- the same with the written part named: within an except suite, where the reading may not speak of the exception -/
theorem call_isiK {X : Cx} (K : PySem.W.Frag) (h : X.K = K) : CallR X (.builtin "isinstance") (rIsi K) := by
  subst h
  exact call_isi
/-! ### an if whose ways meet in J -/
section
variable {X : Cx} {c : Expr} {a b : List Stmt} {tc : TT} {t u : TS} {pos : Pos}
def tIfJ (J : St → Hp → Prop) (tc : TT) (t u : TS) : TS := fun D σ H => (tc σ H fun b H1 => if b = true then t { D with nx := J } σ H1 else u { D with nx := J } σ H1) ∧ ∀ σ' H', J σ' H' → D.nx σ' H'
theorem SP.nx {pins : List (Addr × Obj)} {D : Ends} {J : St → Hp → Prop} {f : Flow} {s : Shared} (k : ∀ σ' H', J σ' H' → D.nx σ' H') (h : SP X pins { D with nx := J } f s) : SP X pins D f s := by
  cases f with
  | next => obtain ⟨σ', H', I, q⟩ := h; exact ⟨σ', H', I, k _ _ q⟩
  | brk => exact h
  | cont => exact h
  | ret v => exact h
theorem ps_ifJ (J : St → Hp → Prop) (hc : PT X c tc) (ha : PSs X a t) (hb : PSs X b u) : PS X (.If c a b pos) (tIfJ J tc t u) := by
  intro pins s σ H D I h
  obtain ⟨h, k⟩ := h
  refine wpAny_If (thn (hc pins s σ H _ I h) fun d s1 ⟨H1, I1, q1⟩ => ?_)
  cases d with
  | true => exact thn (ha pins s1 σ H1 _ I1 q1) fun f s2 q => q.nx k
  | false => exact thn (hb pins s1 σ H1 _ I1 q1) fun f s2 q => q.nx k
end
end L2

set_option Elab.async false
set_option linter.all false
set_option maxRecDepth 100000
/-! Comprehensions over the hand layer: a block of its own, its names, the names that it takes along. -/
namespace L2
open PySem PySem.Spec PyProof.Rows

/-! ### the cells that a block takes along -/
def clStep (env : Env) (a : List (Str × Addr)) (x : Str × NameKind) : List (Str × Addr) := if (x.2 == NameKind.free) = true then (x.1, (env.cells.lookup x.1).getD 0) :: a else a
def clOf (env : Env) (l : List (Str × NameKind)) : List (Str × Addr) := l.foldl (clStep env) []
theorem forIn_fold {α β : Type} {l : List α} {f : α → β → Sem (ForInStep β)} {g : β → α → β} (h : ∀ x ∈ l, ∀ b, f x b = pure (.yield (g b x))) : ∀ b, forIn l b f = pure (l.foldl g b) := by
  induction l with
  | nil => intro b; rfl
  | cons x l ih =>
    intro b
    rw [List.forIn_cons, h x List.mem_cons_self, pure_bind]
    exact ih (fun y hy => h y (List.mem_cons_of_mem _ hy)) _
theorem closure_of {scope : Scope} {env : Env} (h : ∀ y ∈ scope.names, y.2 = .free → ∃ c, env.cells.lookup y.1 = some c) : closureFor scope env = pure (clOf env scope.names) := by
  simp only [closureFor]
  rw [forIn_fold (g := clStep env) (fun x hx c => by
    obtain ⟨n, k⟩ := x
    by_cases hk : k = .free
    · subst hk
      obtain ⟨a, ha⟩ := h _ hx rfl
      have e : cellOf env n = pure a := by unfold cellOf; rw [show env.cells.lookup n = some a from ha]
      simp only [clStep, beq_self_eq_true, if_true, e, show env.cells.lookup n = some a from ha, Option.getD_some]
      rfl
    · have hb : (k == NameKind.free) = false := by simpa using hk
      simp only [clStep, hb, Bool.false_eq_true, if_false])]
  rfl
theorem cl_lookup (env : Env) {y : Str} {c : Addr} : ∀ (l : List (Str × NameKind)) (a : List (Str × Addr)), (l.foldl (clStep env) a).lookup y = some c → a.lookup y = some c ∨ ((y, NameKind.free) ∈ l ∧ c = (env.cells.lookup y).getD 0)
  | [], a, h => .inl h
  | (n, k) :: r, a, h => by
    rw [List.foldl_cons] at h
    rcases cl_lookup env r _ h with z | ⟨z, e⟩
    · unfold clStep at z
      split at z
      · rename_i hk
        have hk' : k = .free := by simpa using hk
        rw [List.lookup_cons] at z
        split at z
        · rename_i hy
          have hy' : y = n := by simpa using hy
          subst hy' hk'
          exact .inr ⟨List.mem_cons_self, (Option.some.inj z).symm⟩
        · exact .inl z
      · exact .inl z
    · exact .inr ⟨List.mem_cons_of_mem _ z, e⟩
theorem cl_stays (env : Env) {y : Str} : ∀ (l : List (Str × NameKind)) (a : List (Str × Addr)), (∃ c, a.lookup y = some c) → ∃ c, (l.foldl (clStep env) a).lookup y = some c
  | [], _, h => h
  | (n, k) :: r, a, h => by
    rw [List.foldl_cons]
    refine cl_stays env r _ ?_
    unfold clStep
    split
    · rw [List.lookup_cons]
      split
      · exact ⟨_, rfl⟩
      · exact h
    · exact h
theorem cl_has (env : Env) {y : Str} : ∀ (l : List (Str × NameKind)) (a : List (Str × Addr)), (y, NameKind.free) ∈ l → ∃ c, (l.foldl (clStep env) a).lookup y = some c
  | [], _, h => by simp at h
  | (n, k) :: r, a, h => by
    rw [List.foldl_cons]
    rcases List.mem_cons.mp h with e | h
    · cases e
      refine cl_stays env r _ ⟨(env.cells.lookup y).getD 0, ?_⟩
      unfold clStep
      simp only [beq_self_eq_true, if_true, List.lookup_cons]
    · exact cl_has env r _ h
/-- a name of the block that is no own local -/
theorem relabel_of {env : Env} {y : Str} : ∀ {names : List (Str × NameKind)}, (∀ z ∈ names, z.2 ≠ .cell) →
    ((names.map fun (n, k) => if (k == NameKind.free && env.scope.kind == .function && env.kindOf n == some .cell) then (n, NameKind.cell) else (n, k)).lookup y = some .cell ∨
      (names.map fun (n, k) => if (k == NameKind.free && env.scope.kind == .function && env.kindOf n == some .cell) then (n, NameKind.cell) else (n, k)).lookup y = some .free) → (y, NameKind.free) ∈ names
  | [], _, h => by simp at h
  | (n, k) :: r, hc, h => by
    have ih := @relabel_of env y r (fun z hz => hc z (List.mem_cons_of_mem _ hz))
    have h' : List.lookup y ((if (k == NameKind.free && env.scope.kind == .function && env.kindOf n == some .cell) = true then (n, NameKind.cell) else (n, k)) :: (r.map fun (n, k) => if (k == NameKind.free && env.scope.kind == .function && env.kindOf n == some .cell) then (n, NameKind.cell) else (n, k))) = some .cell ∨
      List.lookup y ((if (k == NameKind.free && env.scope.kind == .function && env.kindOf n == some .cell) = true then (n, NameKind.cell) else (n, k)) :: (r.map fun (n, k) => if (k == NameKind.free && env.scope.kind == .function && env.kindOf n == some .cell) then (n, NameKind.cell) else (n, k))) = some .free := h
    clear h
    by_cases hb : (k == NameKind.free && env.scope.kind == .function && env.kindOf n == some .cell) = true
    · rw [if_pos hb] at h'
      have hk : k = .free := by
        simp only [Bool.and_eq_true, beq_iff_eq] at hb
        exact hb.1.1
      simp only [List.lookup_cons] at h'
      cases hy : y == n with
      | true =>
        have : y = n := by simpa using hy
        subst this hk
        exact List.mem_cons_self
      | false =>
        rw [hy] at h'
        exact List.mem_cons_of_mem _ (ih h')
    · rw [if_neg hb] at h'
      simp only [List.lookup_cons] at h'
      cases hy : y == n with
      | true =>
        rw [hy] at h'
        have : y = n := by simpa using hy
        subst this
        rcases h' with z | z
        · exact absurd (Option.some.inj z) (hc (y, k) List.mem_cons_self)
        · cases Option.some.inj z
          exact List.mem_cons_self
      | false =>
        rw [hy] at h'
        exact List.mem_cons_of_mem _ (ih h')
theorem relabel_free {env : Env} {y : Str} : ∀ {names : List (Str × NameKind)}, names.lookup y = some .free →
    ((names.map fun (n, k) => if (k == NameKind.free && env.scope.kind == .function && env.kindOf n == some .cell) then (n, NameKind.cell) else (n, k)).lookup y = some .cell ∨
      (names.map fun (n, k) => if (k == NameKind.free && env.scope.kind == .function && env.kindOf n == some .cell) then (n, NameKind.cell) else (n, k)).lookup y = some .free)
  | [], h => by simp at h
  | (n, k) :: r, h => by
    have ih := @relabel_free env y r
    show List.lookup y ((if (k == NameKind.free && env.scope.kind == .function && env.kindOf n == some .cell) = true then (n, NameKind.cell) else (n, k)) :: (r.map fun (n, k) => if (k == NameKind.free && env.scope.kind == .function && env.kindOf n == some .cell) then (n, NameKind.cell) else (n, k))) = some .cell ∨
      List.lookup y ((if (k == NameKind.free && env.scope.kind == .function && env.kindOf n == some .cell) = true then (n, NameKind.cell) else (n, k)) :: (r.map fun (n, k) => if (k == NameKind.free && env.scope.kind == .function && env.kindOf n == some .cell) then (n, NameKind.cell) else (n, k))) = some .free
    rw [List.lookup_cons] at h
    by_cases hb : (k == NameKind.free && env.scope.kind == .function && env.kindOf n == some .cell) = true
    · rw [if_pos hb]
      simp only [List.lookup_cons]
      cases hy : y == n with
      | true => exact .inl rfl
      | false => rw [hy] at h; exact ih h
    · rw [if_neg hb]
      simp only [List.lookup_cons]
      cases hy : y == n with
      | true => rw [hy] at h; exact .inr h
      | false => rw [hy] at h; exact ih h

/-! ### a block's loop, with the step ahead of the store -/
section
variable {prog : Program} {w : World} {A : Around} {R : Result → Shared → Prop} {s : Shared}
abbrev testsOf (ifs : List Expr) (env : Env) : Sem Bool := forIn ifs true fun c r => if r = true then do let ok ← isTrue c env (eval c env); pure (ForInStep.yield ok) else pure (ForInStep.yield r)
theorem compLoop_go {elt target iter : Expr} {ifs : List Expr} {scope : Scope} {pos : Pos} {it acc : Value} {env : Env} (I : Nat → Shared → Prop)
    (turn : ∀ n s, I n s → wpAny (model prog w) A (pyNext it) (fun r s₁ => match r with
      | none => R (.ok .next) s₁
      | some v => wpAny (model prog w) A (letOwnedTupleGo target it v) (fun _ s₀ => wpAny (model prog w) A (assign target env v) (fun _ s₂ =>
          wpAny (model prog w) A (testsOf ifs env) (fun ok s₃ =>
            if ok = true then wpAny (model prog w) A (eval elt env) (fun x s₄ =>
              wpAny (model prog w) A (call (.builtin "list.append") [acc, x]) (fun _ s₅ => ∃ m, m < n ∧ I m s₅) (fun _ _ => False) s₄) (fun _ _ => False) s₃
            else ∃ m, m < n ∧ I m s₃) (fun _ _ => False) s₂) (fun _ _ => False) s₀) (fun _ _ => False) s₁) (fun _ _ => False) s)
    (n : Nat) (h : I n s) : codeAny (model prog w) A (.compLoop (.ListComp elt [⟨target, iter, ifs, 0⟩] scope pos) 0 it acc env) R s := by
  refine codeAny_loop rfl I (fun n s hI => ?_) n h
  show wpAny _ A ((compTurn (.ListComp elt [⟨target, iter, ifs, 0⟩] scope pos) 0 it acc env).onRaise (fun x => do noteFrame x env; theTreesLotGoes x)) _ _ s
  refine wpAny_noted ?_
  rw [compTurn_list]
  refine wpAny_bind (wpAny_standAt (wpAny_bind (wpAny_mono (turn n s hI) (fun r s₁ h₁ => ?_) fun _ _ h' => h'.elim)))
  cases r with
  | none => exact wpAny_pure h₁
  | some v =>
    refine wpAny_bind (wpAny_mono h₁ (fun _ s₀ h₀ => ?_) fun _ _ h' => h'.elim)
    refine wpAny_bind (wpAny_mono h₀ (fun _ s₂ h₂ => wpAny_bind (wpAny_mono h₂ (fun ok s₃ h₃ => ?_) fun _ _ h' => h'.elim)) fun _ _ h' => h'.elim)
    cases ok with
    | false => exact wpAny_pure ⟨rfl, h₃⟩
    | true =>
      exact wpAny_bind (wpAny_bind (wpAny_mono h₃ (fun x s₄ h₄ => wpAny_bind (wpAny_mono h₄ (fun _ s₅ h₅ => wpAny_pure (wpAny_pure ⟨rfl, h₅⟩)) fun _ _ h' => h'.elim)) fun _ _ h' => h'.elim))
end

/-! ### the block's context -/
/-- the names that the block takes along stand behind its own: cs are their slots outside -/
def caps (cs : List Nat) (σ : St) : St := cs.map fun j => (σ[j]?).getD none
def cxC (X : Cx) (scope : Scope) (N : List Str) (s : Shared) (H : Hp) (ex : List Addr) : Cx :=
  { X with N := N, s₀ := s, H₀ := H, env := compEnvC scope (clOf X.env scope.names) s.heap.objs.size X.env, outer := X.stack, stack := X.stack, ex := ex, fn := fun _ => false, pn := [], xe := fun _ _ => False }
def PTs (X : Cx) (ifs : List Expr) (t : TT) : Prop :=
  ∀ (pins : List (Addr × Obj)) (s : Shared) (σ : St) (H : Hp) (Q : Bool → Hp → Prop), Inv X pins σ H s → t σ H Q → wpAny (model X.prog X.w) X.A (testsOf ifs X.env) (TP X pins σ Q) X.xe s
def tYes : TT := fun _ H Q => Q true H
theorem pts_nil {X : Cx} : PTs X [] tYes := fun _ _ _ H _ I h => wpAny_tests_nil ⟨H, I, h⟩
theorem pts_one {X : Cx} {c : Expr} {t : TT} (h : PT X c t) : PTs X [c] t := fun pins s σ H Q I q => wpAny_tests_one (h pins s σ H Q I q)
/-- what a block's scope keeps to -/
structure CScope (X : Cx) (scope : Scope) (N : List Str) (k : Nat) (cs : List Nat) : Prop where
  cell : ∀ y ∈ scope.names, y.2 ≠ .cell
  kind : scope.kind = .function
  names : ∀ y ∈ scope.names, y.2 = .local → scope.names.lookup y.1 = some .local
  free : ∀ y ∈ scope.names, y.2 = .free → X.env.scope.names.lookup y.1 = some .cell ∨ X.env.scope.names.lookup y.1 = some .free
  len : N.length = k + cs.length
  cap : ∀ j, j < cs.length → ∃ x, N[k + j]? = some x ∧ X.N[cs.getD j 0]? = some x ∧ scope.names.lookup x = some .free

/-- W: the invariant by the turn, a measure, what has been put into the list -/
def tBlock (k : Nat) (cs : List Nat) (g : TG) (tc : TT) (te : TE) (J : It) (σ : St) (H1 : Hp) (fin : List V → Hp → Prop) : Prop :=
  ∃ W : Nat → Nat → List V → Hp → Prop, (∃ m, W 0 m [] H1) ∧ ∀ i m acc H, W i m acc H →
    (J.stop i H ∧ fin acc H) ∨ (J.go i H ∧ ∃ Nx : List V → Hp → Prop, (∀ acc' H', Nx acc' H' → ∃ m', m' < m ∧ W (i + 1) m' acc' H') ∧ ∀ x H', J.yld i H x H' → g x (List.replicate k none ++ caps cs σ) H' fun σ2 H2 => (∃ ts : St, ts.length = k ∧ σ2 = ts ++ caps cs σ) ∧ acc.length < sizeLine ∧
      tc σ2 H2 fun b H3 => if b = true then te σ2 H3 fun v H4 => Nx (acc ++ [v]) H4 else Nx acc H3)
def tComp (k : Nat) (cs : List Nat) (wi : TI) (g : TG) (tc : TT) (te : TE) : TE := fun σ H Q => wi σ H fun J H1 => tBlock k cs g tc te J σ H1 fun acc H2 => ∀ p, H2 p = none → Q (.ref p) (upd H2 p (.lst acc))

section
variable {X : Cx} {tg iter elt : Expr} {ifs : List Expr} {scope : Scope} {pos : Pos} {wi : TI} {g : TG} {tc : TT} {te : TE} {N : List Str} {k : Nat} {cs : List Nat}
theorem Inv.block {pins : List (Addr × Obj)} {σ : St} {H : Hp} {s s' : Shared} {ex : List Addr} (hc : X.calm = true) (S : CScope X scope N k cs) (I : Inv X pins σ H s)
    (hex : ∀ b ∈ ex, FpOk X pins H b ∧ ∃ o, s.heap.get? b = some o) (hos : s'.os = s.os) (hg : AllBare s'.gens) (hk : ∀ b o, s.heap.get? b = some o → s'.heap.get? b = some o) (hn : ∃ m, s'.heap.Ns s.heap.objs.size m) :
    Inv (cxC X scope N s H ex) [] (List.replicate k none ++ caps cs σ) H s' := by
  have lk : ∀ {x c}, (clOf X.env scope.names).lookup x = some c → X.env.cells.lookup x = some c := fun {x c} h => by
    rcases cl_lookup X.env _ _ h with z | ⟨z, e⟩
    · simp at z
    · obtain ⟨a, ha⟩ := I.ok.has x (S.free _ z rfl)
      rw [e, ha]; rfl
  have nex : ∀ b, b ∈ ex → b ≠ s.heap.objs.size := fun b hb z => by
    obtain ⟨_, o, ho⟩ := hex b hb
    exact absurd (Heap.lt_size ho) (by rw [z]; exact Nat.lt_irrefl _)
  refine ⟨⟨I.ok.mod, S.kind, I.ok.glob, I.ok.blt, Nat.le_refl _, fun x y c h1 h2 => I.ok.inj x y c (lk h1) (lk h2), fun x hx => ?_, fun x c h _ => (nomatch h), I.ok.hd, I.ok.frames, .inl rfl, fun b hb => ⟨nex b hb, fun x c h => ?_⟩, I.bs, ?_, fun b o e hb => ?_, fun b hb hf => ?_, I.stack, I.stkFree⟩,
    hos, hg, Un.kept hk, ?_, fun x c h => ?_, I.hok.fresh (Nat.le_refl _), fun x c h => I.freeC x c (lk h), fun p hp => absurd (show p ∈ ([] : List (Addr × Obj)) from hp) (by simp), I.hok.kept hk, ?_⟩
  · exact cl_has X.env _ _ (relabel_of S.cell hx)
  · exact (hex b hb).1.2.2.2.2.1 x c (lk h)
  · exact Nat.le_trans I.ok.bsz I.sz
  · rcases (hex b hb).1.2.2.2.1 with z | z
    · exact I.ok.noex b o e z
    · exact absurd (Nat.lt_of_lt_of_le (Heap.lt_size e) (Nat.le_trans I.ok.bsz z)) (Nat.lt_irrefl _)
  · rcases List.mem_cons.mp (I.stkSub b hf) with z | z
    · exact (hex b hb).1.2.1 z
    · exact (hex b hb).1.2.2.1 z
  · obtain ⟨m, hm⟩ := hn
    obtain ⟨mo, hmo, hlo⟩ := I.loc
    refine ⟨m, hm, fun i x v h1 h2 h3 => ?_⟩
    have hi : k ≤ i := by
      by_cases z : i < k
      · rw [List.getElem?_append_left (by simpa using z), List.getElem?_replicate, if_pos z] at h2
        cases h2
      · lia
    obtain ⟨j, rfl⟩ : ∃ j, i = k + j := ⟨i - k, by lia⟩
    rw [List.getElem?_append_right (by simp), List.length_replicate, Nat.add_sub_cancel_left] at h2
    unfold caps at h2
    rw [List.getElem?_map] at h2
    have hj : j < cs.length := by
      by_cases z : j < cs.length
      · exact z
      · rw [List.getElem?_eq_none (by lia)] at h2
        cases h2
    obtain ⟨x', e1, e2, e3⟩ := S.cap j hj
    rw [show N[k + j]? = some x from h1] at e1
    cases e1
    rw [List.getElem?_eq_getElem hj] at h2
    have h2' : (σ[cs[j]]?).getD none = some v := Option.some.inj h2
    rw [List.getD_eq_getElem?_getD, List.getElem?_eq_getElem hj] at e2
    have h4 : σ[cs[j]]? = some (some v) := by
      cases q : σ[cs[j]]? with
      | none => rw [q] at h2'; cases h2'
      | some w => rw [q] at h2'; rw [show w = some v from h2']
    have kO := S.free (x, .free) (PySem.mem_of_lookup e3) rfl
    obtain ⟨u, ru, l⟩ := hlo _ x v e2 h4 (.inr kO)
    refine ⟨u, ru, ?_⟩
    rcases l with ⟨z, _⟩ | ⟨_, c, hc', z⟩
    · have z' : X.env.scope.names.lookup x = some .local := z
      rcases kO with q | q <;> · rw [z'] at q; cases q
    · obtain ⟨c', h5⟩ := cl_has X.env _ [] (PySem.mem_of_lookup e3)
      have h6 := lk h5
      rw [hc'] at h6
      cases h6
      obtain ⟨o, ho, hd⟩ := z
      exact .inr ⟨relabel_free e3, c, h5, o, hk _ _ ho, hd⟩
  · obtain ⟨v, o, ho, hd⟩ := I.cell x c (lk h)
    exact ⟨v, o, hk _ _ ho, hd⟩
  · show (List.replicate k none ++ caps cs σ).length = N.length
    rw [List.length_append, List.length_replicate, S.len]
    unfold caps
    rw [List.length_map]
end
end L2

set_option Elab.async false
set_option linter.all false
set_option maxRecDepth 100000
namespace L2
open PySem PySem.Spec PyProof.Rows
section
variable {X : Cx} {tg iter elt : Expr} {ifs : List Expr} {scope : Scope} {pos : Pos} {wi : TI} {g : TG} {tc : TT} {te : TE} {N : List Str} {k : Nat} {cs : List Nat} {fin : List V → Hp → Prop}
theorem comp_loop {pins : List (Addr × Obj)} {σ : St} {H2 : Hp} {sD s1 : Shared} {it D : Addr} {fp : List Addr} {tn : Nat → Heap → Prop} {J : It} {n0 : Nat} {RR : Result → Shared → Prop} (hc : X.calm = true) (S : CScope X scope N k cs)
    (hg : ∀ s H ex, PG (cxC X scope N s H ex) tg g) (ht : ∀ s H ex, PTs (cxC X scope N s H ex) ifs tc) (he : ∀ s H ex, PE (cxC X scope N s H ex) elt te)
    (ID : Inv X pins σ H2 sD) (hD : sD.heap.get? D = some { cls := .type "list", data := .seq ([] : List Value).toArray n0 }) (hD0 : X.s₀.heap.objs.size ≤ D) (fD : FpOk X pins H2 D) (nfp : D ∉ fp)
    (T : Turn X.prog X.w X.K tg J fp it tn) (st : tn 0 sD.heap) (f2 : ∀ b ∈ fp, FpOk X pins H2 b) (hb : tBlock k cs g tc te J σ H2 fin)
    (hos : s1.os = sD.os) (hgn : AllBare s1.gens) (hk : ∀ b o, sD.heap.get? b = some o → s1.heap.get? b = some o) (hn : ∃ m, s1.heap.Ns sD.heap.objs.size m)
    (hRR : ∀ (H' : Hp) (acc : List V) (s4 : Shared), fin acc H' → H' D = none → Inv X pins σ (upd H' D (.lst acc)) s4 → (∃ m, s4.heap.Ns sD.heap.objs.size m) → FpOk X pins (upd H' D (.lst acc)) sD.heap.objs.size → RR (.ok .next) s4) :
    codeAny (model X.prog X.w) X.A (.compLoop (.ListComp elt [⟨tg, iter, ifs, 0⟩] scope pos) 0 (.ref it) (.ref D) (compEnvC scope (clOf X.env scope.names) sD.heap.objs.size X.env)) RR s1 := by
  obtain ⟨W, ⟨m0, w0⟩, turn⟩ := hb
  have hobj : ∀ b, b ∈ D :: fp → ∃ o, sD.heap.get? b = some o := fun b hb => by
    rcases List.mem_cons.mp hb with rfl | z
    · exact ⟨_, hD⟩
    · obtain ⟨o, e, _⟩ := T.obj _ _ st b z
      exact ⟨o, e⟩
  have hexx : ∀ b ∈ D :: fp, FpOk X pins H2 b ∧ ∃ o, sD.heap.get? b = some o := fun b hb => ⟨by
    rcases List.mem_cons.mp hb with rfl | z
    · exact fD
    · exact f2 b z, hobj b hb⟩
  have neC : ∀ b, b ∈ D :: fp → b ≠ sD.heap.objs.size := fun b hb z => by
    obtain ⟨o, e⟩ := hobj b hb
    exact absurd (Heap.lt_size e) (by rw [z]; exact Nat.lt_irrefl _)
  have nfr : ∀ b, b ∈ D :: fp → b ∉ frs X.stack := fun b hb hf => by
    rcases List.mem_cons.mp (ID.stkSub b hf) with z | z
    · exact (hexx b hb).1.2.1 z
    · exact (hexx b hb).1.2.2.1 z
  have I0 := ID.block hc S hexx hos hgn hk hn
  have I0ok := I0.ok
  have cells : ∀ b, b ∈ D :: fp → ∀ x c, (clOf X.env scope.names).lookup x = some c → c ≠ b := fun b hb x c h => (I0ok.exf b hb).2 x c h
  have fpok : ∀ {H' : Hp} {pl : List (Addr × Obj)}, (∀ b ∈ fp, H' b = none) → (∀ p ∈ pl, p.1 = D) → ∀ b ∈ fp, FpOk (cxC X scope N sD H2 (D :: fp)) pl H' b := fun hn hp b hb =>
    ⟨hn b hb, neC b (.tail _ hb), nfr b (.tail _ hb), .inl (.tail _ hb), cells b (.tail _ hb), fun p hp' z => nfp (by
      have := hp p hp'
      rw [← this, z]; exact hb)⟩
  refine compLoop_go (fun n s' => ∃ (i : Nat) (acc : List V) (its : List Value) (nn : Nat) (H' : Hp), Inv (cxC X scope N sD H2 (D :: fp)) [] (List.replicate k none ++ caps cs σ) H' s' ∧ tn i s'.heap ∧ (∀ b ∈ fp, H' b = none) ∧ H' D = none ∧ acc.length ≤ sizeLine ∧ Vals acc its ∧
    s'.heap.get? D = some { cls := .type "list", data := .seq its.toArray nn } ∧ W i n acc H') ?_ m0
    ⟨0, [], [], n0, H2, I0, T.keep _ _ _ st (fun b _ o e => hk b o e), fun b hb => (f2 b hb).1, fD.1, Nat.zero_le _, .nil, hk _ _ hD, w0⟩
  rintro n s3 ⟨i, acc, its, nn, H3, I3, st3, fr3, nD3, hl3, v3, e3, w3⟩
  have I3p : Inv (cxC X scope N sD H2 (D :: fp)) [(D, { cls := .type "list", data := .seq its.toArray nn })] (List.replicate k none ++ caps cs σ) H3 s3 := I3.pins_of fun p hp => by
    rw [List.mem_singleton] at hp
    subst hp
    exact ⟨e3, nD3, neC D (.head _), nfr D (.head _), fun v z => by cases z⟩
  have one : ∀ p ∈ [((D, { cls := .type "list", data := .seq its.toArray nn }) : Addr × Obj)], p.1 = D := fun p hp => by
    rw [List.mem_singleton] at hp
    subst hp
    rfl
  rcases turn i n acc H3 w3 with ⟨stop, qf⟩ | ⟨go, Nx, hNx, step⟩
  · refine thn (T.done (cxC X scope N sD H2 (D :: fp)) rfl rfl rfl hc i _ s3 _ H3 _ I3p (fpok fr3 one) st3 stop) fun r s4 ⟨hr, I4⟩ => ?_
    subst hr
    have IX : Inv X pins σ H3 s4 := ID.call' (ch := D :: fp) I4.os I4.base I4.hok I4.bare fun b hb => ⟨(hexx b hb).1.2.2.2.1, (hexx b hb).1.2.1, (hexx b hb).1.2.2.2.2.1, (hexx b hb).1.2.2.2.2.2⟩
    have p4 := (I4.pin (D, { cls := .type "list", data := .seq its.toArray nn }) (by show _ ∈ [] ++ [_]; simp)).1
    have IY : Inv X pins σ (upd H3 D (.lst acc)) s4 := by
      refine IX.track nD3 (Heap.get?_none_of_le hD0) (Heap.get?_none_of_le (Nat.le_trans ID.ok.bsz hD0)) (Ne.symm fD.2.1) fD.2.2.2.2.1 fD.2.2.2.2.2 (fun b hb z => fD.2.2.1 (z ▸ hb)) ?_
      exact ⟨hl3, its, nn, v3, p4⟩
    refine hRR H3 acc s4 qf nD3 IY ?_ (ID.fpOk (Nat.le_refl _) ?_)
    · obtain ⟨m, hm, _⟩ := I4.loc
      exact ⟨m, hm⟩
    · rw [upd_ne (Ne.symm (neC D (.head _)))]
      exact I4.free
  · refine thn (T.item (cxC X scope N sD H2 (D :: fp)) rfl rfl rfl hc i _ s3 _ H3 (fun _ _ => False) I3p (fpok fr3 one) st3 go) fun r s4 ⟨u, hr, h4⟩ => ?_
    subst hr
    refine thn h4 fun _ s5 ⟨x, H5, I5, r5, y5, st5, fr5⟩ => ?_
    have I5' := I5.pinned (fpok fr5 one) (T.obj _ _ st5)
    refine thn (hg sD H2 (D :: fp) _ s5 _ H5 x u _ I5' r5 (step x H5 y5)) fun _ s6 ⟨σ6, H6, I6, ⟨ts, tl, eσ⟩, hz6, q6⟩ => ?_
    refine thn (ht sD H2 (D :: fp) _ s6 σ6 H6 _ I6 q6) fun b s7 ⟨H7, I7, q7⟩ => ?_
    have weak : ∀ {pl : List (Addr × Obj)} {H' : Hp} {s' : Shared}, Inv (cxC X scope N sD H2 (D :: fp)) pl σ6 H' s' → Inv (cxC X scope N sD H2 (D :: fp)) [] (List.replicate k none ++ caps cs σ) H' s' := fun {pl H' s'} J => by
      refine (J.weak (σ' := List.replicate k none ++ caps cs σ) ?_ fun j v e => ?_).pins_of fun p hp => absurd hp (by simp)
      · rw [eσ, List.length_append, List.length_append, List.length_replicate, tl]
      · by_cases z : j < k
        · rw [List.getElem?_append_left (by simpa using z), List.getElem?_replicate, if_pos z] at e
          cases e
        · rw [List.getElem?_append_right (by rw [List.length_replicate]; lia), List.length_replicate] at e
          rw [eσ, List.getElem?_append_right (by lia), tl]
          exact e
    -- the walked records stand since s5
    have later : ∀ {pl : List (Addr × Obj)} {σ' : St} {H' : Hp} {s' : Shared}, Inv (cxC X scope N sD H2 (D :: fp)) (pl ++ pinsAt fp s5.heap) σ' H' s' → tn (i + 1) s'.heap ∧ ∀ b ∈ fp, H' b = none := fun {pl σ' H' s'} J =>
      ⟨T.keep _ _ _ st5 fun b hb o e => (J.pin (b, o) (List.mem_append_right _ (List.mem_append_right _ (mem_pinsAt hb e)))).1, fun b hb => by
        obtain ⟨o, e, _⟩ := T.obj _ _ st5 b hb
        exact (J.pin (b, o) (List.mem_append_right _ (List.mem_append_right _ (mem_pinsAt hb e)))).2.1⟩
    cases b with
    | false =>
      have q7' : Nx acc H7 := by simpa using q7
      obtain ⟨m', hm, w7⟩ := hNx _ _ q7'
      rw [if_neg Bool.false_ne_true]
      have p7 := I7.pin (D, { cls := .type "list", data := .seq its.toArray nn }) (List.mem_append_right _ (List.mem_append_left _ (List.mem_singleton.mpr rfl)))
      exact ⟨m', hm, i + 1, acc, its, nn, H7, weak I7, (later I7).1, (later I7).2, p7.2.1, hl3, v3, p7.1, w7⟩
    | true =>
      rw [if_pos rfl] at q7
      rw [if_pos rfl]
      refine thn (he sD H2 (D :: fp) _ s7 σ6 H7 _ I7 q7) fun y s8 ⟨v, H8, I8, r8, q8⟩ => ?_
      obtain ⟨m', hm, w8⟩ := hNx _ _ q8
      have p8 := I8.pin (D, { cls := .type "list", data := .seq its.toArray nn }) (List.mem_append_right _ (List.mem_append_left _ (List.mem_singleton.mpr rfl)))
      have hlen := v3.length
      refine call_meets F.slot_list_append ⟨_, p8.1, rfl⟩ F.entry_list_append (F.args_list_append_2 _ _) (PySem.list_append D its.toArray nn y (by rw [List.size_toArray]; lia)) ⟨p8.1, ?_⟩
      have q := PySem.IsL.update p8.1 (·.push y)
      have eq : its.toArray.push y = (its ++ [y]).toArray := by simp
      dsimp only at q
      rw [eq] at q
      have I8' : Inv (cxC X scope N sD H2 (D :: fp)) ([] ++ pinsAt fp s5.heap) σ6 H8 s8 := I8.pins_of fun p hp => I8.pin p (List.mem_append_right _ (List.mem_append_right _ hp))
      have I9 := I8'.turned (t' := s8.toks) (it := D) (h' := s8.heap.update D (Obj.mapSeq (·.push y))) (fun b o hb e => (Heap.get?_update_other s8.heap (Obj.mapSeq (·.push y)) (Ne.symm hb)).trans e) p8.2.1 (neC D (.head _)) (.inl (.head _)) (cells D (.head _))
        (fun p hp z => nfp (by
          have := (of_pinsAt (fp := fp) (h := s5.heap) (p := p) (by simpa [cxC] using hp)).1
          rw [z] at this
          exact this))
      refine ⟨m', hm, i + 1, acc ++ [v], its ++ [y], _, H8, weak I9, (later I9).1, (later I9).2, p8.2.1, ?_, v3.append (.cons r8 .nil), q, w8⟩
      rw [List.length_append, List.length_singleton]
      lia
/-- from the iterator on: the new list, the block, its loop -/
theorem comp_block {pins : List (Addr × Obj)} {σ : St} {H2 : Hp} {s2 : Shared} {it : Addr} {fp : List Addr} {tn : Nat → Heap → Prop} {J : It} {RR : Value → Addr → Result → Shared → Prop} {E : Value → Shared → Prop} (hc : X.calm = true) (S : CScope X scope N k cs)
    (hg : ∀ s H ex, PG (cxC X scope N s H ex) tg g) (ht : ∀ s H ex, PTs (cxC X scope N s H ex) ifs tc) (he : ∀ s H ex, PE (cxC X scope N s H ex) elt te)
    (I2 : Inv X pins σ H2 s2) (T : Turn X.prog X.w X.K tg J fp it tn) (st : tn 0 s2.heap) (f2 : ∀ b ∈ fp, FpOk X pins H2 b) (hb : tBlock k cs g tc te J σ H2 fin)
    (hRR : ∀ (D C : Addr) (H' : Hp) (acc : List V) (s4 : Shared), fin acc H' → H' D = none → Inv X pins σ (upd H' D (.lst acc)) s4 → (∃ m, s4.heap.Ns C m) → FpOk X pins (upd H' D (.lst acc)) C → RR (.ref D) C (.ok .next) s4) :
    wpAny (model X.prog X.w) X.A (newList []) (fun acc s₃ => wpAny (model X.prog X.w) X.A (newFunctionEnv scope X.env.globals (clOf X.env scope.names) [] X.env.qual none .none (some X.env)) (fun cenv s₄ =>
      codeAny (model X.prog X.w) X.A (.compStart (.ListComp elt [⟨tg, iter, ifs, 0⟩] scope pos) 0 (.ref it) acc { cenv with scope := relabel scope X.env }) (RR acc cenv.locals) s₄) E s₃) E s2 := by
  refine wpAny_newObj_type (wpAny_newFunctionEnv S.cell (by intro y hy; simp at hy) (fun h₁ hns₁ hsb₁ => ?_) S.kind)
  dsimp only at hns₁ hsb₁ ⊢
  have keepD : ∀ b o, s2.heap.get? b = some o → (s2.heap.push { cls := .type "list", dict := none, data := .seq ([] : List Value).toArray }).get? b = some o := fun b o e => Heap.get?_push_of_some _ e
  have ID : Inv X pins σ H2 { s2 with heap := s2.heap.push { cls := .type "list", dict := none, data := .seq ([] : List Value).toArray } } := I2.kept (t' := s2.toks) keepD
  have hD : (s2.heap.push { cls := .type "list", dict := none, data := .seq ([] : List Value).toArray }).get? s2.heap.objs.size = some { cls := .type "list", data := .seq ([] : List Value).toArray } := Heap.get?_push_size _ rfl
  have nfp : s2.heap.objs.size ∉ fp := fun z => by
    obtain ⟨o, e, _⟩ := T.obj _ _ st _ z
    exact absurd (Heap.lt_size e) (Nat.lt_irrefl _)
  have stD : tn 0 (s2.heap.push { cls := .type "list", dict := none, data := .seq ([] : List Value).toArray }) := T.keep _ _ _ st fun b _ o e => keepD b o e
  have hk : ∀ b o, (s2.heap.push { cls := .type "list", dict := none, data := .seq ([] : List Value).toArray }).get? b = some o → h₁.get? b = some o := fun b o e => hsb₁.extBut b o (Nat.ne_of_lt (Heap.lt_size e)) (Heap.get?_push_of_some _ e)
  have loop : ∀ s₃ : Shared, s₃ = { s2 with heap := h₁, toks := s2.toks + ([] : List (Str × Value)).length } →
      codeAny (model X.prog X.w) X.A (.compLoop (.ListComp elt [⟨tg, iter, ifs, 0⟩] scope pos) 0 (.ref it) (.ref s2.heap.objs.size) (compEnvC scope (clOf X.env scope.names) (s2.heap.push { cls := .type "list", dict := none, data := .seq ([] : List Value).toArray }).objs.size X.env))
        (RR (.ref s2.heap.objs.size) (s2.heap.push { cls := .type "list", dict := none, data := .seq ([] : List Value).toArray }).objs.size) s₃ := by
    rintro s₃ rfl
    exact comp_loop (sD := { s2 with heap := s2.heap.push { cls := .type "list", dict := none, data := .seq ([] : List Value).toArray } }) hc S hg ht he ID hD I2.sz (I2.fpOk (Nat.le_refl _) I2.fresh) nfp T stD f2 hb rfl I2.bare hk ⟨_, hns₁⟩ fun H' acc s4 => hRR _ _ H' acc s4
  exact codeAny_compStart_list (loop _ rfl) (T.self _ 0 _ _ _ (T.keep _ _ _ stD fun b _ o e => hk b o e) (loop _ rfl))
theorem pe_comp (hc : X.calm = true) (S : CScope X scope N k cs) (hi : PI X tg iter wi) (hg : ∀ s H ex, PG (cxC X scope N s H ex) tg g) (ht : ∀ s H ex, PTs (cxC X scope N s H ex) ifs tc) (he : ∀ s H ex, PE (cxC X scope N s H ex) elt te)
    (hs : ∀ x, foldedSetIterable iter X.env x = pure x := by intro _; rfl) : PE X (.ListComp elt [⟨tg, iter, ifs, 0⟩] scope pos) (tComp k cs wi g tc te) := by
  intro pins s σ H Q I h
  rw [eval_ListComp]
  refine wpAny_comprehension_free (use := none) rfl hs (closure_of fun y hy hf => I.ok.has _ (S.free y hy hf)) S.kind S.names (thn (hi pins s σ H _ I h) fun v s1 h1 => thn h1 fun itv s2 h2 => ?_)
  obtain ⟨it, fp, tn, J, H2, rfl, I2, T, st2, f2, hb⟩ := h2
  refine comp_block (RR := fun acc C => compPost (model X.prog X.w) X.A X.xe none (EP X pins σ Q) acc C) hc S hg ht he I2 T st2 f2 hb fun D C H' acc s4 qf nD J4 hn fC => ?_
  obtain ⟨m, hm⟩ := hn
  refine ⟨m, hm, fun h' sb => ⟨.ref D, upd H' D (.lst acc), ?_, rfl, qf D nD⟩⟩
  exact J4.turned (t' := s4.toks) (it := C) (fun b o hb e => (sb.2 b hb).trans e) fC.1 fC.2.1 fC.2.2.2.1 fC.2.2.2.2.1 fC.2.2.2.2.2
/-- name = [..]: stored ahead of the block's end -/
def tSetComp (i k : Nat) (cs : List Nat) (wi : TI) (g : TG) (tc : TT) (te : TE) : TS := fun D σ H => wi σ H fun J H1 => tBlock k cs g tc te J σ H1 fun acc H2 => ∀ p, H2 p = none → D.nx (σ.set i (some (.ref p))) (upd H2 p (.lst acc))
theorem ps_setComp {i : Nat} {y : Str} {py spos : Pos} (hc : X.calm = true) (hN : X.N.Nodup) (hi' : X.N[i]? = some y) (hy : X.env.scope.names.lookup y = some .local) (S : CScope X scope N k cs) (hi : PI X tg iter wi)
    (hg : ∀ s H ex, PG (cxC X scope N s H ex) tg g) (ht : ∀ s H ex, PTs (cxC X scope N s H ex) ifs tc) (he : ∀ s H ex, PE (cxC X scope N s H ex) elt te)
    (hsw : swapsWith (.ListComp elt [⟨tg, iter, ifs, 0⟩] scope pos) (some (.Name y py)) spos.line X.env = pure true := by rfl) (hs : ∀ x, foldedSetIterable iter X.env x = pure x := by intro _; rfl) :
    PS X (.Assign [.Name y py] (.ListComp elt [⟨tg, iter, ifs, 0⟩] scope pos) spos) (tSetComp i k cs wi g tc te) := by
  intro pins s σ H D I h
  rw [exec_Assign_Name_used _ _ _ _ hsw]
  refine wpAny_bind (wpAny_standAt (wpAny_bind ?_))
  show wpAny _ X.A (do let _ ← comprehension (.ListComp elt [⟨tg, iter, ifs, 0⟩] scope pos) scope X.env _ (newList []) false (eval iter X.env) (some (assign (.Name y py) X.env))) _ _ s
  refine wpAny_bind (wpAny_mono (wpAny_comprehension_free (use := some (assign (.Name y py) X.env)) (Q := fun _ s' => SP X pins D .next s') rfl hs (closure_of fun y hy hf => I.ok.has _ (S.free y hy hf)) S.kind S.names
    (thn (hi pins s σ H _ I h) fun v s1 h1 => thn h1 fun itv s2 h2 => ?_)) (fun _ s' hq => wpAny_pure (wpAny_pure hq)) fun _ _ e => e)
  obtain ⟨it, fp, tn, J, H2, rfl, I2, T, st2, f2, hb⟩ := h2
  refine comp_block (RR := fun acc C => compPost (model X.prog X.w) X.A X.xe (some (assign (.Name y py) X.env)) (fun _ s' => SP X pins D .next s') acc C) hc S hg ht he I2 T st2 f2 hb fun L C H' acc s4 qf nD J4 hn fC => ?_
  obtain ⟨m, hm⟩ := hn
  show wpAny _ X.A (assign (.Name y py) X.env (.ref L)) _ _ _
  refine wpAny_assign_Name (store_ok2 J4 hN hi' (.inl hy) (v := .ref L) rfl (fun s5 J5 hsb => ?_) (.inr hy))
  obtain ⟨a, sb, ha⟩ := hsb
  have nCa : C ≠ a := by
    rcases ha with z | z
    · rw [z]; exact fC.2.1
    · exact fun q => fC.2.2.2.2.1 y a z q.symm
  refine ⟨m, hm.sameBut sb nCa, fun h' sb' => ⟨σ.set i (some (.ref L)), upd H' L (.lst acc), ?_, qf L nD⟩⟩
  exact J5.turned (t' := s5.toks) (it := C) (fun b o hb e => (sb'.2 b hb).trans e) fC.1 fC.2.1 fC.2.2.2.1 fC.2.2.2.2.1 fC.2.2.2.2.2
end

/-! ### the forms one uses -/
section
variable {K : PySem.W.Frag} {k : Nat} {cs : List Nat} {g : TG} {tc : TT} {te : TE} {σ : St} {H : Hp} {fin : List V → Hp → Prop}
/-- what a turn is to do -/
abbrev Bt (k : Nat) (cs : List Nat) (g : TG) (tc : TT) (te : TE) (σ : St) (x : V) (acc : List V) (H : Hp) (Nx : List V → Hp → Prop) : Prop :=
  g x (List.replicate k none ++ caps cs σ) H fun σ2 H2 => (∃ ts : St, ts.length = k ∧ σ2 = ts ++ caps cs σ) ∧ acc.length < sizeLine ∧ tc σ2 H2 fun b H3 => if b = true then te σ2 H3 fun v H4 => Nx (acc ++ [v]) H4 else Nx acc H3
theorem blk_list {a : Addr} {xs : List V} (Pv : Nat → List V → Hp → Prop) (h0 : Pv 0 [] H) (hl : ∀ i acc H, i ≤ xs.length → Pv i acc H → SqL K H a xs)
    (hs : ∀ i x acc H, xs[i]? = some x → Pv i acc H → Bt k cs g tc te σ x acc H (Pv (i + 1))) (hd : ∀ acc H, Pv xs.length acc H → fin acc H) : tBlock k cs g tc te (Itl K a) σ H fin := by
  refine ⟨fun i m acc H => m = xs.length - i ∧ i ≤ xs.length ∧ Pv i acc H, ⟨xs.length, by simp, Nat.zero_le _, h0⟩, ?_⟩
  rintro i m acc H ⟨rfl, hi, p⟩
  have q := hl i acc H hi p
  by_cases hlt : i < xs.length
  · refine .inr ⟨⟨xs, xs[i], q, by simp [hlt]⟩, Pv (i + 1), fun acc' H' p' => ⟨xs.length - (i + 1), by lia, rfl, hlt, p'⟩, fun x H' y => ?_⟩
    obtain ⟨e, y⟩ := y
    subst e
    exact hs i x acc _ (y xs q) p
  · have e : i = xs.length := by lia
    subst e
    exact .inl ⟨⟨xs, q, Nat.le_refl _⟩, hd acc H p⟩
theorem blk_tup {a : Addr} {xs : List V} (Pv : Nat → List V → Hp → Prop) (h0 : Pv 0 [] H) (hl : ∀ i acc H, i ≤ xs.length → Pv i acc H → SqT K H a xs)
    (hs : ∀ i x acc H, xs[i]? = some x → Pv i acc H → Bt k cs g tc te σ x acc H (Pv (i + 1))) (hd : ∀ acc H, Pv xs.length acc H → fin acc H) : tBlock k cs g tc te (Itt K a) σ H fin := by
  refine ⟨fun i m acc H => m = xs.length - i ∧ i ≤ xs.length ∧ Pv i acc H, ⟨xs.length, by simp, Nat.zero_le _, h0⟩, ?_⟩
  rintro i m acc H ⟨rfl, hi, p⟩
  have q := hl i acc H hi p
  by_cases hlt : i < xs.length
  · refine .inr ⟨⟨xs, xs[i], q, by simp [hlt]⟩, Pv (i + 1), fun acc' H' p' => ⟨xs.length - (i + 1), by lia, rfl, hlt, p'⟩, fun x H' y => ?_⟩
    obtain ⟨e, y⟩ := y
    subst e
    exact hs i x acc _ (y xs q) p
  · have e : i = xs.length := by lia
    subst e
    exact .inl ⟨⟨xs, q, Nat.le_refl _⟩, hd acc H p⟩
theorem blk_range {lo : Int} {n : Nat} (Pv : Nat → List V → Hp → Prop) (h0 : Pv 0 [] H) (hs : ∀ i acc H, i < n → Pv i acc H → Bt k cs g tc te σ (.int (lo + i)) acc H (Pv (i + 1))) (hd : ∀ acc H, Pv n acc H → fin acc H) : tBlock k cs g tc te (Itr lo n) σ H fin := by
  refine ⟨fun i m acc H => m = n - i ∧ i ≤ n ∧ Pv i acc H, ⟨n, by simp, Nat.zero_le _, h0⟩, ?_⟩
  rintro i m acc H ⟨rfl, hi, p⟩
  by_cases hlt : i < n
  · refine .inr ⟨hlt, Pv (i + 1), fun acc' H' p' => ⟨n - (i + 1), by lia, rfl, hlt, p'⟩, fun x H' y => ?_⟩
    obtain ⟨e, y⟩ := y
    subst e y
    exact hs i acc _ hlt p
  · have e : i = n := by lia
    subst e
    exact .inl ⟨Nat.le_refl _, hd acc H p⟩
end
end L2

set_option Elab.async false
set_option linter.all false
set_option maxRecDepth 100000
/-! enumerate and zip over lists and tuples. -/
namespace L2
open PySem PySem.Spec PyProof.Rows
section
variable {prog : Program} {w : World} {A : Around} {E : Value → Shared → Prop} {s : Shared}
theorem nextOf_tuple_item {I t : Addr} {k : Nat} {vs : Array Value} {v : Value} {Q : Value → Shared → Prop} (hI : s.heap.IsTupleIter I t k) (hV : s.heap.IsTuple t vs) (hv : vs[k]? = some v)
    (q : ∀ g, g.IsTupleIter I t (k + 1) → Heap.SameBut I s.heap g → Q v { s with heap := g }) : wpAny (model prog w) A (Builtin.SmallTypes.nextOf (.ref I)) Q E s := by
  obtain ⟨oI, eI, cI, dI⟩ := id hI
  obtain ⟨oV, eV, _, nV, dV⟩ := hV
  unfold Builtin.SmallTypes.nextOf
  refine wpAny_bind (wpAny_callSpecial?_slot (name := Str.ofString "__next__") hI.typeIs F.slot_tuple_iterator_next (wpAny_call_entry F.slot_tuple_iterator_next hI.typeIs F.entry_tuple_iterator_next ?_ (F.args_tuple_iterator_next_1 _)))
  show wpAny _ _ (field (.ref I) 0 >>= _) _ _ s
  refine wpAny_bind (wpAny_field eI dI (x := .ref t) rfl ?_)
  show wpAny _ _ (if (Value.ref t == Value.none) = true then _ else _) _ _ s
  rw [if_neg (fun z : (Value.ref t == Value.none) = true => Bool.false_ne_true z)]
  show wpAny _ _ (field (.ref I) 1 >>= _) _ _ s
  refine wpAny_bind (wpAny_field eI dI (x := .int k 0) rfl ?_)
  show wpAny _ _ (seqItems? (.ref t) >>= _) _ _ s
  refine wpAny_bind (wpAny_seqItems eV dV ?_)
  simp only [Int.toNat_natCast, hv]
  refine wpAny_bind (wpAny_setField eI dI (by simp) (wpAny_pure ⟨v, rfl, wpAny_pure (q _ ?_ (Heap.SameBut.update ..))⟩))
  exact ⟨_, Heap.get?_update_self _ eI (Obj.isFreed_of_fields (Obj.data_mapFields dI _)), (Obj.cls_mapFields ..).trans cI, by rw [Obj.data_mapFields dI]; simp [rawInt]⟩
theorem nextOf_tuple_end {I t : Addr} {k : Nat} {vs : Array Value} {Q : Value → Shared → Prop} (hA : A.handled = none) (hI : s.heap.IsTupleIter I t k) (hV : s.heap.IsTuple t vs) (hv : vs[k]? = none)
    (q : ∀ g e, Heap.ExtBut I s.heap g → (∃ o, g.get? e = some o ∧ o.cls = .type "StopIteration") → E (.ref e) { s with heap := g }) : wpAny (model prog w) A (Builtin.SmallTypes.nextOf (.ref I)) Q E s := by
  obtain ⟨oI, eI, cI, dI⟩ := id hI
  obtain ⟨oV, eV, _, nV, dV⟩ := hV
  unfold Builtin.SmallTypes.nextOf
  refine wpAny_bind (wpAny_callSpecial?_slot (name := Str.ofString "__next__") hI.typeIs F.slot_tuple_iterator_next (wpAny_call_entry F.slot_tuple_iterator_next hI.typeIs F.entry_tuple_iterator_next ?_ (F.args_tuple_iterator_next_1 _)))
  show wpAny _ _ (field (.ref I) 0 >>= _) _ _ s
  refine wpAny_bind (wpAny_field eI dI (x := .ref t) rfl ?_)
  show wpAny _ _ (if (Value.ref t == Value.none) = true then _ else _) _ _ s
  rw [if_neg (fun z : (Value.ref t == Value.none) = true => Bool.false_ne_true z)]
  show wpAny _ _ (field (.ref I) 1 >>= _) _ _ s
  refine wpAny_bind (wpAny_field eI dI (x := .int k 0) rfl ?_)
  show wpAny _ _ (seqItems? (.ref t) >>= _) _ _ s
  refine wpAny_bind (wpAny_seqItems eV dV ?_)
  simp only [Int.toNat_natCast, hv]
  refine wpAny_bind (wpAny_rule (wpAny_bind (wpAny_setField eI dI (by simp) ?_)))
  show wpAny _ _ (newExc (.type "StopIteration") [] >>= _) _ _ _
  refine wpAny_bind ?_
  simp only [newExc, newTuple]
  refine wpAny_bind (wpAny_newObj_type ?_ (by size_fits))
  refine wpAny_bind (m := firstArgMember _ _) (wpAny_of_eq (a := Value.none) (by first | rfl | (simp only [firstArgMember]; rfl)) (wpAny_newObj_type ?_ (by size_fits)))
  simp only [raiseNew]
  refine wpAny_bind (wpAny_handled ?_)
  first | rw [show A.in1.handled = none from hA] | rw [hA]
  refine wpAny_bind (wpAny_pure (wpAny_throw (q _ _ (((Heap.SameBut.update ..).extBut.push _).push _) ⟨_, Heap.get?_push_size _ rfl, rfl⟩)))
/-- the iterator of a list (false) or of a tuple (true) -/
def SeqIt : Bool → Heap → Addr → Addr → Nat → Prop
  | true, h, I, l, k => h.IsTupleIter I l k
  | false, h, I, l, k => h.IsListIter I l k
def SeqOb : Bool → Heap → Addr → Array Value → Prop
  | true, h, l, vs => h.IsTuple l vs
  | false, h, l, vs => h.IsList l vs
def SqX (K : PySem.W.Frag) : Bool → Hp → Addr → List V → Prop
  | true, H, a, xs => SqT K H a xs
  | false, H, a, xs => SqL K H a xs
theorem SeqIt.move {b : Bool} {h g : Heap} {I l : Addr} {k : Nat} (x : SeqIt b h I l k) (e : ∀ o, h.get? I = some o → g.get? I = some o) : SeqIt b g I l k := by
  cases b with
  | true => obtain ⟨o, ho, r⟩ := x; exact ⟨o, e _ ho, r⟩
  | false => obtain ⟨o, ho, r⟩ := x; exact ⟨o, e _ ho, r⟩
theorem SeqIt.there {b : Bool} {h : Heap} {I l : Addr} {k : Nat} (x : SeqIt b h I l k) : ∃ o, h.get? I = some o ∧ ∀ v, o.data ≠ .cell v := by
  cases b with
  | true => obtain ⟨o, ho, _, d⟩ := x; exact ⟨o, ho, fun v z => by rw [d] at z; cases z⟩
  | false => obtain ⟨o, ho, _, d⟩ := x; exact ⟨o, ho, fun v z => by rw [d] at z; cases z⟩
theorem SeqOb.move {b : Bool} {h g : Heap} {l : Addr} {vs : Array Value} (x : SeqOb b h l vs) (e : ∀ o, h.get? l = some o → g.get? l = some o) : SeqOb b g l vs := by
  cases b with
  | true => obtain ⟨o, ho, r⟩ := x; exact ⟨o, e _ ho, r⟩
  | false => obtain ⟨o, ho, r⟩ := x; exact ⟨o, e _ ho, r⟩
theorem nextOf_seq_item {b : Bool} {I l : Addr} {k : Nat} {vs : Array Value} {v : Value} {Q : Value → Shared → Prop} (hI : SeqIt b s.heap I l k) (hV : SeqOb b s.heap l vs) (hv : vs[k]? = some v)
    (q : ∀ g, SeqIt b g I l (k + 1) → Heap.SameBut I s.heap g → Q v { s with heap := g }) : wpAny (model prog w) A (Builtin.SmallTypes.nextOf (.ref I)) Q E s := by
  cases b with
  | true => exact nextOf_tuple_item hI hV hv q
  | false => exact wpAny_nextOf_list_item hI hV hv q
theorem nextOf_seq_end {b : Bool} {I l : Addr} {k : Nat} {vs : Array Value} {Q : Value → Shared → Prop} (hA : A.handled = none) (hI : SeqIt b s.heap I l k) (hV : SeqOb b s.heap l vs) (hv : vs[k]? = none)
    (q : ∀ g e, Heap.ExtBut I s.heap g → (∃ o, g.get? e = some o ∧ o.cls = .type "StopIteration") → E (.ref e) { s with heap := g }) : wpAny (model prog w) A (Builtin.SmallTypes.nextOf (.ref I)) Q E s := by
  cases b with
  | true => exact nextOf_tuple_end hA hI hV hv q
  | false => exact wpAny_nextOf_list_end hA hI hV hv q
theorem pyIter_seq {b : Bool} {l : Addr} {vs : Array Value} {Q : Value → Shared → Prop} (hV : SeqOb b s.heap l vs)
    (q : ∀ g, SeqIt b g s.heap.objs.size l 0 → g.objs.size = s.heap.objs.size + 1 → (∀ c o, s.heap.get? c = some o → g.get? c = some o) → Q (.ref s.heap.objs.size) { s with heap := g }) : wpAny (model prog w) A (pyIter (.ref l)) Q E s := by
  cases b with
  | true => exact wpAny_pyIter_tuple hV (q _ ⟨_, Heap.get?_push_size _ rfl, rfl, rfl⟩ (Heap.size_push ..) fun c o e => Heap.get?_push_of_some _ e)
  | false => exact wpAny_pyIter_list hV (q _ ⟨_, Heap.get?_push_size _ rfl, rfl, rfl⟩ (Heap.size_push ..) fun c o e => Heap.get?_push_of_some _ e)

/-! ### zip's own step -/
/-- its records stand apart from each other and from what is walked -/
structure Apart (z U O i j l m : Addr) : Prop where
  nd : [z, U, O, i, j].Nodup
  l : l ∉ [z, O, i, j]
  m : m ∉ [z, O, i, j]
theorem zip_step {b c : Bool} {z U O i j l m : Addr} {k : Nat} {xs ys : Array Value} {x y p q : Value} {Q : Value → Shared → Prop} (D : Apart z U O i j l m) (hZ : IsZip s.heap z U O .none) (hU : IsPair s.heap U (.ref i) (.ref j)) (hO : IsPair s.heap O p q)
    (hi : SeqIt b s.heap i l k) (hj : SeqIt c s.heap j m k) (hl : SeqOb b s.heap l xs) (hm : SeqOb c s.heap m ys) (hx : xs[k]? = some x) (hy : ys[k]? = some y)
    (fin : ∀ g, IsZip g z U O (rawInt s.heap.objs.size) → IsPair g O x y → SeqIt b g i l (k + 1) → SeqIt c g j m (k + 1) → IsPair g s.heap.objs.size x y → g.objs.size = s.heap.objs.size + 1 →
      (∀ a o, a ∉ [z, O, i, j] → s.heap.get? a = some o → g.get? a = some o) → Q (.ref s.heap.objs.size) { s with heap := g }) :
    wpAny (model prog w) A (Builtin.«zip.__next__» ⟨[.ref z], []⟩) (fun r s' => ∃ v, r = .done (.ret v) ∧ Q v s') E s := by
  obtain ⟨nd, nl, nm⟩ := D
  simp only [List.nodup_cons, List.mem_cons, List.not_mem_nil, or_false, not_or, List.nodup_nil, and_true, not_false_eq_true] at nd nl nm
  obtain ⟨⟨zU, zO, zi, zj⟩, ⟨UO, Ui, Uj⟩, ⟨Oi, Oj⟩, ij⟩ := nd
  obtain ⟨lz, lO, li, lj⟩ := nl
  obtain ⟨mz, mO, mi, mj⟩ := nm
  show wpAny _ _ (field (.ref z) 2 >>= _) _ _ _
  refine wpAny_bind (wpAny_field hZ rfl (x := .bool false) rfl ?_)
  show wpAny _ _ (field (.ref z) 3 >>= _) _ _ _
  refine wpAny_bind (wpAny_field hZ rfl (x := .ref U) rfl (wpAny_bind (wpAny_seqItems hU rfl ?_)))
  show wpAny _ _ (Builtin.SmallTypes.ownedTupleIsFree (.ref z) >>= _) _ _ _
  refine wpAny_bind ?_
  unfold Builtin.SmallTypes.ownedTupleIsFree
  refine wpAny_bind (wpAny_field hZ rfl (x := .none) rfl (wpAny_pure ?_))
  simp only [if_true]
  refine wpAny_bind (wpAny_rule (wpAny_bind (wpAny_field hZ rfl (x := .ref O) rfl (wpAny_bind (wpAny_setField_rec hZ (by simp) fun h1 hZ1 s1 => ?_)))))
  replace hZ1 : IsZip h1 z U O .ellipsis := hZ1
  refine wpAny_bind ?_
  simp only [List.zipIdx_cons, List.zipIdx_nil, List.forIn_cons, List.forIn_nil]
  refine wpAny_bind (wpAny_bind (wpAny_onRaise ?_))
  show wpAny _ _ (Builtin.SmallTypes.nextOf (.ref i) >>= _) _ _ _
  refine wpAny_bind (nextOf_seq_item (hi.move fun o e => s1.extBut _ _ (Ne.symm zi) e) (hl.move fun o e => s1.extBut _ _ lz e) hx fun h2 hi2 s2 => wpAny_pure ?_)
  have hO2 : IsPair h2 O p q := s2.extBut _ _ Oi (s1.extBut _ _ (Ne.symm zO) hO)
  refine wpAny_bind (wpAny_seqItems hO2 rfl (wpAny_bind (wpAny_updateSeq_pair hO2 fun h3 hO3 s3 => ?_)))
  replace hO3 : IsPair h3 O x q := hO3
  refine wpAny_bind (wpAny_letGo (wpAny_pure (wpAny_bind (wpAny_bind (wpAny_onRaise ?_)))))
  show wpAny _ _ (Builtin.SmallTypes.nextOf (.ref j) >>= _) _ _ _
  refine wpAny_bind (nextOf_seq_item (hj.move fun o e => s3.extBut _ _ (Ne.symm Oj) (s2.extBut _ _ (Ne.symm ij) (s1.extBut _ _ (Ne.symm zj) e))) (hm.move fun o e => s3.extBut _ _ mO (s2.extBut _ _ mi (s1.extBut _ _ mz e))) hy fun h4 hj4 s4 => wpAny_pure ?_)
  have hO4 : IsPair h4 O x q := s4.extBut _ _ Oj hO3
  refine wpAny_bind (wpAny_seqItems hO4 rfl (wpAny_bind (wpAny_updateSeq_pair hO4 fun h5 hO5 s5 => ?_)))
  replace hO5 : IsPair h5 O x y := hO5
  refine wpAny_bind (wpAny_letGo (wpAny_pure (wpAny_pure (wpAny_bind (wpAny_seqItems hO5 rfl (wpAny_bind (wpAny_newTuple ?_)))))))
  have sz : h5.objs.size = s.heap.objs.size := by rw [s5.1, s4.1, s3.1, s2.1, s1.1]
  have hZ5 : IsZip h5 z U O .ellipsis := s5.extBut _ _ zO (s4.extBut _ _ zj (s3.extBut _ _ zO (s2.extBut _ _ zi hZ1)))
  have kp : ∀ a o, a ∉ [z, O, i, j] → s.heap.get? a = some o → h5.get? a = some o := fun a o ha e => by
    simp only [List.mem_cons, List.not_mem_nil, or_false, not_or] at ha
    exact s5.extBut _ _ ha.2.1 (s4.extBut _ _ ha.2.2.2 (s3.extBut _ _ ha.2.1 (s2.extBut _ _ ha.2.2.1 (s1.extBut _ _ ha.1 e))))
  have hi5 : SeqIt b h5 i l (k + 1) := hi2.move fun o e => s5.extBut _ _ (Ne.symm Oi) (s4.extBut _ _ ij (s3.extBut _ _ (Ne.symm Oi) e))
  have hj5 : SeqIt c h5 j m (k + 1) := hj4.move fun o e => s5.extBut _ _ (Ne.symm Oj) e
  have zlt : z < h5.objs.size := Heap.lt_size hZ5
  show wpAny _ _ (Builtin.SmallTypes.ownedTupleHandOut (.ref z) (.ref h5.objs.size) >>= _) _ _ _
  refine wpAny_bind ?_
  unfold Builtin.SmallTypes.ownedTupleHandOut
  have hZ6 : IsZip (h5.push { cls := .type "tuple", data := .seq #[x, y] }) z U O .ellipsis := Heap.get?_push_of_some _ hZ5
  refine wpAny_bind (wpAny_setField_rec hZ6 (by simp) fun h7 hZ7 s7 => ?_)
  replace hZ7 : IsZip h7 z U O (rawInt h5.objs.size) := hZ7
  refine wpAny_setField_rec hZ7 (by simp) fun h8 hZ8 s8 => ?_
  replace hZ8 : IsZip h8 z U O (rawInt h5.objs.size) := hZ8
  have up : ∀ a o, a ≠ z → h5.get? a = some o → h8.get? a = some o := fun a o na e => s8.extBut _ _ na (s7.extBut _ _ na (Heap.get?_push_of_some _ e))
  have hT : IsPair h8 h5.objs.size x y := s8.extBut _ _ (Nat.ne_of_gt zlt) (s7.extBut _ _ (Nat.ne_of_gt zlt) (Heap.get?_push_size _ rfl))
  have sz8 : h8.objs.size = h5.objs.size + 1 := by rw [s8.1, s7.1, Heap.size_push]
  rw [sz] at hZ8 hT sz8
  refine wpAny_pure ⟨_, rfl, ?_⟩
  show Q (.ref h5.objs.size) _
  rw [sz]
  refine fin h8 hZ8 (up _ _ (Ne.symm zO) hO5) (hi5.move fun o e => up _ o (Ne.symm zi) e) (hj5.move fun o e => up _ o (Ne.symm zj) e) hT sz8 fun a o ha e => up a o ?_ (kp a o ha e)
  simp only [List.mem_cons, List.not_mem_nil, or_false, not_or] at ha
  exact ha.1
theorem zip_stop {b c : Bool} {z U O i j l m : Addr} {k : Nat} {xs ys : Array Value} {p q : Value} {Q : Fin → Shared → Prop} (hA : A.handled = none) (D : Apart z U O i j l m) (hZ : IsZip s.heap z U O .none) (hU : IsPair s.heap U (.ref i) (.ref j)) (hO : IsPair s.heap O p q)
    (hi : SeqIt b s.heap i l k) (hj : SeqIt c s.heap j m k) (hl : SeqOb b s.heap l xs) (hm : SeqOb c s.heap m ys) (hend : xs[k]? = none ∨ ys[k]? = none)
    (fin : ∀ g e, (∀ a o, a ∉ [z, O, i, j] → s.heap.get? a = some o → g.get? a = some o) → (∃ o, g.get? e = some o ∧ o.cls = .type "StopIteration") → E (.ref e) { s with heap := g }) :
    wpAny (model prog w) A (Builtin.«zip.__next__» ⟨[.ref z], []⟩) Q E s := by
  obtain ⟨nd, nl, nm⟩ := D
  simp only [List.nodup_cons, List.mem_cons, List.not_mem_nil, or_false, not_or, List.nodup_nil, and_true, not_false_eq_true] at nd nl nm
  obtain ⟨⟨zU, zO, zi, zj⟩, ⟨UO, Ui, Uj⟩, ⟨Oi, Oj⟩, ij⟩ := nd
  obtain ⟨lz, lO, li, lj⟩ := nl
  obtain ⟨mz, mO, mi, mj⟩ := nm
  show wpAny _ _ (field (.ref z) 2 >>= _) _ _ _
  refine wpAny_bind (wpAny_field hZ rfl (x := .bool false) rfl ?_)
  show wpAny _ _ (field (.ref z) 3 >>= _) _ _ _
  refine wpAny_bind (wpAny_field hZ rfl (x := .ref U) rfl (wpAny_bind (wpAny_seqItems hU rfl ?_)))
  show wpAny _ _ (Builtin.SmallTypes.ownedTupleIsFree (.ref z) >>= _) _ _ _
  refine wpAny_bind ?_
  unfold Builtin.SmallTypes.ownedTupleIsFree
  refine wpAny_bind (wpAny_field hZ rfl (x := .none) rfl (wpAny_pure ?_))
  simp only [if_true]
  refine wpAny_bind (wpAny_rule (wpAny_bind (wpAny_field hZ rfl (x := .ref O) rfl (wpAny_bind (wpAny_setField_rec hZ (by simp) fun h1 hZ1 s1 => ?_)))))
  replace hZ1 : IsZip h1 z U O .ellipsis := hZ1
  refine wpAny_bind ?_
  simp only [List.zipIdx_cons, List.zipIdx_nil, List.forIn_cons, List.forIn_nil]
  refine wpAny_bind (wpAny_bind (wpAny_onRaise ?_))
  show wpAny _ _ (Builtin.SmallTypes.nextOf (.ref i) >>= _) _ _ _
  have out : ∀ {a : Addr}, a ∉ [z, O, i, j] → a ≠ z ∧ a ≠ O ∧ a ≠ i ∧ a ≠ j := fun ha => by simpa only [List.mem_cons, List.not_mem_nil, or_false, not_or] using ha
  cases hx : xs[k]? with
  | none =>
    refine wpAny_bind (nextOf_seq_end hA (hi.move fun o e => s1.extBut _ _ (Ne.symm zi) e) (hl.move fun o e => s1.extBut _ _ lz e) hx fun h2 e s2 he => ?_)
    obtain ⟨oe, hoe, hce⟩ := he
    have hZ2 : IsZip h2 z U O .ellipsis := s2 _ _ zi hZ1
    have ez : e ≠ z := fun t => by subst t; rw [hZ2] at hoe; cases hoe; simp at hce
    exact wpAny_setField_rec hZ2 (by simp) fun h3 _ s3 => fin h3 e (fun a o ha t => s3.extBut _ _ (out ha).1 (s2 _ _ (out ha).2.2.1 (s1.extBut _ _ (out ha).1 t))) ⟨oe, s3.extBut _ _ ez hoe, hce⟩
  | some x =>
    have hy : ys[k]? = none := by
      rcases hend with t | t
      · rw [hx] at t; cases t
      · exact t
    refine wpAny_bind (nextOf_seq_item (hi.move fun o e => s1.extBut _ _ (Ne.symm zi) e) (hl.move fun o e => s1.extBut _ _ lz e) hx fun h2 hi2 s2 => wpAny_pure ?_)
    have hO2 : IsPair h2 O p q := s2.extBut _ _ Oi (s1.extBut _ _ (Ne.symm zO) hO)
    refine wpAny_bind (wpAny_seqItems hO2 rfl (wpAny_bind (wpAny_updateSeq_pair hO2 fun h3 hO3 s3 => ?_)))
    refine wpAny_bind (wpAny_letGo (wpAny_pure (wpAny_bind (wpAny_bind (wpAny_onRaise ?_)))))
    show wpAny _ _ (Builtin.SmallTypes.nextOf (.ref j) >>= _) _ _ _
    refine wpAny_bind (nextOf_seq_end hA (hj.move fun o e => s3.extBut _ _ (Ne.symm Oj) (s2.extBut _ _ (Ne.symm ij) (s1.extBut _ _ (Ne.symm zj) e))) (hm.move fun o e => s3.extBut _ _ mO (s2.extBut _ _ mi (s1.extBut _ _ mz e))) hy fun h4 e s4 he => ?_)
    obtain ⟨oe, hoe, hce⟩ := he
    have hZ4 : IsZip h4 z U O .ellipsis := s4 _ _ zj (s3.extBut _ _ zO (s2.extBut _ _ zi hZ1))
    have ez : e ≠ z := fun t => by subst t; rw [hZ4] at hoe; cases hoe; simp at hce
    exact wpAny_setField_rec hZ4 (by simp) fun h5 _ s5 => fin h5 e (fun a o ha t => s5.extBut _ _ (out ha).1 (s4 _ _ (out ha).2.2.2 (s3.extBut _ _ (out ha).2.1 (s2.extBut _ _ (out ha).2.2.1 (s1.extBut _ _ (out ha).1 t))))) ⟨oe, s5.extBut _ _ ez hoe, hce⟩
theorem zip_laid (g2 : Heap) (n : Nat) (e2 : g2.objs.size = n + 2) (i j : Value) : ∃ g5, g5 = ((g2.push { cls := .type "tuple", data := .seq #[i, j] }).push { cls := .type "tuple", data := .seq #[.none, .none] }).push
      { cls := .type "zip", data := .fields #[.none, .bool false, .bool false, .ref g2.objs.size, .ref (g2.push { cls := .type "tuple", data := .seq #[i, j] }).objs.size] } ∧
    IsZip g5 (n + 4) (n + 2) (n + 3) .none ∧ IsPair g5 (n + 2) i j ∧ IsPair g5 (n + 3) .none .none ∧ (∀ a o, g2.get? a = some o → g5.get? a = some o) ∧
    ((g2.push { cls := .type "tuple", data := .seq #[i, j] }).push { cls := .type "tuple", data := .seq #[.none, .none] }).objs.size = n + 4 := by
  have e3 : (g2.push { cls := .type "tuple", data := .seq #[i, j] }).objs.size = n + 3 := by rw [Heap.size_push, e2]
  have e4 : ((g2.push { cls := .type "tuple", data := .seq #[i, j] }).push { cls := .type "tuple", data := .seq #[.none, .none] }).objs.size = n + 4 := by rw [Heap.size_push, e3]
  refine ⟨_, rfl, ?_, ?_, ?_, fun a o e => Heap.get?_push_of_some _ (Heap.get?_push_of_some _ (Heap.get?_push_of_some _ e)), e4⟩
  · have q := Heap.get?_push_size ((g2.push { cls := .type "tuple", data := .seq #[i, j] }).push { cls := .type "tuple", data := .seq #[.none, .none] }) (o := { cls := .type "zip", data := .fields #[.none, .bool false, .bool false, .ref g2.objs.size, .ref (g2.push { cls := .type "tuple", data := .seq #[i, j] }).objs.size] }) rfl
    rw [e4] at q
    show _ = some _
    rw [q, e2, e3]
  · have q := Heap.get?_push_of_some { cls := .type "zip", data := .fields #[.none, .bool false, .bool false, .ref g2.objs.size, .ref (g2.push { cls := .type "tuple", data := .seq #[i, j] }).objs.size] } (Heap.get?_push_of_some { cls := .type "tuple", data := .seq #[.none, .none] } (Heap.get?_push_size g2 (o := { cls := .type "tuple", data := .seq #[i, j] }) rfl))
    rw [← e2]
    exact q
  · have q := Heap.get?_push_of_some { cls := .type "zip", data := .fields #[.none, .bool false, .bool false, .ref g2.objs.size, .ref (g2.push { cls := .type "tuple", data := .seq #[i, j] }).objs.size] } (Heap.get?_push_size (g2.push { cls := .type "tuple", data := .seq #[i, j] }) (o := { cls := .type "tuple", data := .seq #[.none, .none] }) rfl)
    rw [← e3]
    exact q
/-- what zip makes of two of them -/
theorem meets_zip {b c : Bool} (l m : Addr) (xs ys : Array Value) : Meets (Builtin.«zip.__new__» ⟨[.type "zip", .ref l, .ref m], []⟩) (fun _ R s => SeqOb b s.heap l xs ∧ SeqOb c s.heap m ys ∧
      ∀ g, IsZip g (s.heap.objs.size + 4) (s.heap.objs.size + 2) (s.heap.objs.size + 3) .none → IsPair g (s.heap.objs.size + 2) (.ref s.heap.objs.size) (.ref (s.heap.objs.size + 1)) → IsPair g (s.heap.objs.size + 3) .none .none →
        SeqIt b g s.heap.objs.size l 0 → SeqIt c g (s.heap.objs.size + 1) m 0 → (∀ a o, s.heap.get? a = some o → g.get? a = some o) → R (.ok (.ret (.ref (s.heap.objs.size + 4)))) { s with heap := g }) :=
  .of_wp fun prog w A R s h => by
    obtain ⟨hp, g, d, tk, os⟩ := s
    obtain ⟨hl, hm, h⟩ := h
    have hsub := sub_zip
    wp_walk using pyIter_seq hl
    intro g1 i1 z1 k1
    have hm1 : SeqOb c (Shared.heap ⟨g1, g, d, tk, os⟩) m ys := hm.move fun o e => k1 _ o e
    wp_walk using pyIter_seq hm1
    intro g2 i2 z2 k2
    wp_walk
    refine ⟨_, rfl, ?_⟩
    have e1 : g1.objs.size = hp.objs.size + 1 := z1
    have e2 : g2.objs.size = hp.objs.size + 2 := by rw [show g2.objs.size = g1.objs.size + 1 from z2, e1]
    obtain ⟨g5, e5, a1, a2, a3, k5, s5⟩ := zip_laid g2 hp.objs.size e2 (.ref hp.objs.size) (.ref g1.objs.size)
    have a2' : IsPair g5 (hp.objs.size + 2) (.ref hp.objs.size) (.ref (hp.objs.size + 1)) := by rw [← e1]; exact a2
    have i2' : SeqIt c g2 (hp.objs.size + 1) m 0 := by rw [← e1]; exact i2
    have key := h g5 a1 a2' a3 ((i1.move fun o e => k2 _ o e).move fun o e => k5 _ o e) (i2'.move fun o e => k5 _ o e) fun a o e => k5 _ _ (k2 _ _ (k1 _ _ e))
    dsimp only at key
    rw [e5, ← s5] at key
    exact key
/-! ### several untracked records have turned -/
theorem Inv.turnedL {X : Cx} {pins : List (Addr × Obj)} {σ : St} {H : Hp} {s : Shared} {g : Heap} {tk : Nat} {ch : List Addr} (I : Inv X pins σ H s) (k : ∀ b o, b ∉ ch → s.heap.get? b = some o → g.get? b = some o) (hch : ∀ b ∈ ch, FpOk X pins H b) : Inv X pins σ H { s with heap := g, toks := tk } := by
  have nch : ∀ b u, H b = some u → b ∉ ch := fun b u e z => by rw [(hch b z).1] at e; cases e
  refine I.step (g' := s.gens) (d' := s.drawn) (ch := ch) (fun b hb => ⟨(hch b hb).2.2.2.1, (hch b hb).2.1, (hch b hb).2.2.2.2.1, (hch b hb).2.2.2.2.2⟩) (fun b o _ _ hc e _ => k b o hc e) (fun b o _ _ hc e _ => ⟨o.slots, k b o hc e⟩) (fun _ _ _ _ n => n)
    (fun b o hc e => ⟨o, k b o hc e⟩) (fun _ _ e => e) (fun _ _ _ e => e) (fun b ps e => ⟨#[], by rw [e]; simp⟩) (fun m hm => ?_) (fun b u e => ?_) I.bare
  · obtain ⟨o, es, ep, ho, r⟩ := hm
    exact ⟨o, es, ep, k _ o (fun z => (hch _ z).2.1 rfl) ho, r⟩
  · refine (I.hok b u e).stay (fun c v hc q => k c v ?_ q) (fun _ q => q) fun _ _ q => q
    rcases hc with z | z
    · rw [z]; exact nch b u e
    · exact nch c _ z
/-- .. and a new tuple of two lies at T -/
theorem Inv.pair {X : Cx} {pins : List (Addr × Obj)} {σ : St} {H : Hp} {s : Shared} {g : Heap} {tk n : Nat} {ch : List Addr} {x y : V} {u v : Value} (I : Inv X pins σ H s) (k : ∀ b o, b ∉ ch → s.heap.get? b = some o → g.get? b = some o) (hch : ∀ b ∈ ch, FpOk X pins H b)
    (rx : RelV x u) (ry : RelV y v) (e : g.get? s.heap.objs.size = some { cls := .type "tuple", data := .seq #[u, v] n }) : H s.heap.objs.size = none ∧ Inv X pins σ (upd H s.heap.objs.size (.tup [x, y])) { s with heap := g, toks := tk } := by
  have f := I.fpOk (Nat.le_refl _) I.fresh
  refine ⟨f.1, (I.turnedL (tk := tk) k hch).track f.1 (Heap.get?_none_of_le I.sz) (Heap.get?_none_of_le (Nat.le_trans I.ok.bsz I.sz)) (Ne.symm f.2.1) f.2.2.2.2.1 f.2.2.2.2.2 (fun b hb z => f.2.2.1 (z ▸ hb)) ?_⟩
  exact ⟨by show 2 ≤ sizeLine; decide, [u, v], .cons rx (.cons ry .nil), _, e, rfl, n, rfl⟩
theorem Inv.sq {X : Cx} {pins : List (Addr × Obj)} {σ : St} {H : Hp} {s : Shared} {b : Bool} {a : Addr} {xs : List V} (I : Inv X pins σ H s) (h : SqX X.K b H a xs) : ∃ its : List Value, Vals xs its ∧ SeqOb b s.heap a its.toArray := by
  cases b with
  | true =>
    obtain ⟨its, r, p, _⟩ := I.tuple h
    exact ⟨its, r, p⟩
  | false =>
    obtain ⟨its, r, p, _⟩ := I.list h
    exact ⟨its, r, p.isList⟩
theorem Inv.sq_inj {X : Cx} {pins : List (Addr × Obj)} {σ : St} {H : Hp} {s : Shared} {b : Bool} {a : Addr} {xs ys : List V} (I : Inv X pins σ H s) (h : SqX X.K b H a xs) (h' : SqX X.K b H a ys) : xs = ys := by
  cases b with
  | true => exact I.tuple_inj h h'
  | false => exact I.list_inj h h'

/-! ### zip, walked -/
def Itz (K : PySem.W.Frag) (b c : Bool) (l m : Addr) : It :=
  ⟨fun i H => ∃ xs ys x y, SqX K b H l xs ∧ SqX K c H m ys ∧ xs[i]? = some x ∧ ys[i]? = some y,
    fun i H v H' => ∃ (T : Addr) (x y : V), v = .ref T ∧ H T = none ∧ H' = upd H T (.tup [x, y]) ∧ (∀ xs, SqX K b H l xs → xs[i]? = some x) ∧ ∀ ys, SqX K c H m ys → ys[i]? = some y,
    fun i H => ∃ xs ys, SqX K b H l xs ∧ SqX K c H m ys ∧ (xs.length ≤ i ∨ ys.length ≤ i)⟩
def ZipTn (b c : Bool) (z U O i j l m : Addr) (k : Nat) (h : Heap) : Prop := IsZip h z U O .none ∧ IsPair h U (.ref i) (.ref j) ∧ (∃ p q, IsPair h O p q) ∧ SeqIt b h i l k ∧ SeqIt c h j m k
theorem turn_zip {P : Program} {w : World} {K : PySem.W.Frag} {es : List Expr} {n : Nat} {tpos : Pos} {b c : Bool} {z U O i j l m : Addr} (D : Apart z U O i j l m) : Turn P w K (.Tuple es n tpos) (Itz K b c l m) [z, U, O, i, j] z (ZipTn b c z U O i j l m) where
  mem := by simp
  obj := fun k h st a ha => by
    obtain ⟨hZ, hU, ⟨p, q, hO⟩, hi, hj⟩ := st
    simp only [List.mem_cons, List.not_mem_nil, or_false] at ha
    rcases ha with rfl | rfl | rfl | rfl | rfl
    · exact ⟨_, hZ, fun v t => by cases t⟩
    · exact ⟨_, hU, fun v t => by cases t⟩
    · exact ⟨_, hO, fun v t => by cases t⟩
    · exact hi.there
    · exact hj.there
  keep := fun k h h' st kp => by
    obtain ⟨hZ, hU, ⟨p, q, hO⟩, hi, hj⟩ := st
    exact ⟨kp z (by simp) _ hZ, kp U (by simp) _ hU, ⟨p, q, kp O (by simp) _ hO⟩, hi.move fun o e => kp i (by simp) o e, hj.move fun o e => kp j (by simp) o e⟩
  item := by
    intro X hP hw hK hc k pins s σ H E I hf st hg
    subst hP hw hK
    obtain ⟨hZ, hU, ⟨p, q, hO⟩, hi, hj⟩ := st
    obtain ⟨xs, ys, x, y, sx, sy, hx, hy⟩ := hg
    obtain ⟨us, ru, ou⟩ := I.sq sx
    obtain ⟨vs, rv, ov⟩ := I.sq sy
    obtain ⟨u, hu, rxu⟩ := ru.get hx
    obtain ⟨v, hv, ryv⟩ := rv.get hy
    have hT : s.TypeIs (.ref z) "zip" := ⟨_, hZ, rfl⟩
    unfold pyNext
    refine wpAny_bind (wpAny_attempt (wpAny_callSpecial?_slot (name := Str.ofString "__next__") hT F.slot_zip_next (wpAny_call_entry F.slot_zip_next hT F.entry_zip_next (zip_step D hZ hU hO hi hj ou ov (by simpa using hu) (by simpa using hv) fun g gZ gO gi gj gT gs gk => wpAny_pure ⟨_, rfl, ?_⟩) (F.args_zip_next_1 _))))
    refine wpAny_letOwnedTupleGo_zip (s := { s with heap := g }) gZ fun g2 gZ2 sb => ?_
    obtain ⟨nd, nl, nm⟩ := D
    simp only [List.nodup_cons, List.mem_cons, List.not_mem_nil, or_false, not_or, List.nodup_nil, and_true, not_false_eq_true] at nd
    obtain ⟨⟨zU, zO, zi, zj⟩, ⟨UO, Ui, Uj⟩, ⟨Oi, Oj⟩, ij⟩ := nd
    have zlt : z < s.heap.objs.size := Heap.lt_size hZ
    have kk : ∀ a o, a ∉ [z, O, i, j] → s.heap.get? a = some o → g2.get? a = some o := fun a o ha e => (sb.2 a (fun t => ha (by simp [t]))).trans (gk a o ha e)
    have fch : ∀ a ∈ [z, O, i, j], FpOk X pins H a := fun a ha => hf a (by
      simp only [List.mem_cons, List.not_mem_nil, or_false] at ha ⊢
      rcases ha with t | t | t | t <;> simp [t])
    obtain ⟨nT, J⟩ := I.pair (tk := s.toks) kk fch rxu ryv ((sb.2 _ (Nat.ne_of_gt zlt)).trans gT)
    refine ⟨.ref s.heap.objs.size, _, J, rfl, ⟨_, x, y, rfl, nT, rfl, fun xs' q' => by rw [I.sq_inj q' sx]; exact hx, fun ys' q' => by rw [I.sq_inj q' sy]; exact hy⟩, ⟨gZ2, kk U _ ?_ hU, ⟨u, v, (sb.2 O (Ne.symm zO)).trans gO⟩, gi.move fun o e => (sb.2 i (Ne.symm zi)).trans e, gj.move fun o e => (sb.2 j (Ne.symm zj)).trans e⟩, fun a ha => ?_⟩
    · simp only [List.mem_cons, List.not_mem_nil, or_false, not_or]
      exact ⟨Ne.symm zU, UO, Ui, Uj⟩
    · have e := (hf a ha).1
      have lt : a ≠ s.heap.objs.size := by
        simp only [List.mem_cons, List.not_mem_nil, or_false] at ha
        rcases ha with t | t | t | t | t <;> subst t
        · exact Nat.ne_of_lt zlt
        · exact Nat.ne_of_lt (Heap.lt_size hU)
        · exact Nat.ne_of_lt (Heap.lt_size hO)
        · obtain ⟨o, e, _⟩ := hi.there; exact Nat.ne_of_lt (Heap.lt_size e)
        · obtain ⟨o, e, _⟩ := hj.there; exact Nat.ne_of_lt (Heap.lt_size e)
      rw [upd_ne lt]
      exact e
  done := by
    intro X hP hw hK hc k pins s σ H E I hf st hg
    subst hP hw hK
    obtain ⟨hZ, hU, ⟨p, q, hO⟩, hi, hj⟩ := st
    obtain ⟨xs, ys, sx, sy, hend⟩ := hg
    obtain ⟨us, ru, ou⟩ := I.sq sx
    obtain ⟨vs, rv, ov⟩ := I.sq sy
    have lu := ru.length
    have lv := rv.length
    have hT : s.TypeIs (.ref z) "zip" := ⟨_, hZ, rfl⟩
    have he : us.toArray[k]? = none ∨ vs.toArray[k]? = none := hend.imp (fun t => by simp; lia) (fun t => by simp; lia)
    unfold pyNext
    refine wpAny_bind (wpAny_attempt (wpAny_callSpecial?_slot (name := Str.ofString "__next__") hT F.slot_zip_next (wpAny_call_entry F.slot_zip_next hT F.entry_zip_next (zip_stop (I.ok.hd hc) D hZ hU hO hi hj ou ov he fun g e gk ge => ?_) (F.args_zip_next_1 _))))
    obtain ⟨o, ho, hcl⟩ := ge
    refine wpAny_bind (wpAny_isInstance (T := "StopIteration") (b := true) ⟨o, ho, hcl⟩ isSubtype_stop (wpAny_pure ⟨rfl, ?_⟩))
    exact I.turnedL (tk := s.toks) gk fun a ha => hf a (by
      simp only [List.mem_cons, List.not_mem_nil, or_false] at ha ⊢
      rcases ha with t | t | t | t <;> simp [t])
  self := fun _ _ _ _ _ st h => wpAny_pyIter_zip st.1 h
end
end L2

set_option Elab.async false
set_option linter.all false
set_option maxRecDepth 100000
namespace L2
open PySem PySem.Spec PyProof.Rows
/-! ### enumerate, walked -/
theorem SeqOb.obj {b : Bool} {h : Heap} {l : Addr} {vs : Array Value} (x : SeqOb b h l vs) : ∃ o, h.get? l = some o := by
  cases b with
  | true => obtain ⟨o, e, _⟩ := x; exact ⟨o, e⟩
  | false => obtain ⟨o, e, _⟩ := x; exact ⟨o, e⟩
theorem enum_laid (g1 : Heap) (n : Nat) (e1 : g1.objs.size = n + 1) : ∃ g2, g2 = g1.push { cls := .type "enumerate", data := .fields #[.none, .bool false, .ref n, rawInt 0, .none, .none] } ∧ IsEnum g2 (n + 1) n 0 .none ∧ ∀ a o, g1.get? a = some o → g2.get? a = some o := by
  refine ⟨_, rfl, ?_, fun a o e => Heap.get?_push_of_some _ e⟩
  have q := Heap.get?_push_size g1 (o := { cls := .type "enumerate", data := .fields #[.none, .bool false, .ref n, rawInt 0, .none, .none] }) rfl
  rw [e1] at q
  exact q
set_option maxHeartbeats 1000000 in
theorem meets_enum {b : Bool} (l : Addr) (xs : Array Value) : Meets (Builtin.«enumerate.__new__» ⟨[.type "enumerate", .ref l], []⟩) (fun _ R s => SeqOb b s.heap l xs ∧
      ∀ g, IsEnum g (s.heap.objs.size + 1) s.heap.objs.size 0 .none → SeqIt b g s.heap.objs.size l 0 → (∀ a o, s.heap.get? a = some o → g.get? a = some o) → R (.ok (.ret (.ref (s.heap.objs.size + 1)))) { s with heap := g }) :=
  .of_wp fun prog w A R s h => by
    obtain ⟨hp, g, d, tk, os⟩ := s
    obtain ⟨hl, h⟩ := h
    obtain ⟨ol, eol⟩ := hl.obj
    have hsub := sub_enumerate
    have fin : ∀ g1, SeqIt b g1 hp.objs.size l 0 → g1.objs.size = hp.objs.size + 1 → (∀ c o, hp.get? c = some o → g1.get? c = some o) → ∃ v, Fin.done (Flow.ret (.ref g1.objs.size)) = Fin.done (Flow.ret v) ∧ R (.ok (.ret v)) ⟨g1.push { cls := .type "enumerate", data := .fields #[.none, .bool false, .ref hp.objs.size, rawInt 0, .none, .none] }, g, d, tk, os⟩ := fun g1 i1 z1 k1 => by
      obtain ⟨g2, e2, a1, k2⟩ := enum_laid g1 hp.objs.size z1
      refine ⟨_, rfl, ?_⟩
      have key := h g2 a1 (i1.move fun o e => k2 _ o e) fun a o e => k2 _ _ (k1 _ _ e)
      dsimp only at key
      rw [e2, ← z1] at key
      exact key
    wp_walk using AutoSeq1.wpAny_loadPart' eol
    refine wpAny_stack_any fun st => wpAny_pure ?_
    split
    · rename_i c' _ _ _ _ _
      cases (c' == Value.type "enumerate")
      · wp_walk using AutoSeq1.wpAny_loadPart' eol, pyIter_seq hl
        intro g1 i1 z1 k1
        wp_walk
        exact fin g1 i1 z1 k1
      · wp_walk using AutoSeq1.wpAny_loadPart' eol, pyIter_seq hl
        intro g1 i1 z1 k1
        wp_walk
        exact fin g1 i1 z1 k1
    · wp_walk using AutoSeq1.wpAny_loadPart' eol, pyIter_seq hl
      intro g1 i1 z1 k1
      wp_walk
      exact fin g1 i1 z1 k1
theorem draws_seq {prog : Program} {w : World} {A : Around} {b : Bool} (hA : A.handled = none) (I l : Addr) (ne : l ≠ I) (vs : Array Value) :
    Draws prog w A I [I, l] vs.size (fun k v => vs[k]? = some v) (fun k h => SeqIt b h I l k ∧ SeqOb b h l vs) where
  live := fun _ _ st => let ⟨o, ho, _⟩ := st.1.there; ⟨o, ho⟩
  frame := fun _ _ _ st hk => ⟨st.1.move fun o e => hk I (by simp) o e, st.2.move fun o e => hk l (by simp) o e⟩
  item := fun k s Q E hi st hQ => nextOf_seq_item st.1 st.2 (v := vs[k]) (by simp [hi]) fun g hI sb => hQ _ g s.toks (by simp [hi]) ⟨hI, st.2.move fun o e => (sb.2 l ne).trans e⟩ sb
  done := fun s Q E st hE => nextOf_seq_end hA st.1 st.2 (by simp) hE
def Ite (K : PySem.W.Frag) (b : Bool) (l : Addr) : It :=
  ⟨fun i H => ∃ xs x, SqX K b H l xs ∧ xs[i]? = some x,
    fun i H v H' => ∃ (T : Addr) (x : V), v = .ref T ∧ H T = none ∧ H' = upd H T (.tup [.int i, x]) ∧ ∀ xs, SqX K b H l xs → xs[i]? = some x,
    fun i H => ∃ xs, SqX K b H l xs ∧ xs.length = i⟩
theorem turn_enum {P : Program} {w : World} {K : PySem.W.Frag} {es : List Expr} {n : Nat} {tpos : Pos} {b : Bool} {e I l : Addr} (eI : e ≠ I) (le : l ≠ e) (lI : l ≠ I) :
    Turn P w K (.Tuple es n tpos) (Ite K b l) [e, I] e (fun k h => (∃ old, IsEnum h e I k old) ∧ SeqIt b h I l k) where
  mem := by simp
  obj := fun k h st a ha => by
    obtain ⟨⟨old, he⟩, hI⟩ := st
    simp only [List.mem_cons, List.not_mem_nil, or_false] at ha
    rcases ha with rfl | rfl
    · exact ⟨_, he, fun v t => by cases t⟩
    · exact hI.there
  keep := fun k h h' st kp => by
    obtain ⟨⟨old, he⟩, hI⟩ := st
    exact ⟨⟨old, kp e (by simp) _ he⟩, hI.move fun o t => kp I (by simp) o t⟩
  item := by
    intro X hP hw hK hc k pins s σ H E J hf st hg
    subst hP hw hK
    obtain ⟨⟨old, he⟩, hI⟩ := st
    obtain ⟨xs, x, sx, hx⟩ := hg
    obtain ⟨us, ru, ou⟩ := J.sq sx
    have lu := ru.length
    have hk : k < xs.length := (List.getElem?_eq_some_iff.mp hx).1
    refine wpAny_pyNext_enum_itemD (draws_seq (b := b) (A := X.A.in1) (J.ok.hd hc) I l lI us.toArray) he ⟨hI, ou⟩ (by simp; lia) eI (by simp [eI, Ne.symm le]) fun u g tk hu gE gS gT gs gk => ⟨_, rfl, ?_⟩
    obtain ⟨u', hu', rxu⟩ := ru.get hx
    have eu : u = u' := by
      have : us[k]? = some u := by simpa using hu
      rw [hu'] at this
      exact (Option.some.inj this).symm
    subst eu
    refine wpAny_letOwnedTupleGo_enum (s := { s with heap := g, toks := tk + 1 }) gE fun g2 gE2 sb => ?_
    have elt : e < s.heap.objs.size := Heap.lt_size he
    have kk : ∀ a o, a ∉ [e, I] → s.heap.get? a = some o → g2.get? a = some o := fun a o ha t => (sb.2 a (fun z => ha (by simp [z]))).trans (gk a o (fun z => ha (by simp [z])) (fun z => ha (by simp [z])) t)
    obtain ⟨nT, J2⟩ := J.pair (tk := tk + 1) (x := .int k) (u := .int k tk) kk hf ⟨tk, rfl⟩ rxu ((sb.2 _ (Nat.ne_of_gt elt)).trans gT)
    refine ⟨.ref s.heap.objs.size, _, J2, rfl, ⟨_, x, rfl, nT, rfl, fun xs' q' => by rw [J.sq_inj q' sx]; exact hx⟩, ⟨⟨_, by simpa using gE2⟩, gS.1.move fun o t => (sb.2 I (Ne.symm eI)).trans t⟩, fun a ha => ?_⟩
    have t := (hf a ha).1
    have lt : a ≠ s.heap.objs.size := by
      simp only [List.mem_cons, List.not_mem_nil, or_false] at ha
      rcases ha with z | z <;> subst z
      · exact Nat.ne_of_lt elt
      · obtain ⟨o, t, _⟩ := hI.there; exact Nat.ne_of_lt (Heap.lt_size t)
    rw [upd_ne lt]
    exact t
  done := by
    intro X hP hw hK hc k pins s σ H E J hf st hg
    subst hP hw hK
    obtain ⟨⟨old, he⟩, hI⟩ := st
    obtain ⟨xs, sx, hend⟩ := hg
    obtain ⟨us, ru, ou⟩ := J.sq sx
    have lu := ru.length
    have ek : k = us.toArray.size := by simp; lia
    refine wpAny_pyNext_enum_endD (draws_seq (b := b) (A := X.A.in1) (J.ok.hd hc) I l lI us.toArray) he ⟨ek ▸ hI, ou⟩ fun g gk => ⟨rfl, ?_⟩
    exact J.turnedL (tk := s.toks) (ch := [e, I]) (fun a o ha t => gk a o (fun z => ha (by simp [z])) t) hf
  self := fun A i s Q E st h => by
    obtain ⟨⟨old, he⟩, _⟩ := st
    exact wpAny_pyIter_enum he h

section
variable {X : Cx} {es : List Expr} {n : Nat} {tpos p pos : Pos} {e1 e2 : Expr} {t : TA}
def iZip (b c : Bool) (K : PySem.W.Frag) (t : TA) : TI := fun σ H R => t σ H fun vs H1 => ∃ (l m : Addr), vs = [.ref l, .ref m] ∧ (∃ xs, SqX K b H1 l xs) ∧ (∃ ys, SqX K c H1 m ys) ∧ R (Itz K b c l m) H1
theorem SeqOb.lt {b : Bool} {h : Heap} {l : Addr} {vs : Array Value} (x : SeqOb b h l vs) : l < h.objs.size := by
  cases b with
  | true => obtain ⟨o, e, _⟩ := x; exact Heap.lt_size e
  | false => obtain ⟨o, e, _⟩ := x; exact Heap.lt_size e
theorem apart5 (n l m : Nat) (hl : l < n) (hm : m < n) : Apart (n + 4) (n + 2) (n + 3) n (n + 1) l m := by
  refine ⟨(show ([n + 4, n + 2, n + 3, n, n + 1] : List Nat).Nodup from ?_), (show l ∉ ([n + 4, n + 3, n, n + 1] : List Nat) from ?_), (show m ∉ ([n + 4, n + 3, n, n + 1] : List Nat) from ?_)⟩
  · simp only [List.nodup_cons, List.mem_cons, List.not_mem_nil, or_false, not_or, List.nodup_nil, and_true, not_false_eq_true]
    lia
  · simp only [List.mem_cons, List.not_mem_nil, or_false, not_or]
    lia
  · simp only [List.mem_cons, List.not_mem_nil, or_false, not_or]
    lia
theorem pi_zip (b c : Bool) (hg : Gl X "zip") (hm : X.mg "zip" = none) (ha : PA X [e1, e2] t) (hs : starEach [e1, e2] X.env = [(false, eval e1 X.env), (false, eval e2 X.env)] := by rfl) (hs2 : starEach [e2] X.env = [(false, eval e2 X.env)] := by rfl) :
    PI X (.Tuple es n tpos) (.Call (.Name "zip" p) [e1, e2] [] pos) (iZip b c X.K t) := by
  intro pins s σ H R I h
  refine Call_ (ld_blt I hg hm PyProof.Rows.boot_zip (PyProof.Rows.callWith_type1 (thn (ha pos pins s σ H _ I h) fun us s1 ⟨vs, H1, I1, r1, q1⟩ => ?_) (by rw [hs, hs2]) (by rw [hs2]; rfl)))
  obtain ⟨l, m, rfl, ⟨xs, sx⟩, ⟨ys, sy⟩, q⟩ := q1
  obtain ⟨u, v, rfl, ru, rv⟩ := r1.two
  cases (show u = Value.ref l from ru)
  cases (show v = Value.ref m from rv)
  obtain ⟨ul, _, ol⟩ := I1.sq sx
  obtain ⟨um, _, om⟩ := I1.sq sy
  refine callType_new F.called_zip (by decide) (F.typeCall_zip_2 _ _) (F.newCall_zip_2 _ _) (fun obj => F.args_object_init_3 obj _ _) F.entry_zip_new (meets_zip (b := b) (c := c) l m ul.toArray um.toArray) ⟨ol, om, fun g gZ gU gO gi gj gk => ?_⟩
  refine ⟨⟨_, gZ, rfl⟩, wpAny_pyIter_zip (s := { s1 with heap := g }) gZ ?_⟩
  have ll := ol.lt
  have lm := om.lt
  have hA := apart5 s1.heap.objs.size l m ll lm
  refine ⟨s1.heap.objs.size + 4, _, _, _, H1, rfl, I1.kept (t' := s1.toks) gk, turn_zip hA, ⟨gZ, gU, ⟨_, _, gO⟩, gi, gj⟩, fun a ha => ?_, q⟩
  have le : s1.heap.objs.size ≤ a := by
    simp only [List.mem_cons, List.not_mem_nil, or_false] at ha
    rcases ha with t | t | t | t | t <;> rw [t] <;> first | exact Nat.le_refl _ | exact Nat.le_add_right _ _
  exact I1.fpOk le (I1.hok.fresh le)
def iEnum (b : Bool) (K : PySem.W.Frag) (t : TA) : TI := fun σ H R => t σ H fun vs H1 => ∃ (l : Addr), vs = [.ref l] ∧ (∃ xs, SqX K b H1 l xs) ∧ R (Ite K b l) H1
theorem pi_enum (b : Bool) (hg : Gl X "enumerate") (hm : X.mg "enumerate" = none) (ha : PA X [e1] t) (hs : starEach [e1] X.env = [(false, eval e1 X.env)] := by rfl) :
    PI X (.Tuple es n tpos) (.Call (.Name "enumerate" p) [e1] [] pos) (iEnum b X.K t) := by
  intro pins s σ H R I h
  refine Call_ (ld_blt I hg hm PyProof.Rows.boot_enumerate (PyProof.Rows.callWith_type1 (thn (ha pos pins s σ H _ I h) fun us s1 ⟨vs, H1, I1, r1, q1⟩ => ?_) hs rfl))
  obtain ⟨l, rfl, ⟨xs, sx⟩, q⟩ := q1
  obtain ⟨u, rfl, ru⟩ := r1.one
  cases (show u = Value.ref l from ru)
  obtain ⟨ul, _, ol⟩ := I1.sq sx
  refine callType_new F.called_enumerate (by decide) (F.typeCall_enumerate_1 _) (F.newCall_enumerate_1 _) (fun obj => F.args_object_init_2 obj _) F.entry_enumerate_new (meets_enum (b := b) l ul.toArray) ⟨ol, fun g gE gi gk => ?_⟩
  refine ⟨⟨_, gE, rfl⟩, wpAny_pyIter_enum (s := { s1 with heap := g }) gE ?_⟩
  have ll := ol.lt
  refine ⟨s1.heap.objs.size + 1, _, _, _, H1, rfl, I1.kept (t' := s1.toks) gk, turn_enum (e := s1.heap.objs.size + 1) (I := s1.heap.objs.size) (l := l) (Nat.succ_ne_self _) (Nat.ne_of_lt (Nat.lt_succ_of_lt ll)) (Nat.ne_of_lt ll), ⟨⟨_, gE⟩, gi⟩, fun a ha => ?_, q⟩
  have le : s1.heap.objs.size ≤ a := by
    simp only [List.mem_cons, List.not_mem_nil, or_false] at ha
    rcases ha with t | t <;> rw [t] <;> first | exact Nat.le_refl _ | exact Nat.le_add_right _ _
  exact I1.fpOk le (I1.hok.fresh le)
end
/-! ### the forms one uses -/
section
variable {K : PySem.W.Frag} {b c : Bool} {l m : Addr} {xs ys : List V} {σ : St} {H : Hp}
theorem gpair {K : PySem.W.Frag} {i j : Nat} {T : Addr} {x y : V} {σ : St} {H : Hp} {Q : St → Hp → Prop} (h : H T = some (.tup [x, y])) (q : Q ((σ.set i (some x)).set j (some y)) H) : gTup K 2 (gCons (gName i) (gCons (gName j) gNil)) (.ref T) σ H Q :=
  ⟨T, _, rfl, SqT.of h, rfl, x, _, rfl, y, _, rfl, rfl, q⟩
theorem for_enum {g : TG} {tb : TS} {D : Ends} (Pv : Nat → St → Hp → Prop) (h0 : Pv 0 σ H) (hl : ∀ i σ H, i ≤ xs.length → Pv i σ H → SqX K b H l xs)
    (hs : ∀ i x σ H T, xs[i]? = some x → Pv i σ H → H T = none → g (.ref T) σ (upd H T (.tup [.int i, x])) fun σ2 H2 => tb { D with nx := Pv (i + 1), ct := Pv (i + 1), bk := D.nx } σ2 H2) (hd : ∀ σ H, Pv xs.length σ H → D.nx σ H) :
    ∃ W : Nat → Nat → St → Hp → Prop, (∃ m, W 0 m σ H) ∧ ∀ i m σ H, W i m σ H →
      ((Ite K b l).stop i H ∧ D.nx σ H) ∨ ((Ite K b l).go i H ∧ ∃ N : St → Hp → Prop, (∀ σ' H', N σ' H' → ∃ m', m' < m ∧ W (i + 1) m' σ' H') ∧ ∀ x H', (Ite K b l).yld i H x H' → g x σ H' fun σ2 H2 => tb { D with nx := N, ct := N, bk := D.nx } σ2 H2) := by
  refine ⟨fun i m σ H => m = xs.length - i ∧ i ≤ xs.length ∧ Pv i σ H, ⟨xs.length, by simp, Nat.zero_le _, h0⟩, ?_⟩
  rintro i m σ H ⟨rfl, hi, p⟩
  have q := hl i σ H hi p
  by_cases hlt : i < xs.length
  · refine .inr ⟨⟨xs, xs[i], q, by simp [hlt]⟩, Pv (i + 1), fun σ' H' p' => ⟨xs.length - (i + 1), by lia, rfl, hlt, p'⟩, fun x H' y => ?_⟩
    obtain ⟨T, z, rfl, nT, rfl, hz⟩ := y
    exact hs i z σ _ T (hz xs q) p nT
  · have e : i = xs.length := by lia
    subst e
    exact .inl ⟨⟨xs, q, rfl⟩, hd σ H p⟩
variable {k : Nat} {cs : List Nat} {g : TG} {tc : TT} {te : TE} {fin : List V → Hp → Prop}
theorem blk_zip (Pv : Nat → List V → Hp → Prop) (h0 : Pv 0 [] H) (hl : ∀ i acc H, Pv i acc H → SqX K b H l xs ∧ SqX K c H m ys)
    (hs : ∀ i x y acc H T, xs[i]? = some x → ys[i]? = some y → Pv i acc H → H T = none → Bt k cs g tc te σ (.ref T) acc (upd H T (.tup [x, y])) (Pv (i + 1))) (hd : ∀ acc H, Pv (min xs.length ys.length) acc H → fin acc H) : tBlock k cs g tc te (Itz K b c l m) σ H fin := by
  refine ⟨fun i n acc H => n = min xs.length ys.length - i ∧ i ≤ min xs.length ys.length ∧ Pv i acc H, ⟨min xs.length ys.length, by simp, Nat.zero_le _, h0⟩, ?_⟩
  rintro i n acc H ⟨rfl, hi, p⟩
  obtain ⟨qx, qy⟩ := hl i acc H p
  by_cases hlt : i < min xs.length ys.length
  · have lx : i < xs.length := by lia
    have ly : i < ys.length := by lia
    refine .inr ⟨⟨xs, ys, xs[i], ys[i], qx, qy, by simp [lx], by simp [ly]⟩, Pv (i + 1), fun acc' H' p' => ⟨min xs.length ys.length - (i + 1), by lia, rfl, hlt, p'⟩, fun x H' y => ?_⟩
    obtain ⟨T, z, z', rfl, nT, rfl, hz, hz'⟩ := y
    exact hs i z z' acc _ T (hz xs qx) (hz' ys qy) p nT
  · have e : i = min xs.length ys.length := by lia
    subst e
    exact .inl ⟨⟨xs, ys, qx, qy, by lia⟩, hd acc H p⟩
theorem blk_str {x : Str} (Pv : Nat → List V → Hp → Prop) (h0 : Pv 0 [] H) (hs : ∀ i ch acc H, x.cps.toList[i]? = some ch → Pv i acc H → Bt k cs g tc te σ (.str ⟨#[ch]⟩) acc H (Pv (i + 1))) (hd : ∀ acc H, Pv x.cps.toList.length acc H → fin acc H) : tBlock k cs g tc te (Its x) σ H fin := by
  have e0 : x.cps.toList.length = x.cps.size := by simp
  refine ⟨fun i m acc H => m = x.cps.size - i ∧ i ≤ x.cps.size ∧ Pv i acc H, ⟨x.cps.size, by simp, Nat.zero_le _, h0⟩, ?_⟩
  rintro i m acc H ⟨rfl, hi, p⟩
  by_cases hlt : i < x.cps.size
  · refine .inr ⟨hlt, Pv (i + 1), fun acc' H' p' => ⟨x.cps.size - (i + 1), by lia, rfl, hlt, p'⟩, fun v H' y => ?_⟩
    obtain ⟨e, ch, hch, rfl⟩ := y
    subst e
    exact hs i ch acc _ (by simpa using hch) p
  · have e : i = x.cps.size := by lia
    subst e
    exact .inl ⟨rfl, hd acc H (by rw [e0]; exact p)⟩
end
end L2

set_option Elab.async false
set_option linter.all false
set_option maxRecDepth 100000
namespace L2
open PySem PySem.Spec PyProof.Rows
/-! ### an expression by either of two readings -/
theorem PE.or {X : Cx} {e : Expr} {t u : TE} (h : PE X e t) (h' : PE X e u) : PE X e (fun σ H Q => t σ H Q ∨ u σ H Q) := by
  intro pins s σ H Q I q
  rcases q with q | q
  · exact h pins s σ H Q I q
  · exact h' pins s σ H Q I q
theorem rm {a b : Nat} {A : Around} (h : Room b A) (hle : a ≤ b := by first | decide | lia) : Room a A := h.mono hle

/-! ### what is called, in short -/
structure Cal (P : Program) (w : World) (K : PySem.W.Frag) (mg : Str → Option Value) (base : Heap) (CX : CXT) (k : Nat) (x : Str) (ps : List Str) (sp : Sp) : Prop where
  ex : ∃ (f : Addr) (fd : FuncData), FnOk P w K mg base CX k f fd ps sp ∧ mg x = some (.ref f) ∧ PySem.W.keepIn K (.ref f) = true ∧ Binds K fd ps []
structure CalM (P : Program) (w : World) (K : PySem.W.Frag) (mg : Str → Option Value) (base : Heap) (CX : CXT) (k : Nat) (C : Addr) (m : Str) (ps : List Str) (sp : Sp) : Prop where
  ex : ∃ (f : Addr) (fd : FuncData), FnOk P w K mg base CX k f fd ps sp ∧ Meth K C m f ∧ Binds K fd ps []
  cl : Cls K C
structure CalC (P : Program) (w : World) (K : PySem.W.Frag) (mg : Str → Option Value) (base : Heap) (CX : CXT) (k : Nat) (x : Str) (C : Addr) (ps : List Str) (sp : Sp) : Prop where
  ex : ∃ (f : Addr) (fd : FuncData), FnOk P w K mg base CX k f fd ps sp ∧ Mk K C f ∧ mg x = some (.ref C) ∧ Binds K fd ps []
section
variable {X : Cx} {CX : CXT} {k : Nat} {C : Addr} {ps : List Str} {sp : Sp} {E : XK} {x m : Str} {p pos apos : Pos} {e o : Expr} {es : List Expr} {ta : TE} {t : TA}
theorem pe_cal (c : Cal X.prog X.w X.K X.mg X.base CX k x ps sp) (hr : Room k X.A) (hg : Gl X x) (hx : Passes CX X E) (ha : PA X (e :: es) t) (hdb : (x == ("__debug__" : Str)) = false := by decide)
    (he : starEach (e :: es) X.env = (false, eval e X.env) :: starEach es X.env := by rfl) (hpl : (backTo pos (starEach es X.env)).any (·.1) = false := by rfl) : PE X (.Call (.Name x p) (e :: es) [] pos) (tCall sp [] E t) := by
  obtain ⟨f, fd, F, hm, hk, hb⟩ := c.ex
  exact pe_call F hr hg hm hk hb .nil hx ha hdb he hpl
theorem pe_calm {pl : Sem Bool} (he : PE X o ta) (c : CalM X.prog X.w X.K X.mg X.base CX k C m ps sp) (hr : Room k X.A) (hx : Passes CX X E) (ha : PA X (e :: es) t)
    (hst : starEach (e :: es) X.env = (false, eval e X.env) :: starEach es X.env := by rfl) (hpl : (backTo pos (starEach es X.env)).any (·.1) = false := by rfl)
    (ht : eval (.Call (.Attribute o m apos) (e :: es) [] pos) X.env = (do
      let ov ← eval o X.env; standAt apos.atName
      let (f, first) ← holding [ov] (getMethod ov m pl); callWith pos f first (backTo pos (starEach (e :: es) X.env)) (backToKw pos (keywordEach [] X.env))) := by rfl) : PE X (.Call (.Attribute o m apos) (e :: es) [] pos) (tMeth C m sp [] E ta t) := by
  obtain ⟨f, fd, F, hm, hb⟩ := c.ex
  exact pe_meth he c.cl hm F hr hb .nil hx ha hst hpl ht
theorem pe_calC (c : CalC X.prog X.w X.K X.mg X.base CX k x C ps sp) (hr : Room (k + 1) X.A) (hg : Gl X x) (hx : Passes CX X E) (ha : PA X (e :: es) t) (hdb : (x == ("__debug__" : Str)) = false := by decide)
    (he : starEach (e :: es) X.env = (false, eval e X.env) :: starEach es X.env := by rfl) (hpl : (backTo pos (starEach es X.env)).any (·.1) = false := by rfl) : PE X (.Call (.Name x p) (e :: es) [] pos) (tMake C sp [] E t) := by
  obtain ⟨f, fd, F, M, hm, hb⟩ := c.ex
  exact pe_make M F hr hg hm hb .nil hx ha hdb he hpl
theorem pe_gint {i : Int} (hg : Gl X x) (hm : ∃ tk, X.mg x = some (.int i tk)) (hd : (x == ("__debug__" : Str)) = false := by decide) : PE X (.Name x pos) (tC (.int i)) := by
  obtain ⟨tk, hm⟩ := hm
  exact pe_glob hg hm ⟨tk, rfl⟩ hd
theorem pe_gstr {z : Str} (hg : Gl X x) (hm : ∃ tk, X.mg x = some (.str z tk)) (hd : (x == ("__debug__" : Str)) = false := by decide) : PE X (.Name x pos) (tC (.str z)) := by
  obtain ⟨tk, hm⟩ := hm
  exact pe_glob hg hm ⟨tk, rfl⟩ hd
theorem pe_gref {a : Addr} (hg : Gl X x) (hm : X.mg x = some (.ref a)) (hd : (x == ("__debug__" : Str)) = false := by decide) : PE X (.Name x pos) (tC (.ref a)) := pe_glob hg hm rfl hd
end
/-! ### a block's scope, by one look -/
def cOk (So : Scope) (No : List Str) (scope : Scope) (N : List Str) (k : Nat) (cs : List Nat) : Bool :=
  scope.names.all (fun y => y.2 != .cell) && (scope.kind == .function && (scope.names.all (fun y => y.2 != .local || scope.names.lookup y.1 == some .local) && (scope.names.all (fun y => y.2 != .free || (So.names.lookup y.1 == some .cell || So.names.lookup y.1 == some .free)) &&
    (N.length == k + cs.length && (List.range cs.length).all fun j => match N[k + j]?, No[cs.getD j 0]? with
      | some x, some y => x == y && scope.names.lookup x == some .free
      | _, _ => false))))
theorem CScope.of {X : Cx} {So : Scope} {No : List Str} {scope : Scope} {N : List Str} {k : Nat} {cs : List Nat} (hS : X.env.scope = So) (hN : X.N = No) (h : cOk So No scope N k cs = true) : CScope X scope N k cs := by
  subst hS hN
  unfold cOk at h
  simp only [Bool.and_eq_true, List.all_eq_true, bne_iff_ne, ne_eq, Bool.or_eq_true, beq_iff_eq, List.mem_range] at h
  obtain ⟨h1, h2, h3, h4, h5, h6⟩ := h
  refine ⟨h1, h2, fun y hy e => ?_, fun y hy e => ?_, h5, fun j hj => ?_⟩
  · rcases h3 y hy with z | z
    · exact absurd e z
    · exact z
  · rcases h4 y hy with z | z
    · exact absurd e z
    · exact z
  · have z := h6 j hj
    split at z
    · rename_i x y e1 e2
      simp only [Bool.and_eq_true, beq_iff_eq] at z
      obtain ⟨z1, z2⟩ := z
      subst z1
      exact ⟨x, e1, e2, z2⟩
    · cases z

/-- no test -/
theorem tyes {σ : St} {H : Hp} {A B : Hp → Prop} (h : A H) : tYes σ H fun b H3 => if b = true then A H3 else B H3 := by
  show if true = true then A H else B H
  exact iteT h
/-! ### and, or: what stands behind both ways -/
theorem and_end {tb : TE} {σ : St} {H : Hp} {Q : VK} {b1 b2 : Bool} (h2 : b1 = true → ∀ Q' : VK, Q' (.bl b2) H → tb σ H Q') (q : Q (.bl (b1 && b2)) H) : ∃ c, V.bl b1 = .bl c ∧ if c = true then tb σ H Q else Q (.bl false) H := by
  cases b1 with
  | true => exact ⟨true, rfl, iteT (h2 rfl Q q)⟩
  | false => exact ⟨false, rfl, iteF q⟩
/-! ### a block's targets -/
section
variable {X : Cx} {scope : Scope} {N : List Str} {s : Shared} {H : Hp} {ex : List Addr} {x y : Str} {px py pos : Pos} {k : Nat}
theorem pgc_name {i : Nat} (hN : N.Nodup) (hi : N[i]? = some x) (hl : (relabel scope X.env).names.lookup x = some .local) : PG (cxC X scope N s H ex) (.Name x pos) (gName i) := pg_name (X := cxC X scope N s H ex) hN hi (.inl hl) (.inr hl)
theorem pgc_pair {i j : Nat} (hc : X.calm = true) (hN : N.Nodup) (hi : N[i]? = some x) (hj : N[j]? = some y) (hl : (relabel scope X.env).names.lookup x = some .local) (hm : (relabel scope X.env).names.lookup y = some .local) :
    PG (cxC X scope N s H ex) (.Tuple [.Name x px, .Name y py] k pos) (gTup X.K 2 (gCons (gName i) (gCons (gName j) gNil))) :=
  pg_tup (X := cxC X scope N s H ex) hc (pgs_cons (pgc_name hN hi hl) (pgs_cons (pgc_name hN hj hm) pgs_nil))
end
/-! ### texts: split, partition, join; how often in a list -/
theorem Vals.strs : ∀ (l : List Str) (k : Nat), Vals (l.map V.str) (strsFrom k l)
  | [], _ => .nil
  | x :: r, k => .cons ⟨k, rfl⟩ (Vals.strs r (k + 1))
section
variable {X : Cx}
theorem mt_split : MtR X "str.split" (fun x xs H Q => ∃ a b, x = .str a ∧ xs = [.str b] ∧ (b.length == 0) = false ∧ a.length ≤ 100000 ∧ ∀ p, H p = none → Q (.ref p) (upd H p (.lst ((Txt.split a b).map V.str)))) := by
  intro pins s σ H x xs v us Q I rx r h
  obtain ⟨a, b, rfl, rfl, hb, ha, q⟩ := h
  obtain ⟨t, rfl⟩ := rx
  obtain ⟨u, rfl, hu⟩ := r.one
  obtain ⟨tb, rfl⟩ := hu
  have big : a.length + 2 ≤ sizeLine := Nat.le_trans (Nat.add_le_add_right ha 2) (by decide)
  have fin : ∀ (its : List Value) (tk : Nat), Vals ((Txt.split a b).map V.str) its → EP X pins σ Q (.ref s.heap.objs.size) { s with heap := s.heap.push { cls := .type "list", data := .seq its.toArray }, toks := tk } := fun its tk hv =>
    ⟨.ref _, _, I.lnew (t' := tk) hv (by rw [List.length_map]; exact Nat.le_trans (split_le a b) big), rfl, q _ I.fresh⟩
  by_cases h1 : (decide (a.length < b.length) || decide (Builtin.Str.strKind a < Builtin.Str.strKind b)) = true
  · refine call_meets F.slot_str_split (typeIs_str _ _ _) F.entry_str_split (F.args_str_split_2 _ _) (meets_str_split_cannot_occur a b t tb h1) ?_
    refine fin _ s.toks ?_
    unfold Txt.split
    rw [if_pos h1]
    exact .cons ⟨t, rfl⟩ .nil
  · have h1' := Bool.eq_false_iff.mpr h1
    by_cases h2 : (Builtin.Str.occurrences a b 0 a.length (a.length + 1)).isEmpty = true
    · refine call_meets F.slot_str_split (typeIs_str _ _ _) F.entry_str_split (F.args_str_split_2 _ _) (meets_str_split_not_found a b t tb h1' hb h2) ?_
      refine fin _ s.toks ?_
      unfold Txt.split
      rw [if_neg h1, if_pos h2]
      exact .cons ⟨t, rfl⟩ .nil
    · have e : Txt.split a b = Builtin.Str.partsBetween a (Builtin.Str.occurrences a b 0 a.length (a.length + 1)) b.length := by
        unfold Txt.split
        rw [if_neg h1, if_neg h2]
      refine call_meets F.slot_str_split (typeIs_str _ _ _) F.entry_str_split (F.args_str_split_2 _ _) (meets_str_split_sep a b t tb h1' hb (Bool.eq_false_iff.mpr h2) (by lia) (by rw [← e]; exact Nat.le_trans (split_le a b) big)) ?_
      refine fin _ _ ?_
      rw [e]
      exact Vals.strs _ _
theorem mt_partition : MtR X "str.partition" (fun x xs H Q => ∃ a b, x = .str a ∧ xs = [.str b] ∧ (b.length == 0) = false ∧ a.length ≤ 100000 ∧ ∀ p, H p = none → Q (.ref p) (upd H p (.tup [.str (Txt.partition a b).1, .str (Txt.partition a b).2.1, .str (Txt.partition a b).2.2]))) := by
  intro pins s σ H x xs v us Q I rx r h
  obtain ⟨a, b, rfl, rfl, hb, ha, q⟩ := h
  obtain ⟨t, rfl⟩ := rx
  obtain ⟨u, rfl, hu⟩ := r.one
  obtain ⟨tb, rfl⟩ := hu
  have fin : ∀ (its : List Value) (tk : Nat), Vals [.str (Txt.partition a b).1, .str (Txt.partition a b).2.1, .str (Txt.partition a b).2.2] its → EP X pins σ Q (.ref s.heap.objs.size) { s with heap := s.heap.push { cls := .type "tuple", data := .seq its.toArray }, toks := tk } := fun its tk hv =>
    ⟨.ref _, _, I.laid (t' := tk) (o := .tup [.str (Txt.partition a b).1, .str (Txt.partition a b).2.1, .str (Txt.partition a b).2.2]) (fun _ _ e => Heap.get?_push_of_some _ e) (Nat.le_refl _) ⟨by show 3 ≤ sizeLine; decide, its, hv, _, Heap.get?_push_size _ rfl, rfl, _, rfl⟩, rfl, q _ I.fresh⟩
  refine call_meets F.slot_str_partition (typeIs_str _ _ _) F.entry_str_partition (F.args_str_partition_2 _ _) (meets_str_partition a b t tb hb (Nat.le_trans ha (by decide))) ?_
  show EP X pins σ Q _ _
  cases e : Builtin.Str.occurrences a b 0 a.length 1 with
  | nil =>
    refine fin _ _ ?_
    unfold Txt.partition
    rw [e]
    exact .cons ⟨_, rfl⟩ (.cons ⟨_, rfl⟩ (.cons ⟨_, rfl⟩ .nil))
  | cons i l =>
    refine fin _ _ ?_
    unfold Txt.partition
    rw [e]
    exact .cons ⟨_, rfl⟩ (.cons ⟨_, rfl⟩ (.cons ⟨_, rfl⟩ .nil))
theorem Vals.tstrs : ∀ {l : List Str} {its : List Value}, Vals (l.map V.str) its → ∃ ts : List (Str × Tok), its = strValues ts ∧ ts.map (·.1) = l
  | [], _, .nil => ⟨[], rfl, rfl⟩
  | x :: r, _, .cons ⟨t, e⟩ rr => by
    obtain ⟨ts, e1, e2⟩ := Vals.tstrs rr
    subst e e1
    exact ⟨(x, t) :: ts, rfl, by rw [List.map_cons, e2]⟩
theorem mt_join : MtR X "str.join" (fun x xs H Q => ∃ (sep : Str) (p : Addr) (l : List Str), x = .str sep ∧ xs = [.ref p] ∧ SqL X.K H p (l.map V.str) ∧ JoinOk sep l = true ∧ Q (.str (Str.join sep l)) H) := by
  intro pins s σ H x xs v us Q I rx r h
  obtain ⟨sep, p, l, rfl, rfl, hl, hok, q⟩ := h
  obtain ⟨t, rfl⟩ := rx
  obtain ⟨u, rfl, hu⟩ := r.one
  cases (show u = Value.ref p from hu)
  obtain ⟨its, rv, pl, _⟩ := I.list hl
  obtain ⟨ts, rfl, e⟩ := Vals.tstrs rv
  refine SC.join (texts := l) pl.isList e hok fun t' k => ⟨.str _, H, I.tok k, ⟨t', rfl⟩, ?_⟩
  have : Txt.join sep l = Str.join sep l := StrLaws.glued_eq_join sep l
  rw [this]
  exact q
theorem cnt_vals (n : Int) : ∀ {ns : List Int} {its : List Value}, Vals (ns.map V.int) its → its.countP (fun y => match y with | .int i _ => i == n | _ => false) = ns.countP (· == n)
  | [], _, .nil => rfl
  | x :: r, _, .cons ⟨t, e⟩ rr => by
    subst e
    rw [List.countP_cons, List.countP_cons, cnt_vals n rr]
theorem vals_int {ns : List Int} {its : List Value} (h : Vals (ns.map V.int) its) {y : Value} (hy : y ∈ its) : ∃ i t, y = .int i t := by
  induction ns generalizing its with
  | nil => cases h; simp at hy
  | cons n r ih =>
    cases h with
    | cons q qq =>
      obtain ⟨t, e⟩ := q
      rcases List.mem_cons.mp hy with z | z
      · exact ⟨n, t, z.trans e⟩
      · exact ih qq z
theorem mt_count : MtR X "list.count" (fun x xs H Q => ∃ (l : Addr) (ns : List Int) (n : Int), x = .ref l ∧ xs = [.int n] ∧ H l = some (.lst (ns.map V.int)) ∧ Q (.int (ns.countP (· == n) : Nat)) H) := by
  intro pins s σ H x xs v us Q I rx r h
  obtain ⟨l, ns, n, rfl, rfl, hH, q⟩ := h
  cases rx
  obtain ⟨u, rfl, hu⟩ := r.one
  obtain ⟨tk, rfl⟩ := hu
  obtain ⟨z, its, k, rv, hl, e⟩ := I.lstM hH
  refine call_meets F.slot_list_count ⟨_, e, rfl⟩ F.entry_list_count (F.args_list_count_2 _ _) (MeetsSeq.list_count l its.toArray k (.int n tk) (fun y => match y with | .int i _ => i == n | _ => false) (fun y hy => ?_)) ⟨e, ?_⟩
  · obtain ⟨i, t, rfl⟩ := vals_int rv (by simpa using hy)
    exact PySem.MeetsSeq.EqGives.int i n t tk
  · refine ⟨.int _, H, I.tok _, ⟨_, rfl⟩, ?_⟩
    have : (List.countP (fun y => match y with | Value.int i _ => i == n | _ => false) its.toArray.toList) = ns.countP (· == n) := cnt_vals n (by simpa using rv)
    rw [this]
    exact q
end
end L2

set_option Elab.async false
set_option linter.all false
set_option maxRecDepth 100000
namespace L2
open PySem
section
variable {X : Cx} {es es' : List Expr} {t t' : TA} {pos : Pos}
theorem pa_int {i : Int} {j} (hr : PA X es t) : PA X (.Constant (.int i) j pos :: es) (tCons (tC (.int i)) t) := pa_cons pe_int hr
theorem pa_str {z : Str} {j} (hr : PA X es t) : PA X (.Constant (.str z) j pos :: es) (tCons (tC (.str z)) t) := pa_cons pe_str hr
theorem pa_lst (h : PA X es' t') (hr : PA X es t) : PA X (.List es' pos :: es) (tCons (tLst t') t) := pa_cons (pe_lst h) hr
theorem pa_tup {x1} (h : PA X es' t') (hr : PA X es t) : PA X (.Tuple es' x1 pos :: es) (tCons (tTup t') t) := pa_cons (pe_tup h) hr
theorem pa_op {op : Operator} {r : R2} {a b : Expr} {ta tb : TE} (ho : OpR X (binaryOp op) r) (ha : PE X a ta) (hb : PE X b tb) (hr : PA X es t) : PA X (.BinOp a op b pos :: es) (tCons (tOp r ta tb) t) := pa_cons (pe_op ho ha hb) hr
end
end L2

set_option Elab.async false
set_option linter.all false
/-! The texts of whole numbers, over the codes of their signs. -/
namespace Nu
open PySem PySem.NumText PyProof.Rows
theorem ext {a b : Str} (h : a.cps.toList = b.cps.toList) : a = b := by
  obtain ⟨⟨l⟩⟩ := a
  obtain ⟨⟨r⟩⟩ := b
  cases h
  rfl
theorem len (x : Str) : x.length = x.cps.toList.length := by simp [Str.length]
theorem cutTo (x : Str) {j : Int} (h0 : 0 ≤ j) (h1 : j ≤ x.length) : (Txt.slice x none (some j)).length = j.toNat := by
  have e := beq_iff_eq.mp (slice_closes_toL (x := x) h0 h1)
  rw [e, len]
  rw [len] at h1
  show (List.take (j - 0).toNat (List.drop 0 x.cps.toList)).length = j.toNat
  rw [List.drop_zero, List.length_take]
  omega
theorem cutFrom (x : Str) (i : Int) (h0 : 0 ≤ i) : (Txt.slice x (some i) none).cps.toList = x.cps.toList.drop i.toNat := by
  by_cases h : i ≤ x.length
  · rw [slice_from_eq (x := x) (i := i) (b := (x.length : Int)) h0 h rfl]
    show ((x.cps.toList.drop i.toNat).take _) = _
    refine List.take_of_length_le ?_
    rw [List.length_drop, ← len]
    omega
  · rw [slice_beyond (x := x) (i := i) (by omega)]
    rw [List.drop_eq_nil_of_le (by rw [← len]; omega)]
    rfl
end Nu

set_option Elab.async false
set_option linter.all false
set_option maxRecDepth 100000
namespace L2
open PySem PySem.Spec PyProof.Rows
section
variable {X : Cx}
end
end L2

set_option Elab.async false
set_option linter.all false
set_option maxRecDepth 100000
namespace L2
open PySem PySem.Spec PyProof.Rows
section
variable {X : Cx}
theorem int_vals {ns : List Int} {its : List Value} (rv : Vals (ns.map V.int) its) : ∀ (i : Nat) v, its.toArray[i]? = some v → ∃ t, v = .int (ns.getD i 0) t := fun i v e => by
  have e : its[i]? = some v := by simpa using e
  cases eb : ns[i]? with
  | none =>
    have : its[i]? = none := rv.none_of (by rw [List.getElem?_map, eb]; rfl)
    rw [e] at this
    cases this
  | some b =>
    obtain ⟨u, hu, ru⟩ := rv.get (i := i) (x := V.int b) (by rw [List.getElem?_map, eb]; rfl)
    rw [e] at hu
    cases hu
    rw [List.getD_eq_getElem?_getD, eb]
    obtain ⟨t, rfl⟩ := ru
    exact ⟨t, rfl⟩
/-- min(xs), max(xs), xs a list of ints, not empty -/
theorem call_minL (hc : X.calm = true) : CallR X (.builtin "min") (fun xs H Q => ∃ (p : Addr) (ns : List Int), xs = [.ref p] ∧ SqL X.K H p (ns.map V.int) ∧ ns ≠ [] ∧ ∀ m ∈ ns, (∀ x ∈ ns, m ≤ x) → Q (.int m) H) := by
  intro pins s σ H xs us Q I r h
  obtain ⟨p, ns, rfl, hq, ne, q⟩ := h
  cases r with
  | cons r1 r2 =>
    cases r2
    cases (show _ = Value.ref p from r1)
    obtain ⟨its, rv, pl, hz⟩ := I.list hq
    have hlt : p < s.heap.objs.size := by obtain ⟨o, n, e, _⟩ := pl; exact Heap.lt_size e
    have hne : p ≠ s.heap.objs.size := Nat.ne_of_lt hlt
    have len : its.toArray.size = ns.length := by rw [List.size_toArray, ← rv.length, List.length_map]
    have pos : 0 < ns.length := List.length_pos_iff.mpr ne
    refine call_min_walk (wpAny_pyIter_list pl.isList ?_)
    refine ⟨s.heap.objs.size, _, _, _, _, _, _, rfl, (Walks.list (A := X.A.in1) (I.ok.hd hc) s.heap.objs.size p hne its.toArray), ⟨⟨_, Heap.get?_push_size _ rfl, rfl, rfl⟩, ?_⟩, ?_, by rw [len]; exact pos, CmpOf.ints_lt (fun i => ns.getD i 0) (int_vals rv), ?_⟩
    · exact pl.isList.at fun o e => Heap.get?_push_of_some _ e
    · intro b hb
      show b < (s.heap.push _).objs.size
      rw [Heap.size_push]
      rcases List.mem_cons.mp hb with rfl | hb
      · exact Nat.lt_succ_self _
      · rcases List.mem_cons.mp hb with rfl | hb
        · exact Nat.lt_succ_of_lt hlt
        · cases hb
    · intro v h' tk hP kk
      have I2 : Inv X pins σ H { s with heap := h', toks := tk } := I.kept fun b o e => kk b o (by intro z; exact Nat.ne_of_lt (Heap.lt_size e) (by simpa using z)) (Heap.get?_push_of_some _ e)
      obtain ⟨t, rfl⟩ := int_vals rv _ _ hP
      obtain ⟨b1, b2⟩ := argBest_lt (fun i => ns.getD i 0) (its.toArray.size - 1)
      generalize argBest (fun i j => decide (ns.getD i 0 < ns.getD j 0)) (its.toArray.size - 1) = z at b1 b2 hP ⊢
      rw [len] at b1 b2
      have hz2 : z < ns.length := by lia
      have ez : ns.getD z 0 = ns[z] := by rw [List.getD_eq_getElem?_getD, List.getElem?_eq_getElem hz2]; rfl
      refine ⟨.int _, H, I2, ⟨t, rfl⟩, q _ (by rw [ez]; exact List.getElem_mem hz2) fun x hx => ?_⟩
      obtain ⟨j, hj, e⟩ := List.mem_iff_getElem.mp hx
      have := b2 j (by lia)
      have ej : ns.getD j 0 = x := by rw [List.getD_eq_getElem?_getD, List.getElem?_eq_getElem hj, ← e]; rfl
      rw [← ej]
      exact this
/-- a list against the empty one -/
theorem op_eq_nil (hu : X.A.units + 64 < cLine) : OpR X (compareOp .Eq) (fun x y H Q => ∃ (a b : Addr) (xs : List V), x = .ref a ∧ y = .ref b ∧ SqL X.K H a xs ∧ SqL X.K H b [] ∧ Q (.bl (decide (xs.length = 0))) H) := by
  intro pins s σ H x y v u Q I rx ry h
  obtain ⟨a, b, xs, rfl, rfl, h1, h2, q⟩ := h
  cases rx
  cases ry
  obtain ⟨is, r1, p1, _⟩ := I.list h1
  obtain ⟨ys, r2, p2, _⟩ := I.list h2
  cases r2
  have hl := r1.length
  cases xs with
  | nil =>
    cases r1
    exact PySem.SeqAt.eq_listAt (e := fun _ => true) p1.isList p2.isList rfl (by lia) (fun j h1 h2 => absurd h1 (Nat.not_lt_zero _)) ⟨.bl _, H, I, rfl, q⟩
  | cons x xs =>
    cases is with
    | nil => cases hl
    | cons i is => exact PySem.SeqAt.eq_list_lengthsAt p1.isList p2.isList rfl (by lia) ⟨.bl _, H, I, rfl, q⟩
end
end L2

set_option Elab.async false
set_option linter.all false
set_option maxRecDepth 100000
namespace L2
open PySem PySem.Spec PyProof.Rows
section
variable {X : Cx}
end
/-! ### d.setdefault(k, v) -/
section
variable {prog : Program} {w : World} {κ : Type} [DecidableEq κ] {knd : HeapKind prog w κ} {A : Around} {E : Value → Shared → Prop} {s : Shared}
end
section
variable {X : Cx} {pins : List (Addr × Obj)} {σ : St} {H : Hp} {s : Shared} {a : Addr} {y v : V} {u r : Value} {o : Option V} {A : Around} {E : Value → Shared → Prop}
end
section
variable {X : Cx} {o e f : Expr} {apos cpos : Pos} {td ty tx : TE}
end
end L2

set_option Elab.async false
set_option linter.all false
set_option maxRecDepth 100000
namespace L2
open PySem PySem.Spec PyProof.Rows
/-! ### a walk over a dict whatever its keys: the dict stays as it is meanwhile -/
section
variable {prog : Program} {w : World} {A : Around} {E : Value → Shared → Prop} {s : Shared} {d it : Addr} {o : Obj} {es : Array DictEntry} {ep i : Nat}
end
end L2

set_option Elab.async false
set_option linter.all false
set_option maxRecDepth 100000
/-! sorted: what the asking tree of the small sort tells, where the order is that of numbers. -/
namespace L2
open PySem PySem.W PyProof.Rows
section
variable {rk : Nat → Int} {n : Nat}
end
end L2

set_option Elab.async false
set_option linter.all false
set_option maxRecDepth 100000
set_option maxHeartbeats 1000000
/-! sorted(xs): xs a list of less than 64 tuples of ints. -/
namespace L2
open PySem PySem.W PySem.Spec PyProof.Rows
section
variable {prog : Program} {w : World} {A : Around} {E : Value → Shared → Prop}
end
section
variable {X : Cx}
end
end L2

set_option maxHeartbeats 200000
set_option Elab.async false
set_option linter.all false
set_option maxRecDepth 100000
/-! Lists of tuples of ints that are alike. -/
namespace L2
open PySem PySem.Spec PyProof.Rows
section
variable {X : Cx}
end
end L2

set_option Elab.async false
set_option linter.all false
/-! Texts that are joined and parted again, over the codes of their signs. -/
namespace Tx
open PySem PySem.Builtin PySem.Builtin.Str PyProof.Rows
theorem cps_app (a b : Str) : (a ++ b).cps.toList = a.cps.toList ++ b.cps.toList := cps_toList_append a b
def jl (sep : List Nat) : List (List Nat) → List Nat
  | [] => []
  | [x] => x
  | x :: y :: r => x ++ sep ++ jl sep (y :: r)
theorem cps_join (sep : Str) : ∀ ts : List Str, (Str.join sep ts).cps.toList = jl sep.cps.toList (ts.map fun t => t.cps.toList)
  | [] => rfl
  | [x] => rfl
  | x :: y :: r => by
    have e : Str.join sep (x :: y :: r) = x ++ sep ++ Str.join sep (y :: r) := rfl
    rw [e, cps_app, cps_app, cps_join sep (y :: r)]
    rfl
theorem app_inj {c : Nat} : ∀ {x y A B : List Nat}, c ∉ x → c ∉ y → x ++ c :: A = y ++ c :: B → x = y ∧ A = B
  | [], [], A, B, _, _, h => ⟨rfl, by simpa using h⟩
  | [], y :: ys, A, B, _, hy, h => by
    simp at h
    exact absurd (by rw [h.1]; exact List.mem_cons_self) hy
  | x :: xs, [], A, B, hx, _, h => by
    simp at h
    exact absurd (by rw [← h.1]; exact List.mem_cons_self) hx
  | x :: xs, y :: ys, A, B, hx, hy, h => by
    simp at h
    obtain ⟨e, h⟩ := h
    obtain ⟨e2, e3⟩ := app_inj (x := xs) (y := ys) (fun z => hx (List.mem_cons_of_mem _ z)) (fun z => hy (List.mem_cons_of_mem _ z)) h
    exact ⟨by rw [e, e2], e3⟩
theorem jl_inj (c : Nat) (s : List Nat) : ∀ (as bs : List (List Nat)), as ≠ [] → bs ≠ [] → (∀ t ∈ as, c ∉ t) → (∀ t ∈ bs, c ∉ t) → jl (c :: s) as = jl (c :: s) bs → as = bs
  | [], _, h, _, _, _, _ => absurd rfl h
  | _, [], _, h, _, _, _ => absurd rfl h
  | [x], [y], _, _, _, _, e => by
    have e' : x = y := e
    rw [e']
  | [x], y :: z :: r, _, _, ha, _, e => by
    have e' : x = y ++ c :: s ++ jl (c :: s) (z :: r) := e
    exact absurd (by rw [e']; simp) (ha x List.mem_cons_self)
  | x :: z :: r, [y], _, _, _, hb, e => by
    have e' : x ++ c :: s ++ jl (c :: s) (z :: r) = y := e
    exact absurd (by rw [← e']; simp) (hb y List.mem_cons_self)
  | x :: x2 :: r, y :: y2 :: r', _, _, ha, hb, e => by
    have e' : x ++ c :: (s ++ jl (c :: s) (x2 :: r)) = y ++ c :: (s ++ jl (c :: s) (y2 :: r')) := by
      have : x ++ c :: s ++ jl (c :: s) (x2 :: r) = y ++ c :: s ++ jl (c :: s) (y2 :: r') := e
      simpa using this
    obtain ⟨e1, e2⟩ := app_inj (ha x List.mem_cons_self) (hb y List.mem_cons_self) e'
    have e3 := List.append_cancel_left e2
    rw [e1, jl_inj c s (x2 :: r) (y2 :: r') (by simp) (by simp) (fun t ht => ha t (List.mem_cons_of_mem _ ht)) (fun t ht => hb t (List.mem_cons_of_mem _ ht)) e3]
theorem map_codes {as bs : List Str} (h : as.map (fun t => t.cps.toList) = bs.map fun t => t.cps.toList) : as = bs := by
  induction as generalizing bs with
  | nil => cases bs with | nil => rfl | cons => simp at h
  | cons a r ih =>
    cases bs with
    | nil => simp at h
    | cons b q =>
      simp at h
      rw [Nu.ext (a := a) (b := b) (by simpa using h.1), ih (by simpa using h.2)]
theorem split_join1 (c : Nat) (ts : List Str) (hne : ts ≠ []) (hf : ∀ t ∈ ts, c ∉ t.cps.toList) : Txt.split (Str.join ⟨#[c]⟩ ts) ⟨#[c]⟩ = ts := by
  refine map_codes (jl_inj c [] _ _ ?_ ?_ ?_ ?_ ?_)
  · intro h
    have := split_pos (Str.join ⟨#[c]⟩ ts) ⟨#[c]⟩
    have h2 : (Txt.split (Str.join ⟨#[c]⟩ ts) ⟨#[c]⟩).length = 0 := by simpa using congrArg List.length h
    omega
  · simpa using hne
  · intro t ht
    obtain ⟨p, hp, rfl⟩ := List.mem_map.mp ht
    exact StrLaws.split_free _ c p hp
  · intro t ht
    obtain ⟨p, hp, rfl⟩ := List.mem_map.mp ht
    exact hf p hp
  · have h := congrArg (fun z : Str => z.cps.toList) (StrLaws.join_split (Str.join ⟨#[c]⟩ ts) ⟨#[c]⟩)
    rw [cps_join, cps_join] at h
    exact h
theorem part_at (c : Nat) (a b : Str) (h : c ∉ a.cps.toList) : Txt.partition (a ++ ⟨#[c]⟩ ++ b) ⟨#[c]⟩ = (a, ⟨#[c]⟩, b) := by
  have hin : c ∈ (a ++ ⟨#[c]⟩ ++ b).cps.toList := by rw [cps_app, cps_app]; simp
  have hs := StrLaws.partition_sum (a ++ ⟨#[c]⟩ ++ b) ⟨#[c]⟩
  have hh := partition_head (a ++ ⟨#[c]⟩ ++ b) ⟨#[c]⟩
  have ho := StrLaws.found_one (a ++ ⟨#[c]⟩ ++ b) c
  rw [decide_eq_true hin] at ho
  have hp2 : (Txt.partition (a ++ ⟨#[c]⟩ ++ b) ⟨#[c]⟩).2.1 = ⟨#[c]⟩ := by
    unfold Txt.partition
    cases e : occurrences (a ++ ⟨#[c]⟩ ++ b) ⟨#[c]⟩ 0 (a ++ ⟨#[c]⟩ ++ b).length 1 with
    | nil => rw [e] at ho; simp at ho
    | cons i l => rfl
  have hp1 : c ∉ (Txt.partition (a ++ ⟨#[c]⟩ ++ b) ⟨#[c]⟩).1.cps.toList := by
    rcases hh with ⟨_, no⟩ | ⟨i, e, hA, no⟩
    · obtain ⟨j, hj⟩ := List.getElem?_of_mem hin
      exact absurd ((StrLaws.subAt_one _ c j).mpr hj) (no j)
    · rw [e]
      exact StrLaws.part_free _ c 0 i (by have : i + 1 ≤ _ := hA.1; omega) fun k _ hk => no k hk
  have e : (Txt.partition (a ++ ⟨#[c]⟩ ++ b) ⟨#[c]⟩).1.cps.toList ++ (Txt.partition (a ++ ⟨#[c]⟩ ++ b) ⟨#[c]⟩).2.1.cps.toList ++ (Txt.partition (a ++ ⟨#[c]⟩ ++ b) ⟨#[c]⟩).2.2.cps.toList = a.cps.toList ++ [c] ++ b.cps.toList := by
    have e0 := congrArg (fun z : Str => z.cps.toList) hs
    rw [cps_app, cps_app, cps_app, cps_app] at e0
    exact e0
  rw [hp2] at e
  have e' : (Txt.partition (a ++ ⟨#[c]⟩ ++ b) ⟨#[c]⟩).1.cps.toList ++ c :: (Txt.partition (a ++ ⟨#[c]⟩ ++ b) ⟨#[c]⟩).2.2.cps.toList = a.cps.toList ++ c :: b.cps.toList := by simpa using e
  obtain ⟨e1, e2⟩ := app_inj hp1 h e'
  exact Prod.ext (Nu.ext e1) (Prod.ext hp2 (Nu.ext e2))
theorem dig_text {n : Int} (h0 : 0 ≤ n) (h1 : n ≤ 9) : (Str.ofString (toString n)) = (⟨#[48 + n.toNat]⟩ : Str) := by
  obtain ⟨m, rfl⟩ := Int.eq_ofNat_of_zero_le h0
  exact (show ∀ m : Nat, m < 10 → (Str.ofString (toString (m : Int))) = (⟨#[48 + (m : Int).toNat]⟩ : Str) by decide +kernel) m (by omega)
end Tx
namespace Tx
open PySem PySem.Builtin PySem.Builtin.Str PyProof.Rows
theorem jl_nil : ∀ ts : List (List Nat), jl [] ts = ts.flatten
  | [] => rfl
  | [x] => by simp [jl]
  | x :: y :: r => by
    show x ++ [] ++ jl [] (y :: r) = _
    rw [jl_nil (y :: r)]
    simp
theorem fold_le (sep : Str) (m : Nat) : ∀ (l : List Str) (acc : Nat), (∀ t ∈ l, t.length ≤ m) → l.foldl (fun a t => a + t.length + sep.length) acc ≤ acc + l.length * (m + sep.length)
  | [], acc, _ => by simp
  | t :: r, acc, h => by
    have h1 := h t List.mem_cons_self
    have h2 := fold_le sep m r (acc + t.length + sep.length) fun z hz => h z (List.mem_cons_of_mem _ hz)
    rw [List.foldl_cons, List.length_cons, Nat.succ_mul]
    omega
theorem join_ok {sep : Str} {l : List Str} (m : Nat) (h : ∀ t ∈ l, t.length ≤ m) (hs : l.length * (m + sep.length) ≤ 100000) : JoinOk sep l = true := by
  unfold JoinOk
  have h2 := fold_le sep m l 0 h
  have e : l.toArray.foldl (fun a t => a + t.length + sep.length) 0 = l.foldl (fun a t => a + t.length + sep.length) 0 := by simp
  rw [e]
  have : tooLong (l.foldl (fun a t => a + t.length + sep.length) 0) = false := by
    unfold tooLong
    refine decide_eq_false ?_
    have : (100000 : Nat) ≤ sizeLine := by decide
    omega
  rw [this]
  rfl
theorem app_len (a b : Str) : (a ++ b).length = a.length + b.length := by
  rw [Nu.len, Nu.len, Nu.len, cps_app, List.length_append]
end Tx

set_option Elab.async false
set_option linter.all false
/-! Texts that are parted by two signs. -/
namespace Tx
open PySem PySem.Builtin PySem.Builtin.Str PyProof.Rows
theorem at_two (x : Str) (c d k : Nat) (h1 : x.cps.toList[k]? = some c) (h2 : x.cps.toList[k + 1]? = some d) : StrLaws.At x ⟨#[c, d]⟩ x.length k := by
  have l : k + 1 < x.cps.toList.length := (List.getElem?_eq_some_iff.mp h2).1
  refine ⟨?_, ?_⟩
  · show k + 2 ≤ x.length
    rw [Nu.len]
    omega
  · rw [StrLaws.subAt_eq]
    show ((x.cps.toList.drop k).take 2 == [c, d]) = true
    have e1 : x.cps.toList.drop k = c :: d :: x.cps.toList.drop (k + 2) := by
      rw [List.drop_eq_getElem_cons (by omega), (List.getElem?_eq_some_iff.mp h1).2, List.drop_eq_getElem_cons l, (List.getElem?_eq_some_iff.mp h2).2]
    rw [e1]
    simp
def Led (c d : Nat) (l : List Nat) : Prop := ∀ k : Nat, l[k]? = some c → l[k + 1]? = some d
theorem part_free2 {x : Str} {c d a b : Nat} (hx : Led c d x.cps.toList) (hb : b ≤ x.length) (hn : ∀ k, a ≤ k → k < b → ¬ StrLaws.At x ⟨#[c, d]⟩ x.length k) : c ∉ (strSub x a b).cps.toList := by
  intro hm
  rw [StrLaws.strSub_toList] at hm
  obtain ⟨j, hj⟩ := List.getElem?_of_mem hm
  have hlt : j < b - a := by
    have h1 : j < ((x.cps.toList.drop a).take (b - a)).length := (List.getElem?_eq_some_iff.mp hj).1
    rw [List.length_take] at h1
    omega
  rw [List.getElem?_take_of_lt hlt, List.getElem?_drop] at hj
  exact hn (a + j) (by omega) (by omega) (at_two x c d (a + j) hj (hx _ hj))
theorem parts_free2 {x : Str} {c d : Nat} (hx : Led c d x.cps.toList) : ∀ (cuts : List Nat) (a f : Nat), StrLaws.ChainG x ⟨#[c, d]⟩ x.length a cuts f → (∀ k, f ≤ k → ¬ StrLaws.At x ⟨#[c, d]⟩ x.length k) → ∀ p ∈ StrLaws.partsFrom x 2 a cuts, c ∉ p.cps.toList
  | [], a, f, h, hn, p, hp => by
    have e : f = a := h
    subst e
    rw [List.mem_singleton.mp hp]
    exact part_free2 hx (Nat.le_refl _) fun k h1 _ => hn k h1
  | g :: r, a, f, h, hn, p, hp => by
    rcases List.mem_cons.mp hp with rfl | hp'
    · exact part_free2 hx (by have : g + 2 ≤ _ := h.2.1.1; omega) h.2.2.1
    · exact parts_free2 hx r _ f h.2.2.2 hn p hp'
theorem kind_le (x : Str) : ¬ Builtin.Str.strKind x < Builtin.Str.strKind (⟨#[59, 32]⟩ : Str) := by
  have e : Builtin.Str.strKind (⟨#[59, 32]⟩ : Str) = 1 := by simp [Builtin.Str.strKind]
  rw [e]
  unfold Builtin.Str.strKind
  split
  · decide
  · split <;> decide
theorem split_free2 {x : Str} (hx : Led 59 32 x.cps.toList) : ∀ p ∈ Txt.split x ⟨#[59, 32]⟩, 59 ∉ p.cps.toList := by
  obtain ⟨f, hG, hn⟩ := StrLaws.occ_tight x ⟨#[59, 32]⟩ (by decide)
  have whole : 59 ∈ x.cps.toList → ∃ k, StrLaws.At x ⟨#[59, 32]⟩ x.length k := fun hm => by
    obtain ⟨j, hj⟩ := List.getElem?_of_mem hm
    exact ⟨j, at_two x 59 32 j hj (hx j hj)⟩
  unfold Txt.split
  split
  · rename_i hc
    intro p hp
    rw [List.mem_singleton.mp hp]
    intro hm
    obtain ⟨k, hk⟩ := whole hm
    have h2 : k + 2 ≤ x.length := hk.1
    rw [Bool.or_eq_true, decide_eq_true_eq, decide_eq_true_eq] at hc
    rcases hc with h | h
    · have h3 : x.length < 2 := h
      omega
    · exact kind_le x h
  · split
    · rename_i he
      intro p hp
      rw [List.mem_singleton.mp hp]
      intro hm
      obtain ⟨k, hk⟩ := whole hm
      rw [List.isEmpty_iff.mp he] at hG
      have ef : f = 0 := hG
      exact hn k (by omega) hk
    · rw [StrLaws.partsBetween_eq]
      exact parts_free2 hx _ 0 f hG hn
theorem led_jl {c d : Nat} (hcd : c ≠ d) : ∀ ts : List (List Nat), (∀ t ∈ ts, c ∉ t) → Led c d (jl [c, d] ts)
  | [], _ => fun k h => by simp [jl] at h
  | [x], hf => fun k h => absurd (List.mem_of_getElem? (show x[k]? = some c from h)) (hf x List.mem_cons_self)
  | x :: y :: r, hf => fun k h => by
    have ih := led_jl hcd (y :: r) fun t ht => hf t (List.mem_cons_of_mem _ ht)
    have e : jl [c, d] (x :: y :: r) = x ++ (c :: d :: jl [c, d] (y :: r)) := by
      show x ++ [c, d] ++ jl [c, d] (y :: r) = _
      simp
    rw [e] at h ⊢
    by_cases h1 : k < x.length
    · rw [List.getElem?_append_left h1] at h
      exact absurd (List.mem_of_getElem? h) (hf x List.mem_cons_self)
    · rw [List.getElem?_append_right (by omega)] at h
      rw [List.getElem?_append_right (by omega)]
      obtain ⟨m, hm⟩ : ∃ m, k - x.length = m := ⟨_, rfl⟩
      rw [show k + 1 - x.length = m + 1 by omega]
      rw [hm] at h
      cases m with
      | zero => rfl
      | succ m =>
        cases m with
        | zero =>
          have : some d = some c := h
          exact absurd (Option.some.inj this).symm hcd
        | succ m =>
          rw [List.getElem?_cons_succ, List.getElem?_cons_succ] at h ⊢
          exact ih m h
theorem split_join2 (ts : List Str) (hne : ts ≠ []) (hf : ∀ t ∈ ts, 59 ∉ t.cps.toList) : Txt.split (Str.join ⟨#[59, 32]⟩ ts) ⟨#[59, 32]⟩ = ts := by
  have led : Led 59 32 (Str.join ⟨#[59, 32]⟩ ts).cps.toList := by
    rw [cps_join]
    refine led_jl (by decide) _ fun t ht => ?_
    obtain ⟨p, hp, rfl⟩ := List.mem_map.mp ht
    exact hf p hp
  refine map_codes (jl_inj 59 [32] _ _ ?_ ?_ ?_ ?_ ?_)
  · intro h
    have := split_pos (Str.join ⟨#[59, 32]⟩ ts) ⟨#[59, 32]⟩
    have h2 : (Txt.split (Str.join ⟨#[59, 32]⟩ ts) ⟨#[59, 32]⟩).length = 0 := by simpa using congrArg List.length h
    omega
  · simpa using hne
  · intro t ht
    obtain ⟨p, hp, rfl⟩ := List.mem_map.mp ht
    exact split_free2 led p hp
  · intro t ht
    obtain ⟨p, hp, rfl⟩ := List.mem_map.mp ht
    exact hf p hp
  · have h := congrArg (fun z : Str => z.cps.toList) (StrLaws.join_split (Str.join ⟨#[59, 32]⟩ ts) ⟨#[59, 32]⟩)
    rw [cps_join, cps_join] at h
    exact h
end Tx

set_option Elab.async false
set_option linter.all false
set_option maxRecDepth 100000
/-! A dict of tuples that was gone through before. -/
namespace L2
open PySem PySem.W PySem.Spec PyProof.Rows
end L2

set_option Elab.async false
set_option linter.all false
set_option maxRecDepth 100000
/-! Lists of truths counted and searched; a def that may refuse or not. -/
namespace L2
open PySem PySem.Spec PyProof.Rows
theorem FnOk.up {P : Program} {w : World} {K : PySem.W.Frag} {mg : Str → Option Value} {base : Heap} {CX : CXT} {k : Nat} {f : Addr} {fd : FuncData} {ps : List Str} {sp : Sp} (F : FnOk P w K mg base CX0 k f fd ps sp) : FnOk P w K mg base CX k f fd ps sp :=
  ⟨F.len, fun A outer s H args us vs Q E hr e hb r h => codeAny_mono (F.run A outer s H args us vs Q E hr e hb r h) fun r s' q => by
    rcases r with e | (_ | _ | _ | _)
    · exact q.elim
    all_goals exact q⟩
theorem FnOk.or {P : Program} {w : World} {K : PySem.W.Frag} {mg : Str → Option Value} {base : Heap} {CX : CXT} {k : Nat} {f : Addr} {fd : FuncData} {ps : List Str} {sp sp' : Sp} (F : FnOk P w K mg base CX k f fd ps sp) (F' : FnOk P w K mg base CX k f fd ps sp') : FnOk P w K mg base CX k f fd ps (fun vs H Q E => sp vs H Q E ∨ sp' vs H Q E) :=
  ⟨fun vs H Q E h => h.elim (F.len vs H Q E) (F'.len vs H Q E), fun A outer s H args us vs Q E hr e hb r h => h.elim (F.run A outer s H args us vs Q E hr e hb r) (F'.run A outer s H args us vs Q E hr e hb r)⟩
structure CalH (P : Program) (w : World) (K : PySem.W.Frag) (mg : Str → Option Value) (base : Heap) (k : Nat) (x : Str) (ps : List Str) (sp : Sp) : Prop where
  ex : ∃ (f : Addr) (fd : FuncData), FnOkH P w K mg base k f fd ps sp ∧ mg x = some (.ref f) ∧ PySem.W.keepIn K (.ref f) = true ∧ Binds K fd ps []
theorem rmH {a b : Nat} {A : Around} (h : RoomH b A) (hle : a ≤ b := by first | decide | lia) : RoomH a A := ⟨by have := h.dp; lia, by have := h.un; lia⟩
section
variable {X : Cx} {CX : CXT} {k : Nat} {ps : List Str} {sp : Sp} {E : XK} {x : Str} {p pos : Pos} {e : Expr} {es : List Expr} {t : TA} {S : St → Prop}
theorem pe_calS (c : Cal X.prog X.w X.K X.mg X.base CX k x ps sp) (hr : Room k X.A) (hg : Gl X x) (hx : PassesS CX X E S) (ha : PA X (e :: es) t) (hdb : (x == ("__debug__" : Str)) = false := by decide)
    (he : starEach (e :: es) X.env = (false, eval e X.env) :: starEach es X.env := by rfl) (hpl : (backTo pos (starEach es X.env)).any (·.1) = false := by rfl) : PE X (.Call (.Name x p) (e :: es) [] pos) (tCallS S sp [] E t) := by
  obtain ⟨f, fd, h1, h2, h3, h4⟩ := c
  exact pe_callS h1 hr hg h2 h3 h4 .nil hx ha hdb he hpl
theorem pe_calH (c : CalH X.prog X.w X.K X.mg X.base k x ps sp) (hr : RoomH k X.A) (hg : Gl X x) (ha : PA X (e :: es) t) (hdb : (x == ("__debug__" : Str)) = false := by decide)
    (he : starEach (e :: es) X.env = (false, eval e X.env) :: starEach es X.env := by rfl) (hpl : (backTo pos (starEach es X.env)).any (·.1) = false := by rfl) : PE X (.Call (.Name x p) (e :: es) [] pos) (tCall sp [] E0 t) := by
  obtain ⟨f, fd, h1, h2, h3, h4⟩ := c.ex
  exact pe_callH h1 hr hg h2 h3 h4 ha hdb he hpl
end
section
variable {X : Cx}
end
end L2

set_option Elab.async false
set_option linter.all false
set_option maxRecDepth 100000
namespace L2
open PySem PySem.Spec PyProof.Rows
/-! try with two except clauses -/
theorem exc_misses {K : PySem.W.Frag} {M : Model} {A : Around} {E : Value → Shared → Prop} {s : Shared} {e C D : Addr} {oe : Obj} {Q : Bool → Shared → Prop} (X : K.In s.heap) (hC : ExcC K C) (hD : ExcC K D) (hs : PySem.W.mroIn K D (.ref C) = some false)
    (he : s.heap.get? e = some oe) (hcls : oe.cls = .ref D) (hq : Q false s) : wpAny M A (excMatches (.ref e) (.ref C)) Q E s := by
  obtain ⟨h, g, d, t, os⟩ := s
  obtain ⟨bm, N, nm, qn, bs, hd, sn, sub, ab, col, dd, k0, k1, k2, k3, k5, mN, hO, hN, hi, hT, hM⟩ := exc_obj X hD
  have hbase : bm.contains (.type "BaseException") = true := hT.hasType (by decide)
  by_cases z : D = C
  · subst z
    have : (Value.ref D :: bm).contains (.ref D) = false := Option.some.inj ((hM (.ref D)).symm.trans hs)
    rw [List.contains_cons] at this
    simp at this
  · obtain ⟨bm', N', nm', qn', bs', hd', sn', sub', ab', col', dd', k0', k1', k2', k3', k5', mN', hO', hN', hi', hT', hM'⟩ := exc_obj X hC
    have hcB : (Value.ref C :: bm').contains (.type "BaseException") = true := by rw [List.contains_cons, hT'.hasType (X := "BaseException") (b := true) (by decide), Bool.or_true]
    have hcC : (Value.ref D :: bm).contains (.ref C) = false := Option.some.inj ((hM (.ref C)).symm.trans hs)
    have f := tc_notTuple
    unfold excMatches
    repeat (first
      | (with_reducible refine wpAny_loadPart_at he ?_; rw [hcls])
      | with_reducible refine wpAny_loadPart_at hO' ?_
      | (with_reducible refine wpAny_isSubtype_exc hO' ?_; rw [hcB])
      | (with_reducible refine wpAny_isSubtype_exc hO ?_; rw [hcC])
      | wp_step)
    exact hq
section
variable {X : Cx} {C C2 : Addr} {x n x2 : Str} {np hpos pos np2 hpos2 : Pos} {i : Nat} {b₀ b2 : Stmt} {suite body suite2 : List Stmt} {S : St → Prop} {tb : XK → TS} {th th2 : TS}
/-- the exception that reached this body lies in it; the clause's class takes it; the suite begins -/
theorem land2 {pins pins' : List (Addr × Obj)} {σ : St} {H1 : Hp} {s1 s' : Shared} {e : Value} {E1 : XK} {Q : Flow → Shared → Prop} {nm : Option Str} {xe1 : Value → Shared → Prop}
    (hstk : X.stack = X.env :: X.outer) (hfr : X.env.frame = some X.env.locals) (hex : X.ex = []) (hg : Gl X x) (hm : X.mg x = some (.ref C)) (hC : ExcC X.K C) (hg2 : Gl X x2) (hm2 : X.mg x2 = some (.ref C2)) (hC2 : ExcC X.K C2) (hcalm : X.calm = true)
    (hE1 : ∀ cls d H', E1 cls d H' → ∃ D, cls = .ref D ∧ ExcC X.K D ∧ (PySem.W.mroIn X.K D (.ref C) = some true ∨ (PySem.W.mroIn X.K D (.ref C) = some false ∧ PySem.W.mroIn X.K D (.ref C2) = some true)))
    (J0 : Inv { X with xe := xe1, pn := X.pn ++ pins } pins' σ H1 s1) (hcx : CXE X.prog X.w X.stack H1 s1 E1 e s')
    (go : ∀ (a D : Addr) (H' : Hp) (s2 : Shared), e = .ref a → PySem.W.mroIn X.K D (.ref C) = some true → E1 (.ref D) none H' → H' a = none → (∃ o, s2.heap.get? a = some o ∧ o.cls = .ref D ∧ PySem.W.notCls o = true) → X.s₀.heap.get? a = none → X.base.get? a = none → X.env.locals ≠ a → (∀ x c, X.env.cells.lookup x = some c → c ≠ a) →
      (∀ p, p ∈ X.pn ++ pins → p.1 ≠ a) → (∀ b, b ∈ X.fs → b ≠ a) → Inv X pins σ H' s2 →
      (∀ (Q' : Unit → Shared → Prop) (E' : Value → Shared → Prop), (∀ s3, Inv X pins σ H' s3 → (∃ o, s3.heap.get? a = some o ∧ o.cls = .ref D ∧ PySem.W.notCls o = true) → Q' () s3) → wpAny (model X.prog X.w) (X.A.mark (some (.ref a))) (setFlight (.ref a) none) Q' E' s2) →
      codeAny (model X.prog X.w) (X.A.mark (some (.ref a))) (.handlers (.ref a) [.ExceptHandler none nm (b₀ :: suite) hpos] X.env) (fun r s₂ => match r with
          | .ok f => (match nm with
            | none => Q f s₂
            | some n => wpAny (model X.prog X.w) X.A (do bindName X.env n .none; unbindBehindTheSuite X.env n hpos) (fun _ s₃ => Q f s₃) X.xe s₂)
          | .error x => cameBackBy (model X.prog X.w) X.A X.env X.xe x s₂) s2)
    (go2 : ∀ (a D : Addr) (H' : Hp) (s2 : Shared), e = .ref a → PySem.W.mroIn X.K D (.ref C) = some false → E1 (.ref D) none H' → H' a = none → (∃ o, s2.heap.get? a = some o ∧ o.cls = .ref D ∧ PySem.W.notCls o = true) → X.s₀.heap.get? a = none → X.base.get? a = none → X.env.locals ≠ a → (∀ x c, X.env.cells.lookup x = some c → c ≠ a) →
      (∀ p, p ∈ X.pn ++ pins → p.1 ≠ a) → (∀ b, b ∈ X.fs → b ≠ a) → Inv X pins σ H' s2 →
      (∀ (Q' : Unit → Shared → Prop) (E' : Value → Shared → Prop), (∀ s3, Inv X pins σ H' s3 → (∃ o, s3.heap.get? a = some o ∧ o.cls = .ref D ∧ PySem.W.notCls o = true) → Q' () s3) → wpAny (model X.prog X.w) (X.A.mark (some (.ref a))) (setFlight (.ref a) none) Q' E' s2) →
      codeAny (model X.prog X.w) (X.A.mark (some (.ref a))) (.handlers (.ref a) [.ExceptHandler none nm (b2 :: suite2) hpos2] X.env) (fun r s₂ => match r with
          | .ok f => (match (generalizing := false) nm with
            | none => Q f s₂
            | some n => wpAny (model X.prog X.w) X.A (do bindName X.env n .none; unbindBehindTheSuite X.env n hpos2) (fun _ s₃ => Q f s₃) X.xe s₂)
          | .error x => cameBackBy (model X.prog X.w) X.A X.env X.xe x s₂) s2)
    (hdb : (x == ("__debug__" : Str)) = false := by decide) (hdb2 : (x2 == ("__debug__" : Str)) = false := by decide) :
    wpAny (model X.prog X.w) X.A (noteFrame e X.env) (fun _ s₂ => wpAny (model X.prog X.w) X.A (setFlight e none) (fun _ s₃ => wpAny (model X.prog X.w) X.A (handleBy e X.env [.ExceptHandler (some (.Name x np)) nm (b₀ :: suite) hpos, .ExceptHandler (some (.Name x2 np2)) nm (b2 :: suite2) hpos2]) Q X.xe s₃) X.xe s₂) X.xe s' := by
  obtain ⟨a, T, cls, H', rfl, os, bare, un, hok, fl, na, nT, ha, hT, hE⟩ := hcx
  obtain ⟨D, rfl, hD, hDC⟩ := hE1 _ _ _ hE
  have hpin : ∀ p, p ∈ X.pn ++ pins → p.1 ≠ a := fun p hp z => by
    have q := (J0.pin p (List.mem_append_left _ hp)).1
    rw [z, na] at q
    cases q
  have I0 : Inv X pins σ H1 s1 := J0.un_re J0.ok.hd rfl (fun p hp => List.mem_append_left _ hp)
  have J : Inv X pins σ H' s' := I0.call' (ch := []) os un hok bare (fun b z => absurd z (by simp))
  have fr := J.stack
  obtain ⟨a0, fw⟩ := flyW fl fr
  have sub : ∀ b, b ∈ frs X.stack → b ∈ a :: T :: frs X.stack := fun b z => .tail _ (.tail _ z)
  have hf2 : X.A.frames = some (X.env :: X.outer) := J.ok.frames.trans (by rw [hstk])
  have free : ∀ b, b ∈ a :: T :: frs X.stack → H' b = none := fun b z => by
    rcases List.mem_cons.mp z with rfl | z
    · exact ha
    · rcases List.mem_cons.mp z with rfl | z
      · exact hT
      · exact J.stkFree b z
  have g0 : ∀ {b}, s1.heap.get? b = none → X.s₀.heap.get? b = none := fun q => I0.gn hex q
  have out : ∀ b, b ∈ a :: T :: frs X.stack → b ∈ frs X.stack ∨ X.s₀.heap.get? b = none := fun b z => by
    rcases List.mem_cons.mp z with rfl | z
    · exact .inr (g0 na)
    · rcases List.mem_cons.mp z with rfl | z
      · exact .inr (g0 nT)
      · exact .inl z
  have out1 : ∀ b, b ∈ a :: T :: frs X.stack → b ∈ frs X.stack ∨ s1.heap.get? b = none := fun b z => by
    rcases List.mem_cons.mp z with rfl | z
    · exact .inr na
    · rcases List.mem_cons.mp z with rfl | z
      · exact .inr nT
      · exact .inl z
  -- the state over a heap near to this one
  have over : ∀ h2, Near (a :: T :: frs X.stack) (frs X.stack) s'.heap h2 → Inv X pins σ H' { s' with heap := h2 } := fun h2 nr =>
    I0.call' (s' := { s' with heap := h2 }) (ch := []) os (un_near un nr out1 fun b z => .inl z) (hok_near hok nr free) bare (fun b z => absurd z (by simp))
  rw [hstk] at fw
  refine wpAny_looks_onW hf2 hfr fw fun h4 held4 up4 => ?_
  refine wpAny_landsW held4 fun h5 fw5 up5 => ?_
  have nr5 : Near (a :: T :: frs X.stack) (frs X.stack) s'.heap h5 := near_of (by rw [hstk]; exact fw5.1) (up4.trans up5) fr sub
  have J5 := over h5 nr5
  obtain ⟨oe5, q5, c5⟩ := fw5.there
  have M5 : Inv { X with A := X.A.mark (some (.ref a)), calm := false, xe := fun _ _ => False, pn := X.pn } pins σ H' { s' with heap := h5 } := J5.re (fun z => nomatch z) rfl (fun _ z => z)
  have held : ∀ {h2}, Heap.FlyingW (PySem.W.hideAll s'.heap (a :: T :: frs (X.env :: X.outer))) (X.env :: X.outer) a (.ref D) a0 h2 → ∃ o, h2.get? a = some o ∧ o.cls = .ref D ∧ PySem.W.notCls o = true := fun fw => by
    obtain ⟨_, _, _, oe, vs, T', oT, ts, e1, e2, e3, _⟩ := fw
    exact ⟨oe, e1, e2.1, by unfold PySem.W.notCls; rw [e3]⟩
  have nL : ∀ {b o}, s1.heap.get? b = some o → b ≠ a := fun q z => by rw [z, na] at q; cases q
  rcases hDC with hDC | ⟨hN, hDC⟩
  · refine wpAny_handleBy_cons (codeAny_handlers_test (ld_glob (X := { X with A := X.A.mark (some (.ref a)), calm := false, xe := fun _ _ => False, pn := X.pn }) M5 hg hm ?_ hdb)) (by intro q; cases q)
    refine exc_takes M5.kIn hC hD hDC q5 c5 ?_
    refine go a D H' { s' with heap := h5 } rfl hDC hE ha (held fw5) (g0 na) ?_ ?_ ?_ hpin ?_ J5 ?_
    · cases q : X.base.get? a with
      | none => rfl
      | some o =>
        have := I0.bk a o q
        rw [na] at this
        cases this
    · obtain ⟨m, ⟨o, _, _, q, _⟩, _⟩ := I0.loc
      exact nL q
    · intro y c q
      obtain ⟨v, o, ho, _⟩ := I0.cell y c q
      exact nL ho
    · intro b hb
      obtain ⟨_, o, ho, _⟩ := I0.funs.mem hb
      exact nL ho
    · intro Q' E' hk
      refine lands_againW (s := { s' with heap := h5 }) fw5 fun h6 fw6 up6 => hk _ (over h6 (near_of (by rw [hstk]; exact fw6.1) ((up4.trans up5).trans up6) fr sub)) (held fw6)
  · refine wpAny_handleBy_cons (codeAny_handlers_test (ld_glob (X := { X with A := X.A.mark (some (.ref a)), calm := false, xe := fun _ _ => False, pn := X.pn }) M5 hg hm ?_ hdb)) (by intro q; cases q)
    refine exc_misses M5.kIn hC hD hN q5 c5 ?_
    refine wpAny_handleBy_cons (codeAny_handlers_test (ld_glob (X := { X with A := X.A.mark (some (.ref a)), calm := false, xe := fun _ _ => False, pn := X.pn }) M5 hg2 hm2 ?_ hdb2)) (by intro q; cases q)
    refine exc_takes M5.kIn hC2 hD hDC q5 c5 ?_
    refine go2 a D H' { s' with heap := h5 } rfl hN hE ha (held fw5) (g0 na) ?_ ?_ ?_ hpin ?_ J5 ?_
    · cases q : X.base.get? a with
      | none => rfl
      | some o =>
        have := I0.bk a o q
        rw [na] at this
        cases this
    · obtain ⟨m, ⟨o, _, _, q, _⟩, _⟩ := I0.loc
      exact nL q
    · intro y c q
      obtain ⟨v, o, ho, _⟩ := I0.cell y c q
      exact nL ho
    · intro b hb
      obtain ⟨_, o, ho, _⟩ := I0.funs.mem hb
      exact nL ho
    · intro Q' E' hk
      refine lands_againW (s := { s' with heap := h5 }) fw5 fun h6 fw6 up6 => hk _ (over h6 (near_of (by rw [hstk]; exact fw6.1) ((up4.trans up5).trans up6) fr sub)) (held fw6)
def tTryAs2 (K : PySem.W.Frag) (C C2 : Addr) (i : Nat) (S : St → Prop) (tb : XK → TS) (th th2 : TS) : TS := fun D σ H =>
  tb (fun cls _ H' => ∃ D', cls = .ref D' ∧ ExcC K D' ∧ ((PySem.W.mroIn K D' (.ref C) = some true ∧ ∀ σ' a, S σ' → H' a = none → th { nx := fun σ2 H2 => D.nx (σ2.set i none) H2, rt := D.rt, bk := fun σ2 H2 => D.bk (σ2.set i none) H2, ct := fun σ2 H2 => D.ct (σ2.set i none) H2 } (σ'.set i (some (.ref a))) (upd H' a (isExc a D'))) ∨ ((PySem.W.mroIn K D' (.ref C) = some false ∧ PySem.W.mroIn K D' (.ref C2) = some true) ∧ ∀ σ' a, S σ' → H' a = none → th2 { nx := fun σ2 H2 => D.nx (σ2.set i none) H2, rt := D.rt, bk := fun σ2 H2 => D.bk (σ2.set i none) H2, ct := fun σ2 H2 => D.ct (σ2.set i none) H2 } (σ'.set i (some (.ref a))) (upd H' a (isExc a D'))))) D σ H
theorem ps_tryAs2 (hstk : X.stack = X.env :: X.outer) (hfr : X.env.frame = some X.env.locals) (hex : X.ex = []) (hcalm : X.calm = true) (hg : Gl X x) (hm : X.mg x = some (.ref C)) (hC : ExcC X.K C) (hg2 : Gl X x2) (hm2 : X.mg x2 = some (.ref C2)) (hC2 : ExcC X.K C2) (hN : X.N.Nodup) (hi : X.N[i]? = some n) (hl : X.env.scope.names.lookup n = some .local)
    (hb : ∀ (xe : Value → Shared → Prop) (pn : List (Addr × Obj)) (E1 : XK), PassesS (CXE X.prog X.w) { X with xe := xe, pn := pn } E1 S → PSs { X with xe := xe, pn := pn } body (tb E1))
    (hth : ∀ (a : Addr), PSs { X with A := X.A.mark (some (.ref a)), calm := false, xe := fun _ _ => False, pn := X.pn } (b₀ :: suite) th) (hth2 : ∀ (a : Addr), PSs { X with A := X.A.mark (some (.ref a)), calm := false, xe := fun _ _ => False, pn := X.pn } (b2 :: suite2) th2) (hdb : (x == ("__debug__" : Str)) = false := by decide) (hdb2 : (x2 == ("__debug__" : Str)) = false := by decide) :
    PS X (.Try body [.ExceptHandler (some (.Name x np)) (some n) (b₀ :: suite) hpos, .ExceptHandler (some (.Name x2 np2)) (some n) (b2 :: suite2) hpos2] [] [] pos) (tTryAs2 X.K C C2 i S tb th th2) := by
  intro pins s σ H D I h
  refine wpAny_Try_except ?_
  have I1 : Inv { X with xe := tryXe X pins D [.ExceptHandler (some (.Name x np)) (some n) (b₀ :: suite) hpos, .ExceptHandler (some (.Name x2 np2)) (some n) (b2 :: suite2) hpos2], pn := X.pn ++ pins } [] σ H s :=
    I.re I.ok.hd rfl (fun p z => by simpa using z)
  refine wpAny_mono (hb (tryXe X pins D [.ExceptHandler (some (.Name x np)) (some n) (b₀ :: suite) hpos, .ExceptHandler (some (.Name x2 np2)) (some n) (b2 :: suite2) hpos2]) (X.pn ++ pins) _ ?pass [] s σ H D I1 h) (fun f s1 q => ?_) (fun e s1 q => q)
  case pass =>
    intro pins' σ' H1 s1 e s' hS J hcx
    refine land2 (pins := pins) hstk hfr hex hg hm hC hg2 hm2 hC2 hcalm (fun cls d H' ⟨D', z, a, b⟩ => ⟨D', z, a, b.imp (·.1) (·.1)⟩) J hcx (fun a D' H' s2 _ hM hE ha ho g0 gb nL nC nP nF J5 hset => ?_) (fun a D' H' s2 _ hM hE ha ho g0 gb nL nC nP nF J5 hset => ?_) hdb hdb2
    · obtain ⟨D2, z, _, k⟩ := hE
      cases z
      have k := (k.resolve_right (fun q => by rw [hM] at q; cases q.1.1)).2
      refine codeAny_handlers_suite_as (hset _ _ fun s3 J3 L3 => ?_)
      obtain ⟨o3, e3, c3, n3⟩ := L3
      have J4 := J3.track (o := isExc a D') ha g0 gb nL nC nP nF (isExc_ok e3 c3 n3)
      refine store_ok J4 hN hi (.inl hl) (v := .ref a) rfl (fun s4 K4 => ?_) (.inr hl)
      have J6 : Inv { X with A := X.A.mark (some (.ref a)), calm := false, xe := fun _ _ => False, pn := X.pn } pins (σ'.set i (some (.ref a))) (upd H' a (isExc a D')) s4 := K4.re (fun z => nomatch z) rfl (fun _ z => z)
      refine wpAny_mono (hth a pins s4 _ _ _ J6 (k σ' a hS ha)) (fun f s5 q => ?_) (fun _ _ z => z.elim)
      have gone : ∀ {σ5 : St} {H5 : Hp}, Inv { X with A := X.A.mark (some (.ref a)), calm := false, xe := fun _ _ => False, pn := X.pn } pins σ5 H5 s5 → ∀ {Q : Unit → Shared → Prop}, (∀ s6, Inv X pins (σ5.set i none) H5 s6 → Q () s6) →
          wpAny (model X.prog X.w) X.A (do bindName X.env n .none; unbindBehindTheSuite X.env n hpos) Q X.xe s5 := fun {σ5 H5} J7 Q hq => by
        have J8 : Inv X pins σ5 H5 s5 := J7.un_re J3.ok.hd rfl (fun _ z => z)
        obtain ⟨m, hn, hl0⟩ := id J8.loc
        exact wpAny_nameGoes_keeps hl hn (by rw [J8.ok.kind]; rfl) fun h' v hn' sb => hq _ (J8.gone hN hi hl hl0 hn' sb)
      cases f with
      | next => obtain ⟨σ5, H5, J7, q⟩ := q; exact gone J7 fun s6 J8 => ⟨_, H5, J8, q⟩
      | brk => obtain ⟨σ5, H5, J7, q⟩ := q; exact gone J7 fun s6 J8 => ⟨_, H5, J8, q⟩
      | cont => obtain ⟨σ5, H5, J7, q⟩ := q; exact gone J7 fun s6 J8 => ⟨_, H5, J8, q⟩
      | ret u => obtain ⟨v, σ5, H5, J7, r, q⟩ := q; exact gone J7 fun s6 J8 => ⟨v, _, H5, J8, r, q⟩
    · obtain ⟨D2, z, _, k⟩ := hE
      cases z
      have k := (k.resolve_left (fun q => by rw [hM] at q; cases q.1)).2
      refine codeAny_handlers_suite_as (hset _ _ fun s3 J3 L3 => ?_)
      obtain ⟨o3, e3, c3, n3⟩ := L3
      have J4 := J3.track (o := isExc a D') ha g0 gb nL nC nP nF (isExc_ok e3 c3 n3)
      refine store_ok J4 hN hi (.inl hl) (v := .ref a) rfl (fun s4 K4 => ?_) (.inr hl)
      have J6 : Inv { X with A := X.A.mark (some (.ref a)), calm := false, xe := fun _ _ => False, pn := X.pn } pins (σ'.set i (some (.ref a))) (upd H' a (isExc a D')) s4 := K4.re (fun z => nomatch z) rfl (fun _ z => z)
      refine wpAny_mono (hth2 a pins s4 _ _ _ J6 (k σ' a hS ha)) (fun f s5 q => ?_) (fun _ _ z => z.elim)
      have gone : ∀ {σ5 : St} {H5 : Hp}, Inv { X with A := X.A.mark (some (.ref a)), calm := false, xe := fun _ _ => False, pn := X.pn } pins σ5 H5 s5 → ∀ {Q : Unit → Shared → Prop}, (∀ s6, Inv X pins (σ5.set i none) H5 s6 → Q () s6) →
          wpAny (model X.prog X.w) X.A (do bindName X.env n .none; unbindBehindTheSuite X.env n hpos2) Q X.xe s5 := fun {σ5 H5} J7 Q hq => by
        have J8 : Inv X pins σ5 H5 s5 := J7.un_re J3.ok.hd rfl (fun _ z => z)
        obtain ⟨m, hn, hl0⟩ := id J8.loc
        exact wpAny_nameGoes_keeps hl hn (by rw [J8.ok.kind]; rfl) fun h' v hn' sb => hq _ (J8.gone hN hi hl hl0 hn' sb)
      cases f with
      | next => obtain ⟨σ5, H5, J7, q⟩ := q; exact gone J7 fun s6 J8 => ⟨_, H5, J8, q⟩
      | brk => obtain ⟨σ5, H5, J7, q⟩ := q; exact gone J7 fun s6 J8 => ⟨_, H5, J8, q⟩
      | cont => obtain ⟨σ5, H5, J7, q⟩ := q; exact gone J7 fun s6 J8 => ⟨_, H5, J8, q⟩
      | ret u => obtain ⟨v, σ5, H5, J7, r, q⟩ := q; exact gone J7 fun s6 J8 => ⟨v, _, H5, J8, r, q⟩
  have back : ∀ σ H, Inv { X with xe := tryXe X pins D [.ExceptHandler (some (.Name x np)) (some n) (b₀ :: suite) hpos, .ExceptHandler (some (.Name x2 np2)) (some n) (b2 :: suite2) hpos2], pn := X.pn ++ pins } [] σ H s1 → Inv X pins σ H s1 :=
    fun σ H J => J.un_re J.ok.hd rfl (fun p z => by simpa using z)
  cases f with
  | next => exact wpAny_execs_nil (q.map back)
  | brk => exact q.map back
  | cont => exact q.map back
  | ret u => exact q.map back
end
end L2

set_option Elab.async false
set_option linter.all false
set_option maxRecDepth 100000
/-! Lambdas over the hand layer: made in a def, run by a def that they are handed to. -/
namespace L2
open PySem PySem.Spec PyProof.Rows

/-! ### what is known of a lambda's object, of its code, of the table of the def's code -/
/-! ### a lambda is made -/
section
variable {X : Cx} {params : Arguments} {body : Expr} {scope : Scope} {pos : Pos} {c Pt : Addr} {N : List Str} {cs : List Nat}
end

/-! ### a lambda runs -/
section
variable {P : Program} {w : World} {K : PySem.W.Frag} {mg : Str → Option Value} {base : Heap} {N : List Str} {env : Env} {A : Around} {outer : List Env} {s : Shared} {H : Hp} {E : XK}
end
section
variable {X : Cx} {params : Arguments} {body : Expr} {scope : Scope} {N : List Str} {cs : List Nat} {k : Nat} {p c : Addr} {ct : Value} {sp : VK → XK → Prop}
end

/-! ### a def whose promise speaks of the state it is called in -/
section
variable {P : Program} {w : World} {K : PySem.W.Frag} {mg : Str → Option Value} {base : Heap}
end

/-! ### such a def is called; a deed that stands in a name is done -/
section
variable {X : Cx} {k : Nat} {f : Addr} {fd : FuncData} {ps : List Str} {sp : SpS} {x : Str} {p pos : Pos} {e : Expr} {es : List Expr} {t : TA}
end
end L2

set_option Elab.async false
set_option linter.all false
set_option maxRecDepth 100000
/-! Lists of truths alike; a def that runs a deed, as its callers know it; the law's head where defs of the law make lambdas. -/
namespace L2
open PySem PySem.Spec PyProof.Rows
section
variable {X : Cx}
end
/-! ### the law's head, the tables of the defs that make lambdas laid aside -/
end L2

set_option Elab.async false
set_option linter.all false
set_option maxRecDepth 100000
/-! A comprehension whose element may refuse, in a def that may refuse. -/
namespace L2
open PySem PySem.Spec PyProof.Rows
theorem note_same {e : Value} {env env2 : Env} (h : env2.frame = env.frame) : noteFrame e env2 = noteFrame e env := by
  unfold noteFrame PySem.frameOf
  rw [h]
theorem frames_but {base h h' : Heap} {C : Addr} (sb : Heap.SameBut C h h') : ∀ {l : List Env}, C ∉ frs l → h.FunFrames base l → h'.FunFrames base l
  | [], _, _ => trivial
  | env :: r, n, ⟨hk, ⟨L, o, hf, hn, ho, hd⟩, hr⟩ => by
    have e : frs (env :: r) = L :: frs r := by
      unfold frs
      rw [List.filterMap_cons, hf]
    rw [e] at n
    exact ⟨hk, ⟨L, o, hf, hn, (sb.2 L (fun z => n (by rw [z]; exact List.mem_cons_self))).trans ho, hd⟩, frames_but sb (fun z => n (List.mem_cons_of_mem _ z)) hr⟩
theorem thnE {α : Type} {M : Model} {A : Around} {m : Sem α} {Q Q' : α → Shared → Prop} {E : Value → Shared → Prop} {s : Shared} (h : wpAny M A m Q E s) (k : ∀ a s', Q a s' → Q' a s') : wpAny M A m Q' E s := wpAny_mono h k fun _ _ q => q
theorem thnF {α : Type} {M : Model} {A : Around} {m : Sem α} {Q Q' : α → Shared → Prop} {E : Value → Shared → Prop} {s : Shared} (h : wpAny M A m Q (fun _ _ => False) s) (k : ∀ a s', Q a s' → Q' a s') : wpAny M A m Q' E s := wpAny_mono h k fun _ _ q => q.elim
/-- the block's context, with a wish of its own -/
def cxCE (X : Cx) (scope : Scope) (N : List Str) (s : Shared) (H : Hp) (ex : List Addr) (XE : Value → Shared → Prop) : Cx := { cxC X scope N s H ex with xe := XE }
section
variable {X : Cx} {scope : Scope} {N : List Str} {sD : Shared} {H2 : Hp} {ex : List Addr} {XE : Value → Shared → Prop}
theorem toCE {pins : List (Addr × Obj)} {σ : St} {H : Hp} {s : Shared} (I : Inv (cxC X scope N sD H2 ex) pins σ H s) : Inv (cxCE X scope N sD H2 ex XE) pins σ H s :=
  Inv.re (A2 := (cxC X scope N sD H2 ex).A) (c2 := (cxC X scope N sD H2 ex).calm) (xe2 := XE) (pn2 := (cxC X scope N sD H2 ex).pn) I I.ok.hd rfl fun _ z => z
theorem ofCE {pins : List (Addr × Obj)} {σ : St} {H : Hp} {s : Shared} (I : Inv (cxCE X scope N sD H2 ex XE) pins σ H s) : Inv (cxC X scope N sD H2 ex) pins σ H s :=
  Inv.un_re (X := cxC X scope N sD H2 ex) (A2 := (cxC X scope N sD H2 ex).A) (c2 := (cxC X scope N sD H2 ex).calm) (xe2 := XE) (pn2 := (cxC X scope N sD H2 ex).pn) I I.ok.hd rfl fun _ z => z
end
section
variable {prog : Program} {w : World} {A : Around} {R : Result → Shared → Prop} {s : Shared}
theorem compLoop_goE {XE : Value → Shared → Prop} {elt target iter : Expr} {ifs : List Expr} {scope : Scope} {pos : Pos} {it acc : Value} {env : Env} (hXE : ∀ e s, XE e s → notedBy (model prog w) A env (fun x s' => R (.error x) s') e s) (I : Nat → Shared → Prop)
    (turn : ∀ n s, I n s → wpAny (model prog w) A (pyNext it) (fun r s₁ => match r with
      | none => R (.ok .next) s₁
      | some v => wpAny (model prog w) A (letOwnedTupleGo target it v) (fun _ s₀ => wpAny (model prog w) A (assign target env v) (fun _ s₂ =>
          wpAny (model prog w) A (testsOf ifs env) (fun ok s₃ =>
            if ok = true then wpAny (model prog w) A (eval elt env) (fun x s₄ =>
              wpAny (model prog w) A (call (.builtin "list.append") [acc, x]) (fun _ s₅ => ∃ m, m < n ∧ I m s₅) XE s₄) XE s₃
            else ∃ m, m < n ∧ I m s₃) XE s₂) XE s₀) XE s₁) XE s)
    (n : Nat) (h : I n s) : codeAny (model prog w) A (.compLoop (.ListComp elt [⟨target, iter, ifs, 0⟩] scope pos) 0 it acc env) R s := by
  refine codeAny_loop rfl I (fun n s hI => ?_) n h
  show wpAny _ A ((compTurn (.ListComp elt [⟨target, iter, ifs, 0⟩] scope pos) 0 it acc env).onRaise (fun x => do noteFrame x env; theTreesLotGoes x)) _ _ s
  refine wpAny_noted (wpAny_mono ?_ (fun _ _ q => q) hXE)
  rw [compTurn_list]
  refine wpAny_bind (wpAny_standAt (wpAny_bind (wpAny_mono (turn n s hI) (fun r s₁ h₁ => ?_) fun _ _ h' => h')))
  cases r with
  | none => exact wpAny_pure h₁
  | some v =>
    refine wpAny_bind (wpAny_mono h₁ (fun _ s₀ h₀ => ?_) fun _ _ h' => h')
    refine wpAny_bind (wpAny_mono h₀ (fun _ s₂ h₂ => wpAny_bind (wpAny_mono h₂ (fun ok s₃ h₃ => ?_) fun _ _ h' => h')) fun _ _ h' => h')
    cases ok with
    | false => exact wpAny_pure ⟨rfl, h₃⟩
    | true =>
      exact wpAny_bind (wpAny_bind (wpAny_mono h₃ (fun x s₄ h₄ => wpAny_bind (wpAny_mono h₄ (fun _ s₅ h₅ => wpAny_pure (wpAny_pure ⟨rfl, h₅⟩)) fun _ _ h' => h')) fun _ _ h' => h'))
end
section
variable {X : Cx} {tg iter elt : Expr} {ifs : List Expr} {scope : Scope} {pos : Pos} {wi : TI} {g : TG} {tc : TT} {te : TE} {N : List Str} {k : Nat} {cs : List Nat} {fin : List V → Hp → Prop}
theorem comp_loopE {pins : List (Addr × Obj)} {σ : St} {H2 : Hp} {sD s1 : Shared} {it D : Addr} {fp : List Addr} {tn : Nat → Heap → Prop} {J : It} {n0 : Nat} {RR : Result → Shared → Prop} {XE : Value → Shared → Prop} (hc : X.calm = true) (S : CScope X scope N k cs)
    (hg : ∀ s H ex, PG (cxC X scope N s H ex) tg g) (ht : ∀ s H ex, PTs (cxC X scope N s H ex) ifs tc) (he : PE (cxCE X scope N sD H2 (D :: fp) XE) elt te) (hXE : ∀ e s, XE e s → notedBy (model X.prog X.w) X.A (compEnvC scope (clOf X.env scope.names) sD.heap.objs.size X.env) (fun x s' => RR (.error x) s') e s)
    (ID : Inv X pins σ H2 sD) (hD : sD.heap.get? D = some { cls := .type "list", data := .seq ([] : List Value).toArray n0 }) (hD0 : X.s₀.heap.objs.size ≤ D) (fD : FpOk X pins H2 D) (nfp : D ∉ fp)
    (T : Turn X.prog X.w X.K tg J fp it tn) (st : tn 0 sD.heap) (f2 : ∀ b ∈ fp, FpOk X pins H2 b) (hb : tBlock k cs g tc te J σ H2 fin)
    (hos : s1.os = sD.os) (hgn : AllBare s1.gens) (hk : ∀ b o, sD.heap.get? b = some o → s1.heap.get? b = some o) (hn : ∃ m, s1.heap.Ns sD.heap.objs.size m)
    (hRR : ∀ (H' : Hp) (acc : List V) (s4 : Shared), fin acc H' → H' D = none → Inv X pins σ (upd H' D (.lst acc)) s4 → (∃ m, s4.heap.Ns sD.heap.objs.size m) → FpOk X pins (upd H' D (.lst acc)) sD.heap.objs.size → RR (.ok .next) s4) :
    codeAny (model X.prog X.w) X.A (.compLoop (.ListComp elt [⟨tg, iter, ifs, 0⟩] scope pos) 0 (.ref it) (.ref D) (compEnvC scope (clOf X.env scope.names) sD.heap.objs.size X.env)) RR s1 := by
  obtain ⟨W, ⟨m0, w0⟩, turn⟩ := hb
  have hobj : ∀ b, b ∈ D :: fp → ∃ o, sD.heap.get? b = some o := fun b hb => by
    rcases List.mem_cons.mp hb with rfl | z
    · exact ⟨_, hD⟩
    · obtain ⟨o, e, _⟩ := T.obj _ _ st b z
      exact ⟨o, e⟩
  have hexx : ∀ b ∈ D :: fp, FpOk X pins H2 b ∧ ∃ o, sD.heap.get? b = some o := fun b hb => ⟨by
    rcases List.mem_cons.mp hb with rfl | z
    · exact fD
    · exact f2 b z, hobj b hb⟩
  have neC : ∀ b, b ∈ D :: fp → b ≠ sD.heap.objs.size := fun b hb z => by
    obtain ⟨o, e⟩ := hobj b hb
    exact absurd (Heap.lt_size e) (by rw [z]; exact Nat.lt_irrefl _)
  have nfr : ∀ b, b ∈ D :: fp → b ∉ frs X.stack := fun b hb hf => by
    rcases List.mem_cons.mp (ID.stkSub b hf) with z | z
    · exact (hexx b hb).1.2.1 z
    · exact (hexx b hb).1.2.2.1 z
  have I0 := ID.block hc S hexx hos hgn hk hn
  have I0ok := I0.ok
  have cells : ∀ b, b ∈ D :: fp → ∀ x c, (clOf X.env scope.names).lookup x = some c → c ≠ b := fun b hb x c h => (I0ok.exf b hb).2 x c h
  have fpok : ∀ {H' : Hp} {pl : List (Addr × Obj)}, (∀ b ∈ fp, H' b = none) → (∀ p ∈ pl, p.1 = D) → ∀ b ∈ fp, FpOk (cxC X scope N sD H2 (D :: fp)) pl H' b := fun hn hp b hb =>
    ⟨hn b hb, neC b (.tail _ hb), nfr b (.tail _ hb), .inl (.tail _ hb), cells b (.tail _ hb), fun p hp' z => nfp (by
      have := hp p hp'
      rw [← this, z]; exact hb)⟩
  refine compLoop_goE hXE (fun n s' => ∃ (i : Nat) (acc : List V) (its : List Value) (nn : Nat) (H' : Hp), Inv (cxC X scope N sD H2 (D :: fp)) [] (List.replicate k none ++ caps cs σ) H' s' ∧ tn i s'.heap ∧ (∀ b ∈ fp, H' b = none) ∧ H' D = none ∧ acc.length ≤ sizeLine ∧ Vals acc its ∧
    s'.heap.get? D = some { cls := .type "list", data := .seq its.toArray nn } ∧ W i n acc H') ?_ m0
    ⟨0, [], [], n0, H2, I0, T.keep _ _ _ st (fun b _ o e => hk b o e), fun b hb => (f2 b hb).1, fD.1, Nat.zero_le _, .nil, hk _ _ hD, w0⟩
  rintro n s3 ⟨i, acc, its, nn, H3, I3, st3, fr3, nD3, hl3, v3, e3, w3⟩
  have I3p : Inv (cxC X scope N sD H2 (D :: fp)) [(D, { cls := .type "list", data := .seq its.toArray nn })] (List.replicate k none ++ caps cs σ) H3 s3 := I3.pins_of fun p hp => by
    rw [List.mem_singleton] at hp
    subst hp
    exact ⟨e3, nD3, neC D (.head _), nfr D (.head _), fun v z => by cases z⟩
  have one : ∀ p ∈ [((D, { cls := .type "list", data := .seq its.toArray nn }) : Addr × Obj)], p.1 = D := fun p hp => by
    rw [List.mem_singleton] at hp
    subst hp
    rfl
  rcases turn i n acc H3 w3 with ⟨stop, qf⟩ | ⟨go, Nx, hNx, step⟩
  · refine thnE (T.done (cxC X scope N sD H2 (D :: fp)) rfl rfl rfl hc i _ s3 _ H3 XE I3p (fpok fr3 one) st3 stop) fun r s4 ⟨hr, I4⟩ => ?_
    subst hr
    have IX : Inv X pins σ H3 s4 := ID.call' (ch := D :: fp) I4.os I4.base I4.hok I4.bare fun b hb => ⟨(hexx b hb).1.2.2.2.1, (hexx b hb).1.2.1, (hexx b hb).1.2.2.2.2.1, (hexx b hb).1.2.2.2.2.2⟩
    have p4 := (I4.pin (D, { cls := .type "list", data := .seq its.toArray nn }) (by show _ ∈ [] ++ [_]; simp)).1
    have IY : Inv X pins σ (upd H3 D (.lst acc)) s4 := by
      refine IX.track nD3 (Heap.get?_none_of_le hD0) (Heap.get?_none_of_le (Nat.le_trans ID.ok.bsz hD0)) (Ne.symm fD.2.1) fD.2.2.2.2.1 fD.2.2.2.2.2 (fun b hb z => fD.2.2.1 (z ▸ hb)) ?_
      exact ⟨hl3, its, nn, v3, p4⟩
    refine hRR H3 acc s4 qf nD3 IY ?_ (ID.fpOk (Nat.le_refl _) ?_)
    · obtain ⟨m, hm, _⟩ := I4.loc
      exact ⟨m, hm⟩
    · rw [upd_ne (Ne.symm (neC D (.head _)))]
      exact I4.free
  · refine thnE (T.item (cxC X scope N sD H2 (D :: fp)) rfl rfl rfl hc i _ s3 _ H3 XE I3p (fpok fr3 one) st3 go) fun r s4 ⟨u, hr, h4⟩ => ?_
    subst hr
    refine thnE h4 fun _ s5 ⟨x, H5, I5, r5, y5, st5, fr5⟩ => ?_
    have I5' := I5.pinned (fpok fr5 one) (T.obj _ _ st5)
    refine thnF (hg sD H2 (D :: fp) _ s5 _ H5 x u _ I5' r5 (step x H5 y5)) fun _ s6 ⟨σ6, H6, I6, ⟨ts, tl, eσ⟩, hz6, q6⟩ => ?_
    refine thnF (ht sD H2 (D :: fp) _ s6 σ6 H6 _ I6 q6) fun b s7 ⟨H7, I7, q7⟩ => ?_
    have weak : ∀ {pl : List (Addr × Obj)} {H' : Hp} {s' : Shared}, Inv (cxC X scope N sD H2 (D :: fp)) pl σ6 H' s' → Inv (cxC X scope N sD H2 (D :: fp)) [] (List.replicate k none ++ caps cs σ) H' s' := fun {pl H' s'} J => by
      refine (J.weak (σ' := List.replicate k none ++ caps cs σ) ?_ fun j v e => ?_).pins_of fun p hp => absurd hp (by simp)
      · rw [eσ, List.length_append, List.length_append, List.length_replicate, tl]
      · by_cases z : j < k
        · rw [List.getElem?_append_left (by simpa using z), List.getElem?_replicate, if_pos z] at e
          cases e
        · rw [List.getElem?_append_right (by rw [List.length_replicate]; lia), List.length_replicate] at e
          rw [eσ, List.getElem?_append_right (by lia), tl]
          exact e
    -- the walked records stand since s5
    have later : ∀ {pl : List (Addr × Obj)} {σ' : St} {H' : Hp} {s' : Shared}, Inv (cxC X scope N sD H2 (D :: fp)) (pl ++ pinsAt fp s5.heap) σ' H' s' → tn (i + 1) s'.heap ∧ ∀ b ∈ fp, H' b = none := fun {pl σ' H' s'} J =>
      ⟨T.keep _ _ _ st5 fun b hb o e => (J.pin (b, o) (List.mem_append_right _ (List.mem_append_right _ (mem_pinsAt hb e)))).1, fun b hb => by
        obtain ⟨o, e, _⟩ := T.obj _ _ st5 b hb
        exact (J.pin (b, o) (List.mem_append_right _ (List.mem_append_right _ (mem_pinsAt hb e)))).2.1⟩
    cases b with
    | false =>
      have q7' : Nx acc H7 := by simpa using q7
      obtain ⟨m', hm, w7⟩ := hNx _ _ q7'
      rw [if_neg Bool.false_ne_true]
      have p7 := I7.pin (D, { cls := .type "list", data := .seq its.toArray nn }) (List.mem_append_right _ (List.mem_append_left _ (List.mem_singleton.mpr rfl)))
      exact ⟨m', hm, i + 1, acc, its, nn, H7, weak I7, (later I7).1, (later I7).2, p7.2.1, hl3, v3, p7.1, w7⟩
    | true =>
      rw [if_pos rfl] at q7
      rw [if_pos rfl]
      refine thnE (he _ s7 σ6 H7 _ (toCE I7) q7) fun y s8 ⟨v, H8, I8, r8, q8⟩ => ?_
      have I8 := ofCE I8
      obtain ⟨m', hm, w8⟩ := hNx _ _ q8
      have p8 := I8.pin (D, { cls := .type "list", data := .seq its.toArray nn }) (List.mem_append_right _ (List.mem_append_left _ (List.mem_singleton.mpr rfl)))
      have hlen := v3.length
      refine call_meets F.slot_list_append ⟨_, p8.1, rfl⟩ F.entry_list_append (F.args_list_append_2 _ _) (PySem.list_append D its.toArray nn y (by rw [List.size_toArray]; lia)) ⟨p8.1, ?_⟩
      have q := PySem.IsL.update p8.1 (·.push y)
      have eq : its.toArray.push y = (its ++ [y]).toArray := by simp
      dsimp only at q
      rw [eq] at q
      have I8' : Inv (cxC X scope N sD H2 (D :: fp)) ([] ++ pinsAt fp s5.heap) σ6 H8 s8 := I8.pins_of fun p hp => I8.pin p (List.mem_append_right _ (List.mem_append_right _ hp))
      have I9 := I8'.turned (t' := s8.toks) (it := D) (h' := s8.heap.update D (Obj.mapSeq (·.push y))) (fun b o hb e => (Heap.get?_update_other s8.heap (Obj.mapSeq (·.push y)) (Ne.symm hb)).trans e) p8.2.1 (neC D (.head _)) (.inl (.head _)) (cells D (.head _))
        (fun p hp z => nfp (by
          have := (of_pinsAt (fp := fp) (h := s5.heap) (p := p) (by simpa [cxC] using hp)).1
          rw [z] at this
          exact this))
      refine ⟨m', hm, i + 1, acc ++ [v], its ++ [y], _, H8, weak I9, (later I9).1, (later I9).2, p8.2.1, ?_, v3.append (.cons r8 .nil), q, w8⟩
      rw [List.length_append, List.length_singleton]
      lia
theorem comp_blockE {pins : List (Addr × Obj)} {σ : St} {H2 : Hp} {s2 : Shared} {it : Addr} {fp : List Addr} {tn : Nat → Heap → Prop} {J : It} {RR : Value → Env → Result → Shared → Prop} {E : Value → Shared → Prop} (hc : X.calm = true) (S : CScope X scope N k cs)
    (hg : ∀ s H ex, PG (cxC X scope N s H ex) tg g) (ht : ∀ s H ex, PTs (cxC X scope N s H ex) ifs tc) (he : ∀ (sD : Shared) (D : Addr), Inv X pins σ H2 sD → (∀ b ∈ D :: fp, FpOk X pins H2 b) → ∃ XE : Value → Shared → Prop, PE (cxCE X scope N sD H2 (D :: fp) XE) elt te ∧ ∀ e s, XE e s → notedBy (model X.prog X.w) X.A (compEnvC scope (clOf X.env scope.names) sD.heap.objs.size X.env) (fun x s' => RR (.ref D) (compEnvC scope (clOf X.env scope.names) sD.heap.objs.size X.env) (.error x) s') e s)
    (I2 : Inv X pins σ H2 s2) (T : Turn X.prog X.w X.K tg J fp it tn) (st : tn 0 s2.heap) (f2 : ∀ b ∈ fp, FpOk X pins H2 b) (hb : tBlock k cs g tc te J σ H2 fin)
    (hRR : ∀ (D : Addr) (cenv : Env) (H' : Hp) (acc : List V) (s4 : Shared), fin acc H' → H' D = none → Inv X pins σ (upd H' D (.lst acc)) s4 → (∃ m, s4.heap.Ns cenv.locals m) → FpOk X pins (upd H' D (.lst acc)) cenv.locals → RR (.ref D) cenv (.ok .next) s4) :
    wpAny (model X.prog X.w) X.A (newList []) (fun acc s₃ => wpAny (model X.prog X.w) X.A (newFunctionEnv scope X.env.globals (clOf X.env scope.names) [] X.env.qual none .none (some X.env)) (fun cenv s₄ =>
      codeAny (model X.prog X.w) X.A (.compStart (.ListComp elt [⟨tg, iter, ifs, 0⟩] scope pos) 0 (.ref it) acc { cenv with scope := relabel scope X.env }) (RR acc { cenv with scope := relabel scope X.env }) s₄) E s₃) E s2 := by
  refine wpAny_newObj_type (wpAny_newFunctionEnv S.cell (by intro y hy; simp at hy) (fun h₁ hns₁ hsb₁ => ?_) S.kind)
  dsimp only at hns₁ hsb₁ ⊢
  have keepD : ∀ b o, s2.heap.get? b = some o → (s2.heap.push { cls := .type "list", dict := none, data := .seq ([] : List Value).toArray }).get? b = some o := fun b o e => Heap.get?_push_of_some _ e
  have ID : Inv X pins σ H2 { s2 with heap := s2.heap.push { cls := .type "list", dict := none, data := .seq ([] : List Value).toArray } } := I2.kept (t' := s2.toks) keepD
  have hD : (s2.heap.push { cls := .type "list", dict := none, data := .seq ([] : List Value).toArray }).get? s2.heap.objs.size = some { cls := .type "list", data := .seq ([] : List Value).toArray } := Heap.get?_push_size _ rfl
  have nfp : s2.heap.objs.size ∉ fp := fun z => by
    obtain ⟨o, e, _⟩ := T.obj _ _ st _ z
    exact absurd (Heap.lt_size e) (Nat.lt_irrefl _)
  have stD : tn 0 (s2.heap.push { cls := .type "list", dict := none, data := .seq ([] : List Value).toArray }) := T.keep _ _ _ st fun b _ o e => keepD b o e
  have hk : ∀ b o, (s2.heap.push { cls := .type "list", dict := none, data := .seq ([] : List Value).toArray }).get? b = some o → h₁.get? b = some o := fun b o e => hsb₁.extBut b o (Nat.ne_of_lt (Heap.lt_size e)) (Heap.get?_push_of_some _ e)
  have loop : ∀ s₃ : Shared, s₃ = { s2 with heap := h₁, toks := s2.toks + ([] : List (Str × Value)).length } →
      codeAny (model X.prog X.w) X.A (.compLoop (.ListComp elt [⟨tg, iter, ifs, 0⟩] scope pos) 0 (.ref it) (.ref s2.heap.objs.size) (compEnvC scope (clOf X.env scope.names) (s2.heap.push { cls := .type "list", dict := none, data := .seq ([] : List Value).toArray }).objs.size X.env))
        (RR (.ref s2.heap.objs.size) (compEnvC scope (clOf X.env scope.names) (s2.heap.push { cls := .type "list", dict := none, data := .seq ([] : List Value).toArray }).objs.size X.env)) s₃ := by
    rintro s₃ rfl
    obtain ⟨XE, he1, he2⟩ := he { s2 with heap := s2.heap.push { cls := .type "list", dict := none, data := .seq ([] : List Value).toArray } } s2.heap.objs.size ID (fun b hb => by
      rcases List.mem_cons.mp hb with rfl | z
      · exact I2.fpOk (Nat.le_refl _) I2.fresh
      · exact f2 b z)
    exact comp_loopE (sD := { s2 with heap := s2.heap.push { cls := .type "list", dict := none, data := .seq ([] : List Value).toArray } }) hc S hg ht he1 he2 ID hD I2.sz (I2.fpOk (Nat.le_refl _) I2.fresh) nfp T stD f2 hb rfl I2.bare hk ⟨_, hns₁⟩ fun H' acc s4 => hRR _ (compEnvC scope (clOf X.env scope.names) (s2.heap.push { cls := .type "list", dict := none, data := .seq ([] : List Value).toArray }).objs.size X.env) H' acc s4
  exact codeAny_compStart_list (loop _ rfl) (T.self _ 0 _ _ _ (T.keep _ _ _ stD fun b _ o e => hk b o e) (loop _ rfl))
end
/-- how a comprehension ends: its list, or the refusal, its own names let go -/
def endsF (M : Model) (A : Around) (E : Value → Shared → Prop) (Q : Value → Shared → Prop) (acc : Value) (cenv : Env) : Result → Shared → Prop
  | .ok _, s' => ∃ m, s'.heap.Ns cenv.locals m ∧ ∀ h', Heap.SameBut cenv.locals s'.heap h' → Q acc { s' with heap := h' }
  | .error x, s' => ∃ m, s'.heap.Ns cenv.locals m ∧ ∀ h', Heap.SameBut cenv.locals s'.heap h' → wpAny M A (PySem.passOn "comprehension.variables-let-go" x cenv : Sem Value) (fun _ _ => False) E { s' with heap := h' }
theorem comp_open {M : Model} {A : Around} {E : Value → Shared → Prop} {s : Shared} {env : Env} {e : Expr} {scope : Scope} {pos : Pos} {mk fst : Sem Value} {c₀ : Comprehension} {cr : List Comprehension} {cl : List (Str × Addr)} {Q : Value → Shared → Prop}
    (h1 : clausesOf e = c₀ :: cr) (h2 : ∀ x, foldedSetIterable c₀.iter env x = pure x) (h3 : closureFor scope env = pure cl) (h4 : scope.kind = .function) (h5 : ∀ y ∈ scope.names, y.2 = .local → scope.names.lookup y.1 = some .local)
    (h : wpAny M A fst (fun v s1 => wpAny M A (pyIter v) (fun it s2 => wpAny M A mk (fun acc s3 => wpAny M A (newFunctionEnv scope env.globals cl [] env.qual none .none (some env)) (fun cenv s4 =>
        codeAny M A (.compStart e 0 it acc { cenv with scope := relabel scope env }) (endsF M A E Q acc { cenv with scope := relabel scope env }) s4) E s3) E s2) E s1) E s) :
    wpAny M A (comprehension e scope env pos mk false fst none) Q E s := by
  unfold comprehension
  rw [h3, h1]
  refine wpAny_bind ?_
  refine wpAny_mono h (fun v s1 k1 => ?_) (fun _ _ q => q)
  refine wpAny_bind ?_
  refine wpAny_standAt ?_
  refine wpAny_bind ?_
  refine wpAny_of_eq (h2 v) ?_
  refine wpAny_bind ?_
  refine wpAny_holding ?_
  refine wpAny_mono k1 (fun it s2 k2 => ?_) (fun _ _ q => q)
  refine wpAny_standIf ?_
  refine wpAny_bind ?_
  refine wpAny_mono k2 (fun acc s3 k3 => ?_) (fun _ _ q => q)
  refine wpAny_bind ?_
  refine wpAny_pure ?_
  refine wpAny_bind ?_
  refine wpAny_mono k3 (fun cenv s4 k4 => ?_) (fun _ _ q => q)
  dsimp only
  have own : ∀ y ∈ (scope.names.filter fun y => (y.2 == .local || y.2 == .cell) && y.1 != (".0" : Str)).reverse, y.2 = .local → Env.kindOf { cenv with scope := relabel scope env } y.1 = some .local := fun y hy hl =>
    lookup_relabel_local (h5 y (List.mem_filter.mp (List.mem_reverse.mp hy)).1 hl)
  refine wpAny_holding ?_
  refine wpAny_bind ?_
  refine wpAny_attempt ?_
  refine wpAny_holding ?_
  refine wpAny_run ?_
  refine codeAny_mono k4 fun r s5 k5 => ?_
  cases r with
  | ok fl =>
    obtain ⟨m, hn, q⟩ := k5
    refine wpAny_bind ?_
    refine wpAny_holding ?_
    refine wpAny_comp_letGo (cenv := { cenv with scope := relabel scope env }) h4 _ s5 m own hn ?_
    exact fun h' _ _ sb => wpAny_pure (q h' sb)
  | error x =>
    obtain ⟨m, hn, q⟩ := k5
    refine wpAny_bind ?_
    refine wpAny_holding ?_
    refine wpAny_comp_letGo (cenv := { cenv with scope := relabel scope env }) h4 _ s5 m own hn ?_
    exact fun h' _ _ sb => wpAny_mono (q h' sb) (fun _ _ z => z.elim) fun _ _ z => z
section
variable {P : Program} {w : World} {K : PySem.W.Frag} {mg : Str → Option Value} {base : Heap} {N0 : List Str} {qual : Str} {sc : Scope} {f : Addr} {cd : Value} {A : Around} {outer : List Env} {s : Shared} {H : Hp} {E : XK}
variable {scope : Scope} {N : List Str} {Q : Value → Shared → Prop} {acc : Value}
/-- a refusal of the element passes the block and lies as the def's own -/
theorem passC {pins : List (Addr × Obj)} {σ : St} {H2 : Hp} {sD : Shared} {ch : List Addr} (ID : Inv (cxOf (CXE P w) P w K mg base N0 qual sc f cd A outer s H E) pins σ H2 sD) (hch : ∀ b ∈ ch, FpOk (cxOf (CXE P w) P w K mg base N0 qual sc f cd A outer s H E) pins H2 b) :
    Passes (CXE P w) (cxCE (cxOf (CXE P w) P w K mg base N0 qual sc f cd A outer s H E) scope N sD H2 ch (notedBy (model P w) (cxOf (CXE P w) P w K mg base N0 qual sc f cd A outer s H E).A (compEnvC scope (clOf (cxOf (CXE P w) P w K mg base N0 qual sc f cd A outer s H E).env scope.names) sD.heap.objs.size (cxOf (CXE P w) P w K mg base N0 qual sc f cd A outer s H E).env)
      (fun x s' => endsF (model P w) (cxOf (CXE P w) P w K mg base N0 qual sc f cd A outer s H E).A (cxOf (CXE P w) P w K mg base N0 qual sc f cd A outer s H E).xe Q acc (compEnvC scope (clOf (cxOf (CXE P w) P w K mg base N0 qual sc f cd A outer s H E).env scope.names) sD.heap.objs.size (cxOf (CXE P w) P w K mg base N0 qual sc f cd A outer s H E).env) (.error x) s'))) E := by
  generalize hX : cxOf (CXE P w) P w K mg base N0 qual sc f cd A outer s H E = X at ID hch ⊢
  have hP : X.prog = P := by rw [← hX]; rfl
  have hw : X.w = w := by rw [← hX]; rfl
  have hs0 : X.s₀ = s := by rw [← hX]; rfl
  have hex : X.ex = [] := by rw [← hX]; rfl
  have hfr : X.env.frame = some X.env.locals := by rw [← hX]; rfl
  have hstk : X.stack = X.env :: X.outer := by rw [← hX]; rfl
  have hxe : ∀ e s', X.xe e s' ↔ wpAny (model P w) X.A (leaving X.env e) (fun _ s'' => CXE P w X.outer X.H₀ X.s₀ E e s'') (fun e' s'' => CXE P w X.outer X.H₀ X.s₀ E e' s'') s' := fun e s' => by rw [← hX]; exact Iff.rfl
  clear hX
  subst hP hw
  intro pinsI σI H1 s1 e s' J h
  have hchP : ∀ b ∈ ch, (b ∈ X.ex ∨ X.s₀.heap.objs.size ≤ b) ∧ b ≠ X.env.locals ∧ (∀ x c, X.env.cells.lookup x = some c → c ≠ b) ∧ ∀ p ∈ X.pn ++ pins, p.1 ≠ b := fun b hb => ⟨(hch b hb).2.2.2.1, (hch b hb).2.1, (hch b hb).2.2.2.2.1, (hch b hb).2.2.2.2.2⟩
  have IX : Inv X pins σ H1 s1 := ID.call' (ch := ch) J.os J.base J.hok J.bare hchP
  obtain ⟨a, T, cls, H', rfl, os, bare, un, hok, fl, na, nT, ha, hT, hE⟩ := h
  have J2 : Inv X pins σ H' s' := IX.call' (ch := []) os un hok bare (fun b z => absurd z (by simp))
  have fr := J2.stack
  -- the block's own names
  have nCf : sD.heap.objs.size ∉ frs X.stack := fun z => by
    obtain ⟨_, o, ho, _⟩ := ID.stack.mem z
    exact absurd (Heap.lt_size ho) (Nat.lt_irrefl _)
  obtain ⟨m, hn, _⟩ := J.loc
  have hn : s1.heap.Ns sD.heap.objs.size m := hn
  have fC : H1 sD.heap.objs.size = none := J.free
  obtain ⟨oC, es, ep, hC1, hCd, hCr⟩ := hn
  have hC2 := un.keep _ _ hC1 fC nCf (by simp)
  have fC2 : H' sD.heap.objs.size = none := un.free _ _ hC1 fC (by simp)
  have hn2 : s'.heap.Ns sD.heap.objs.size m := ⟨oC, es, ep, hC2, hCd, hCr⟩
  obtain ⟨oe, vs, oT, ts, a0, e1, e2, e3, e4, e5, e6, e7, e8⟩ := fl
  have fw : Heap.FlyingW (PySem.W.hideAll s'.heap (sD.heap.objs.size :: a :: T :: frs X.stack)) (X.env :: X.outer) a cls a0 s'.heap := by
    refine ⟨fun b o q => PySem.W.of_hideAll _ q, PySem.W.hideAll_none _ (.tail _ (.head _)), ?_, oe, vs, T, oT, ts, e1, e2, e3, e4, PySem.W.hideAll_none _ (.tail _ (.tail _ (.head _))), e5, e6, e7, e8⟩
    rw [← hstk]
    exact PySem.W.funFrames_hide fr (fun env he b hb => .tail _ (.tail _ (.tail _ (List.mem_filterMap.mpr ⟨env, he, hb⟩))))
  have hfrm : X.A.frames = some (X.env :: X.outer) := J2.ok.frames.trans (by rw [hstk])
  show wpAny _ X.A (noteFrame (.ref a) _) _ _ s'
  rw [note_same (env := X.env) (env2 := compEnvC scope (clOf X.env scope.names) sD.heap.objs.size X.env) rfl]
  refine wpAny_looks_onW hfrm hfr fw fun h4 held4 up4 => ⟨m, up4.ns hn2, fun h5 sb => ?_⟩
  have sb : Heap.SameBut sD.heap.objs.size h4 h5 := sb
  obtain ⟨b1, b2, b3, oe4, vs4, T4, oT4, ts4, f1, f2, f3, f4, f5, f6, f7, f8, f9⟩ := held4
  obtain ⟨sl4, hC4⟩ := up4 _ _ hC2 (by intro u z; rw [hCd] at z; cases z)
  have nac : a ≠ sD.heap.objs.size := fun z => by
    rw [z, hC4] at f1
    cases f1
    rw [hCd] at f3
    cases f3
  have nTc : T4 ≠ sD.heap.objs.size := fun z => by
    rw [z, hC4] at f7
    cases f7
    rw [hCd] at f8
    cases f8
  have g1 := (sb.2 a nac).trans f1
  have g7 := (sb.2 T4 nTc).trans f7
  have h3 : 3 < ts4.size := (Array.getElem?_eq_some_iff.mp f9).1
  show wpAny _ X.A (PySem.passOn _ (.ref a) _) _ _ _
  unfold PySem.passOn
  refine wpAny_bind (wpAny_field g1 f3 f4 ?_)
  rw [if_neg (by simp)]
  refine wpAny_bind ?_
  unfold setFlight
  refine wpAny_bind (wpAny_field g1 f3 f4 ?_)
  rw [if_pos (show (Value.ref T4 != Value.none) = true from by simp)]
  refine wpAny_setField g7 f8 h3 (wpAny_throw ?_)
  refine (hxe _ _).mpr ?_
  have hfv : ((compEnvC scope (clOf X.env scope.names) sD.heap.objs.size X.env).frame.elim Value.none fun f => rawInt f) = rawInt X.env.locals := by
    show (X.env.frame.elim Value.none fun f => rawInt f) = _
    rw [hfr]
    rfl
  rw [hfv]
  have nTf : T4 ∉ frs (X.env :: X.outer) := fun z => by
    obtain ⟨_, o, ho, hd⟩ := b3.mem z
    rw [f7] at ho
    cases ho
    exact hd _ f8
  have nCf2 : sD.heap.objs.size ∉ frs (X.env :: X.outer) := by rw [← hstk]; exact nCf
  have u6 : ∀ b, b ≠ T4 → (h5.update T4 (Obj.mapFields (·.setIfInBounds 3 (rawInt X.env.locals)))).get? b = h5.get? b := fun b hb => Heap.get?_update_other _ _ (Ne.symm hb)
  have held6 : Heap.HeldW (PySem.W.hideAll s'.heap (sD.heap.objs.size :: a :: T :: frs X.stack)) (X.env :: X.outer) a cls a0 X.env.locals (h5.update T4 (Obj.mapFields (·.setIfInBounds 3 (rawInt X.env.locals)))) := by
    refine ⟨fun b o q => ?_, b2, frames_but (Heap.SameBut.update ..) nTf (frames_but sb nCf2 b3), oe4, vs4, T4, _, _, (u6 a (Ne.symm f6)).trans g1, f2, f3, f4, f5, f6, Heap.get?_update_self _ g7 (Obj.isFreed_of_fields (Obj.data_mapFields f8 _)), Obj.data_mapFields f8 _, by simp [h3]⟩
    have nb : b ≠ sD.heap.objs.size := fun z => by
      rw [z, PySem.W.hideAll_none _ (.head _)] at q
      cases q
    have nb2 : b ≠ T4 := fun z => by
      rw [z, f5] at q
      cases q
    exact (u6 b nb2).trans ((sb.2 b nb).trans (b1 b o q))
  unfold leaving
  refine wpAny_bind (wpAny_noteFrame_againW hfr held6.2.2.2 (wpAny_landsW held6 fun h7 fw7 up7 => ?_))
  have nr : Near (sD.heap.objs.size :: a :: T :: frs X.stack) (frs X.stack) s'.heap h7 := by
    refine ⟨fun b o q n => fw7.1 b o (PySem.W.hideAll_get _ q n), fun b o z q => ?_, fun b z => .tail _ (.tail _ (.tail _ z))⟩
    obtain ⟨_, o', q', d⟩ := fr.mem z
    rw [q] at q'
    cases q'
    obtain ⟨sl1, k1⟩ := up4 b o q d
    have k2 := (sb.2 b (fun y => nCf (y ▸ z))).trans k1
    have k3 := (u6 b (fun y => nTf (by rw [← hstk, ← y]; exact z))).trans k2
    obtain ⟨sl2, k4⟩ := up7 b _ k3 d
    exact ⟨sl2, k4⟩
  have ga := IX.gn hex na
  have gT := IX.gn hex nT
  have hid : ∀ b, b ∈ sD.heap.objs.size :: a :: T :: frs X.stack → b ∈ frs X.stack ∨ (X.s₀.heap.get? b = none ∧ H' b = none) := fun b z => by
    rcases List.mem_cons.mp z with rfl | z
    · exact .inr ⟨Heap.get?_none_of_le ID.sz, fC2⟩
    · rcases List.mem_cons.mp z with rfl | z
      · exact .inr ⟨ga, ha⟩
      · rcases List.mem_cons.mp z with rfl | z
        · exact .inr ⟨gT, hT⟩
        · exact .inl z
  obtain ⟨T2, fl2, gT2, nT2⟩ := fly_on (P := X.prog) (w := X.w) (g := X.s₀.heap) (H := H') fr fw7 nr (J2.gk hex) hid J2.hok
  have base2 : Un (frs X.outer) [] X.H₀ H' X.s₀.heap s'.heap := by
    have := J2.base
    rw [hex] at this
    exact this
  refine ⟨a, T2, cls, H', rfl, J2.os, J2.bare, un_near base2 nr (fun b z => (hid b z).imp id (·.1)) J2.frsOut, hok_near J2.hok nr (fun b z => ?_), fl2, ga, gT2, ha, nT2, hE⟩
  rcases hid b z with y | y
  · exact J2.stkFree b y
  · exact y.2
/-- [.. for ..] whose element may refuse -/
theorem pe_compE {tg iter elt : Expr} {ifs : List Expr} {pos : Pos} {wi : TI} {g : TG} {tc : TT} {te : TE} {k : Nat} {cs : List Nat} (S : CScope (cxOf (CXE P w) P w K mg base N0 qual sc f cd A outer s H E) scope N k cs) (hi : PI (cxOf (CXE P w) P w K mg base N0 qual sc f cd A outer s H E) tg iter wi)
    (hg : ∀ s' H' ex, PG (cxC (cxOf (CXE P w) P w K mg base N0 qual sc f cd A outer s H E) scope N s' H' ex) tg g) (ht : ∀ s' H' ex, PTs (cxC (cxOf (CXE P w) P w K mg base N0 qual sc f cd A outer s H E) scope N s' H' ex) ifs tc)
    (he : ∀ s' H' ex XE, Passes (CXE P w) (cxCE (cxOf (CXE P w) P w K mg base N0 qual sc f cd A outer s H E) scope N s' H' ex XE) E → PE (cxCE (cxOf (CXE P w) P w K mg base N0 qual sc f cd A outer s H E) scope N s' H' ex XE) elt te)
    (hs : ∀ x, foldedSetIterable iter (cxOf (CXE P w) P w K mg base N0 qual sc f cd A outer s H E).env x = pure x := by intro _; rfl) : PE (cxOf (CXE P w) P w K mg base N0 qual sc f cd A outer s H E) (.ListComp elt [⟨tg, iter, ifs, 0⟩] scope pos) (tComp k cs wi g tc te) := by
  intro pins s₁ σ H₁ Q I h
  rw [eval_ListComp]
  refine comp_open rfl hs (closure_of fun y hy hf => I.ok.has _ (S.free y hy hf)) S.kind S.names (thn (hi pins s₁ σ H₁ _ I h) fun v s1 h1 => thn h1 fun itv s2 h2 => ?_)
  obtain ⟨it, fp, tn, J, H2, rfl, I2, T, st2, f2, hb⟩ := h2
  refine comp_blockE (X := cxOf (CXE P w) P w K mg base N0 qual sc f cd A outer s H E) (RR := fun acc cenv => endsF (model P w) (cxOf (CXE P w) P w K mg base N0 qual sc f cd A outer s H E).A (cxOf (CXE P w) P w K mg base N0 qual sc f cd A outer s H E).xe (EP (cxOf (CXE P w) P w K mg base N0 qual sc f cd A outer s H E) pins σ Q) acc cenv) rfl S hg ht ?_ I2 T st2 f2 hb fun D cenv H' acc s4 qf nD J4 hn fC => ?_
  · intro sD D ID hch
    exact ⟨_, he sD H2 (D :: fp) _ (passC ID hch), fun _ _ q => q⟩
  · obtain ⟨m, hm⟩ := hn
    refine ⟨m, hm, fun h' sb => ⟨.ref D, upd H' D (.lst acc), ?_, rfl, qf D nD⟩⟩
    exact J4.turned (t' := s4.toks) (it := cenv.locals) (fun b o hb e => (sb.2 b hb).trans e) fC.1 fC.2.1 fC.2.2.2.1 fC.2.2.2.2.1 fC.2.2.2.2.2
end
end L2

set_option Elab.async false
set_option linter.all false
set_option maxRecDepth 100000
/-! A method of a text within a block; None in a list of tuples and None; tuples of the same plain things. -/
namespace L2
open PySem PySem.Spec PyProof.Rows
section
variable {X : Cx} {K : PySem.W.Frag}
theorem pe_bmK {o e : Expr} {es : List Expr} {to : TE} {t : TA} {name : Str} {apos cpos : Pos} {T id : String} {r : V → List V → Hp → VK → Prop} (hK : X.K = K) (pa : PlainAttrs T) (slot : Slot T name id) (hty : typeOf (.builtin id) = pure (.type "method_descriptor")) (hm : MtR X id r) (ho : PE X o to) (ha : PA X (e :: es) t)
    (hbase : attributeBase o name X.env (eval o X.env) = eval o X.env := by rfl)
    (hfew : ((backTo cpos (starEach (e :: es) X.env)).all (fun x => !x.1) && (backToKw cpos (keywordEach [] X.env)).all (fun x => x.1.isSome) && decide ((e :: es).length + ([] : List Keyword).length + (if ([] : List Keyword).isEmpty then 0 else 1) < 30)) = true := by rfl)
    (hline : (apos.endLine == cpos.line) = true := by rfl) (hs : starEach (e :: es) X.env = (false, eval e X.env) :: starEach es X.env := by rfl) (hplain : (backTo cpos (starEach es X.env)).any (·.1) = false := by rfl) :
    PE X (.Call (.Attribute o name apos) (e :: es) [] cpos) (tBM K T r to t) := by
  subst hK
  exact pe_bm pa slot hty hm ho ha hbase hfew hline hs hplain
/-- None, or a tuple -/
def NoT (H : Hp) (v : V) : Prop := v = .non ∨ ∃ t ys, v = .ref t ∧ H t = some (.tup ys)
def isNon : Value → Bool
  | .none => true
  | _ => false
def nonV : V → Bool
  | .non => true
  | _ => false
theorem any_non {H : Hp} : ∀ {xs : List V} {us : List Value}, Vals xs us → (∀ v ∈ xs, NoT H v) → us.any isNon = xs.any nonV
  | _, _, .nil, _ => rfl
  | x :: xs, u :: us, .cons r t, h => by
    rw [List.any_cons, List.any_cons, any_non t fun v hv => h v (List.mem_cons_of_mem _ hv)]
    rcases h x List.mem_cons_self with e | ⟨q, ys, e, _⟩
    · subst e
      cases (show u = Value.none from r)
      rfl
    · subst e
      cases (show u = Value.ref q from r)
      rfl
theorem vals_mem : ∀ {xs : List V} {us : List Value}, Vals xs us → ∀ u ∈ us, ∃ x ∈ xs, RelV x u
  | _, _, .nil, u, h => by simp at h
  | x :: _, _, .cons r t, u, h => by
    rcases List.mem_cons.mp h with e | e
    · exact ⟨x, List.mem_cons_self, e ▸ r⟩
    · obtain ⟨y, m, q⟩ := vals_mem t u e
      exact ⟨y, List.mem_cons_of_mem _ m, q⟩
theorem op_in_non (hu : X.A.units + 64 < cLine) : OpR X (compareOp .In) (fun x y H Q => ∃ p xs, x = .non ∧ y = .ref p ∧ SqL X.K H p xs ∧ (∀ v ∈ xs, NoT H v) ∧ Q (.bl (xs.any nonV)) H) := by
  intro pins s σ H x y v u Q I rx ry h
  obtain ⟨p, xs, rfl, rfl, hq, fs, q⟩ := h
  cases (show v = Value.none from rx)
  cases ry
  obtain ⟨its, r, pl, hz⟩ := I.list hq
  refine SeqAt.in_listAt isNon pl.isList (fun z hz' => ?_) ⟨.bl _, H, I, rfl, ?_⟩
  · obtain ⟨x, mx, rz⟩ := vals_mem r z (by simpa using hz')
    rcases fs x mx with e | ⟨t, ys, e, ht⟩
    · subst e
      cases (show z = Value.none from rz)
      exact PySem.SeqAt.EqAt.same _
    · subst e
      cases (show z = Value.ref t from rz)
      obtain ⟨_, jts, _, pt⟩ := (show ObjOk X.prog X.w H s.heap t (.tup ys) from I.hok t _ ht)
      exact PySem.SeqAt.EqAt.tuple_none (show s.heap.IsTuple t jts.toArray from pt) (by show X.A.units + 1 < _; lia)
  · rw [show its.toArray.any isNon = its.any isNon by simp, any_non r fs]
    exact q
theorem eqV_same : ∀ {x : V}, flatV x = true → eqV x x = true
  | .non, _ => rfl
  | .bl b, _ => by simp [eqV]
  | .int b, _ => by simp [eqV]
  | .str b, _ => by simp [eqV]
  | .byt _, h => by cases h
  | .flt _, h => by cases h
  | .ref _, h => by cases h
  | .ty _, h => by cases h
theorem same_items {xs : List V} {us ws : List Value} {A : Around} {s : Shared} (r : Vals xs us) (r' : Vals xs ws) (f : xs.all flatV = true) (j : Nat) (h1 : j < us.toArray.size) (h2 : j < ws.toArray.size) : PySem.SeqAt.EqAt A s us.toArray[j] ws.toArray[j] true := by
  have hj : j < xs.length := by rw [r.length]; simpa using h1
  obtain ⟨u, e1, q1⟩ := r.get (List.getElem?_eq_getElem hj)
  obtain ⟨u', e2, q2⟩ := r'.get (List.getElem?_eq_getElem hj)
  have g1 : us.toArray[j] = u := by
    have : us[j]? = some us.toArray[j] := by simp
    rw [e1] at this
    exact (Option.some.inj this).symm
  have g2 : ws.toArray[j] = u' := by
    have : ws[j]? = some ws.toArray[j] := by simp
    rw [e2] at this
    exact (Option.some.inj this).symm
  rw [g1, g2]
  have fx := List.all_eq_true.mp f _ (List.getElem_mem hj)
  have := mem_eqAt (A := A) (s := s) q2 fx (xs := [xs[j]]) (us := [u]) (.cons q1 .nil) (by simp [fx]) u (by simp)
  rw [eqU_of q1 fx, eqV_same fx] at this
  exact this
/-- tuples of the same plain things -/
def AlikeF (K : PySem.W.Frag) (H : Hp) (x y : V) : Prop := ∃ (a b : Addr) (xs : List V), x = .ref a ∧ y = .ref b ∧ SqT K H a xs ∧ SqT K H b xs ∧ xs.all flatV = true
theorem op_eq_tupF (hu : X.A.units + 64 < cLine) : OpR X (compareOp .Eq) (fun x y H Q => AlikeF X.K H x y ∧ Q (.bl true) H) := by
  intro pins s σ H x y v u Q I rx ry h
  obtain ⟨⟨a, b, zs, rfl, rfl, h1, h2, fl⟩, q⟩ := h
  cases rx
  cases ry
  obtain ⟨xs, r1, p1, _⟩ := I.tuple h1
  obtain ⟨ys, r2, p2, _⟩ := I.tuple h2
  refine PySem.SeqAt.eq_tupleAt (e := fun _ => true) p1 p2 (by lia) (fun j k1 k2 => same_items r1 r2 fl j k1 k2) ?_
  rw [List.size_toArray, List.size_toArray, ← r1.length, ← r2.length]
  simp only [beq_self_eq_true, Bool.and_true]
  rw [List.all_eq_true.mpr fun _ _ => rfl]
  exact ⟨.bl _, H, I, rfl, q⟩
theorem op_ne_tupF (hu : X.A.units + 64 < cLine) : OpR X (compareOp .NotEq) (fun x y H Q => AlikeF X.K H x y ∧ Q (.bl false) H) := by
  intro pins s σ H x y v u Q I rx ry h
  obtain ⟨⟨a, b, zs, rfl, rfl, h1, h2, fl⟩, q⟩ := h
  cases rx
  cases ry
  obtain ⟨xs, r1, p1, _⟩ := I.tuple h1
  obtain ⟨ys, r2, p2, _⟩ := I.tuple h2
  refine PySem.SeqAt.RcNeAt.tuples (e := fun _ => true) p1 p2 (by lia) (fun j k1 k2 => same_items r1 r2 fl j k1 k2) _ _ _ _ ?_
  rw [List.size_toArray, List.size_toArray, ← r1.length, ← r2.length]
  simp only [beq_self_eq_true, Bool.and_true]
  rw [List.all_eq_true.mpr fun _ _ => rfl]
  exact ⟨.bl _, H, I, rfl, q⟩
end
end L2

set_option Elab.async false
set_option linter.all false
set_option maxRecDepth 100000
namespace J
open PySem L2
def top (i : Nat) : Stmt := PySem.Challenge.pw_jumpfield_k06_no_rule.main.body.getD i (.Pass ⟨0, 0, 0, 0⟩)
abbrev s_takes : Stmt := top 20
abbrev n_takes : List Str := ["wanted", "state"]
abbrev p_takes : List Str := ["wanted", "state"]
theorem sc_takes : FnScope n_takes p_takes (defScope s_takes) := ⟨rfl, rfl, rfl, by decide +kernel, rfl, by decide +kernel, by decide +kernel⟩
abbrev s_read_clause : Stmt := top 24
abbrev n_read_clause : List Str := ["text", "words", "cell", "conditions"]
abbrev p_read_clause : List Str := ["text"]
theorem sc_read_clause : FnScope n_read_clause p_read_clause (defScope s_read_clause) := ⟨rfl, rfl, rfl, by decide +kernel, rfl, by decide +kernel, by decide +kernel⟩
abbrev s_read_state : Stmt := top 25
abbrev n_read_state : List Str := ["word"]
abbrev p_read_state : List Str := ["word"]
theorem sc_read_state : FnScope n_read_state p_read_state (defScope s_read_state) := ⟨rfl, rfl, rfl, by decide +kernel, rfl, by decide +kernel, by decide +kernel⟩
abbrev s_read_wanted : Stmt := top 26
abbrev n_read_wanted : List Str := ["word"]
abbrev p_read_wanted : List Str := ["word"]
theorem sc_read_wanted : FnScope n_read_wanted p_read_wanted (defScope s_read_wanted) := ⟨rfl, rfl, rfl, by decide +kernel, rfl, by decide +kernel, by decide +kernel⟩
abbrev s_read_condition : Stmt := top 27
abbrev n_read_condition : List Str := ["word"]
abbrev p_read_condition : List Str := ["word"]
theorem sc_read_condition : FnScope n_read_condition p_read_condition (defScope s_read_condition) := ⟨rfl, rfl, rfl, by decide +kernel, rfl, by decide +kernel, by decide +kernel⟩
abbrev s_read_amounts : Stmt := top 28
abbrev n_read_amounts : List Str := ["word", "parts"]
abbrev p_read_amounts : List Str := ["word"]
theorem sc_read_amounts : FnScope n_read_amounts p_read_amounts (defScope s_read_amounts) := ⟨rfl, rfl, rfl, by decide +kernel, rfl, by decide +kernel, by decide +kernel⟩
abbrev s_read_numbers : Stmt := top 29
abbrev n_read_numbers : List Str := ["signs", "numbers", "sign"]
abbrev p_read_numbers : List Str := ["signs"]
theorem sc_read_numbers : FnScope n_read_numbers p_read_numbers (defScope s_read_numbers) := ⟨rfl, rfl, rfl, by decide +kernel, rfl, by decide +kernel, by decide +kernel⟩
abbrev s_read_places : Stmt := top 30
abbrev n_read_places : List Str := ["word"]
abbrev p_read_places : List Str := ["word"]
theorem sc_read_places : FnScope n_read_places p_read_places (defScope s_read_places) := ⟨rfl, rfl, rfl, by decide +kernel, rfl, by decide +kernel, by decide +kernel⟩
abbrev s_clause_texts : Stmt := top 34
abbrev n_clause_texts : List Str := ["text"]
abbrev p_clause_texts : List Str := ["text"]
theorem sc_clause_texts : FnScope n_clause_texts p_clause_texts (defScope s_clause_texts) := ⟨rfl, rfl, rfl, by decide +kernel, rfl, by decide +kernel, by decide +kernel⟩
abbrev s_read_rule : Stmt := top 35
abbrev n_read_rule : List Str := ["text", "rule"]
abbrev p_read_rule : List Str := ["text"]
theorem sc_read_rule : FnScope n_read_rule p_read_rule (defScope s_read_rule) := ⟨rfl, rfl, rfl, by decide +kernel, rfl, by decide +kernel, by decide +kernel⟩
abbrev s_deciding : Stmt := top 36
abbrev n_deciding : List Str := ["rule", "cell", "around", "number", "clause"]
abbrev p_deciding : List Str := ["rule", "cell", "around"]
theorem sc_deciding : FnScope n_deciding p_deciding (defScope s_deciding) := ⟨rfl, rfl, rfl, by decide +kernel, rfl, by decide +kernel, by decide +kernel⟩
abbrev s_becomes : Stmt := top 37
abbrev n_becomes : List Str := ["rule", "cell", "around", "number"]
abbrev p_becomes : List Str := ["rule", "cell", "around"]
theorem sc_becomes : FnScope n_becomes p_becomes (defScope s_becomes) := ⟨rfl, rfl, rfl, by decide +kernel, rfl, by decide +kernel, by decide +kernel⟩
abbrev s_shown_rule : Stmt := top 38
abbrev n_shown_rule : List Str := ["rule"]
abbrev p_shown_rule : List Str := ["rule"]
theorem sc_shown_rule : FnScope n_shown_rule p_shown_rule (defScope s_shown_rule) := ⟨rfl, rfl, rfl, by decide +kernel, rfl, by decide +kernel, by decide +kernel⟩
abbrev s__law_at : Stmt := top 40
abbrev n__law_at : List Str := ["_law_script", "_law_k"]
abbrev p__law_at : List Str := ["_law_script", "_law_k"]
theorem sc__law_at : FnScope n__law_at p__law_at (defScope s__law_at) := ⟨rfl, rfl, rfl, by decide +kernel, rfl, by decide +kernel, by decide +kernel⟩
abbrev s__law_mix : Stmt := top 41
abbrev n__law_mix : List Str := ["_law_cell", "_law_k", "_law_value"]
abbrev p__law_mix : List Str := ["_law_cell", "_law_k"]
theorem sc__law_mix : FnScope n__law_mix p__law_mix (defScope s__law_mix) := ⟨rfl, rfl, rfl, by decide +kernel, rfl, by decide +kernel, by decide +kernel⟩
abbrev s__law_state_by : Stmt := top 42
abbrev n__law_state_by : List Str := ["_law_mains", "_law_value"]
abbrev p__law_state_by : List Str := ["_law_mains", "_law_value"]
theorem sc__law_state_by : FnScope n__law_state_by p__law_state_by (defScope s__law_state_by) := ⟨rfl, rfl, rfl, by decide +kernel, rfl, by decide +kernel, by decide +kernel⟩
abbrev s__law_condition_by : Stmt := top 43
abbrev n__law_condition_by : List Str := ["_law_mains", "_law_seed", "_law_j", "_law_wanted", "_law_k", "_law_value", "_law_mask"]
abbrev p__law_condition_by : List Str := ["_law_mains", "_law_seed", "_law_j"]
theorem sc__law_condition_by : FnScope n__law_condition_by p__law_condition_by (defScope s__law_condition_by) := ⟨rfl, rfl, rfl, by decide +kernel, rfl, by decide +kernel, by decide +kernel⟩
abbrev s__law_clause_by : Stmt := top 44
abbrev n__law_clause_by : List Str := ["_law_mains", "_law_seed", "_law_j", "_law_taken", "_law_conditions", "_law_value", "_law_many", "_law_k"]
abbrev p__law_clause_by : List Str := ["_law_mains", "_law_seed", "_law_j"]
theorem sc__law_clause_by : FnScope n__law_clause_by p__law_clause_by (defScope s__law_clause_by) := ⟨rfl, rfl, rfl, by decide +kernel, rfl, by decide +kernel, by decide +kernel⟩
abbrev s__law_holds : Stmt := top 45
abbrev n__law_holds : List Str := ["_law_condition", "_law_around", "_law_k", "_law_many", "_law_state"]
abbrev p__law_holds : List Str := ["_law_condition", "_law_around"]
theorem sc__law_holds : FnScope n__law_holds p__law_holds (defScope s__law_holds) := ⟨rfl, rfl, rfl, by decide +kernel, rfl, by decide +kernel, by decide +kernel⟩
abbrev s__law_decides : Stmt := top 46
abbrev n__law_decides : List Str := ["_law_clauses", "_law_cell", "_law_around", "_law_at_here", "_law_fits", "_law_condition"]
abbrev p__law_decides : List Str := ["_law_clauses", "_law_cell", "_law_around"]
theorem sc__law_decides : FnScope n__law_decides p__law_decides (defScope s__law_decides) := ⟨rfl, rfl, rfl, by decide +kernel, rfl, by decide +kernel, by decide +kernel⟩
abbrev s__law_becomes : Stmt := top 47
abbrev n__law_becomes : List Str := ["_law_clauses", "_law_cell", "_law_around", "_law_at_here"]
abbrev p__law_becomes : List Str := ["_law_clauses", "_law_cell", "_law_around"]
theorem sc__law_becomes : FnScope n__law_becomes p__law_becomes (defScope s__law_becomes) := ⟨rfl, rfl, rfl, by decide +kernel, rfl, by decide +kernel, by decide +kernel⟩
abbrev s__law_clauses_by : Stmt := top 48
abbrev n__law_clauses_by : List Str := ["_law_script", "_law_first", "_law_many", "_law_mains", "_law_clauses", "_law_k"]
abbrev p__law_clauses_by : List Str := ["_law_script", "_law_first", "_law_many"]
theorem sc__law_clauses_by : FnScope n__law_clauses_by p__law_clauses_by (defScope s__law_clauses_by) := ⟨rfl, rfl, rfl, by decide +kernel, rfl, by decide +kernel, by decide +kernel⟩
abbrev s__law_word : Stmt := top 49
abbrev n__law_word : List Str := ["_law_condition"]
abbrev p__law_word : List Str := ["_law_condition"]
theorem sc__law_word : FnScope n__law_word p__law_word (defScope s__law_word) := ⟨rfl, rfl, rfl, by decide +kernel, rfl, by decide +kernel, by decide +kernel⟩
abbrev s__law_text : Stmt := top 50
abbrev n__law_text : List Str := ["_law_clauses", "_law_parts", "_law_clause", "_law_words"]
abbrev p__law_text : List Str := ["_law_clauses"]
theorem sc__law_text : FnScope n__law_text p__law_text (defScope s__law_text) := ⟨rfl, rfl, rfl, by decide +kernel, rfl, by decide +kernel, by decide +kernel⟩
abbrev s__law_number : Stmt := top 51
abbrev n__law_number : List Str := ["_law_sign", "_law_signs"]
abbrev p__law_number : List Str := ["_law_sign", "_law_signs"]
theorem sc__law_number : FnScope n__law_number p__law_number (defScope s__law_number) := ⟨rfl, rfl, rfl, by decide +kernel, rfl, by decide +kernel, by decide +kernel⟩
abbrev s__law_condition_read : Stmt := top 52
abbrev n__law_condition_read : List Str := ["_law_word_here", "_law_numbers", "_law_k", "_law_wanted"]
abbrev p__law_condition_read : List Str := ["_law_word_here"]
theorem sc__law_condition_read : FnScope n__law_condition_read p__law_condition_read (defScope s__law_condition_read) := ⟨rfl, rfl, rfl, by decide +kernel, rfl, by decide +kernel, by decide +kernel⟩
abbrev s__law_clauses_read : Stmt := top 53
abbrev n__law_clauses_read : List Str := ["_law_line", "_law_clauses", "_law_part", "_law_words", "_law_conditions"]
abbrev p__law_clauses_read : List Str := ["_law_line"]
theorem sc__law_clauses_read : FnScope n__law_clauses_read p__law_clauses_read (defScope s__law_clauses_read) := ⟨rfl, rfl, rfl, by decide +kernel, rfl, by decide +kernel, by decide +kernel⟩
abbrev s__law_sign_by : Stmt := top 54
abbrev n__law_sign_by : List Str := ["_law_cell", "_law_some"]
abbrev p__law_sign_by : List Str := ["_law_cell"]
theorem sc__law_sign_by : FnScope n__law_sign_by p__law_sign_by (defScope s__law_sign_by) := ⟨rfl, rfl, rfl, by decide +kernel, rfl, by decide +kernel, by decide +kernel⟩
abbrev s__law_odd : Stmt := top 55
abbrev n__law_odd : List Str := ["_law_cell", "_law_some"]
abbrev p__law_odd : List Str := ["_law_cell"]
theorem sc__law_odd : FnScope n__law_odd p__law_odd (defScope s__law_odd) := ⟨rfl, rfl, rfl, by decide +kernel, rfl, by decide +kernel, by decide +kernel⟩
abbrev s__law_ahead : Stmt := top 56
abbrev n__law_ahead : List Str := ["_law_cell", "_law_state"]
abbrev p__law_ahead : List Str := ["_law_cell"]
theorem sc__law_ahead : FnScope n__law_ahead p__law_ahead (defScope s__law_ahead) := ⟨rfl, rfl, rfl, by decide +kernel, rfl, by decide +kernel, by decide +kernel⟩
abbrev s__law_spoiled : Stmt := top 57
abbrev n__law_spoiled : List Str := ["_law_line", "_law_way", "_law_spot", "_law_cell", "_law_at_here"]
abbrev p__law_spoiled : List Str := ["_law_line", "_law_way", "_law_spot", "_law_cell"]
theorem sc__law_spoiled : FnScope n__law_spoiled p__law_spoiled (defScope s__law_spoiled) := ⟨rfl, rfl, rfl, by decide +kernel, rfl, by decide +kernel, by decide +kernel⟩
abbrev s__law_others : Stmt := top 58
abbrev n__law_others : List Str := ["_law_e", "_law_some"]
abbrev p__law_others : List Str := ["_law_e"]
theorem sc__law_others : FnScope n__law_others p__law_others (defScope s__law_others) := ⟨rfl, rfl, rfl, by decide +kernel, rfl, by decide +kernel, by decide +kernel⟩
abbrev s__law_alone : Stmt := top 59
abbrev n__law_alone : List Str := ["_law_e"]
abbrev p__law_alone : List Str := ["_law_e"]
theorem sc__law_alone : FnScope n__law_alone p__law_alone (defScope s__law_alone) := ⟨rfl, rfl, rfl, by decide +kernel, rfl, by decide +kernel, by decide +kernel⟩
abbrev s__law_said : Stmt := top 60
abbrev n__law_said : List Str := ["_law_thing", "_law_found", "_law_e"]
abbrev p__law_said : List Str := ["_law_thing"]
theorem sc__law_said : FnScope n__law_said p__law_said (defScope s__law_said) := ⟨rfl, rfl, rfl, by decide +kernel, rfl, by decide +kernel, by decide +kernel⟩
abbrev s__law_due : Stmt := top 61
abbrev n__law_due : List Str := ["_law_line", "_law_clauses"]
abbrev p__law_due : List Str := ["_law_line"]
theorem sc__law_due : FnScope n__law_due p__law_due (defScope s__law_due) := ⟨rfl, rfl, rfl, by decide +kernel, rfl, by decide +kernel, by decide +kernel⟩
abbrev s__law_right : Stmt := top 62
abbrev n__law_right : List Str := ["_law_script", "_law_at_here", "_law_good", "_law_way", "_law_line", "_law_thing"]
abbrev p__law_right : List Str := ["_law_script", "_law_at_here"]
theorem sc__law_right : FnScope n__law_right p__law_right (defScope s__law_right) := ⟨rfl, rfl, rfl, by decide +kernel, rfl, by decide +kernel, by decide +kernel⟩
abbrev s_law : Stmt := top 63
abbrev n_law : List Str := ["_law_script", "_law_at_here"]
abbrev p_law : List Str := ["_law_script"]
theorem sc_law : FnScope n_law p_law (defScope s_law) := ⟨rfl, rfl, rfl, by decide +kernel, rfl, by decide +kernel, by decide +kernel⟩
abbrev s_Amounts_init : Stmt := inClass (top 21) 0
abbrev n_Amounts_init : List Str := ["self", "state", "numbers"]
abbrev p_Amounts_init : List Str := ["self", "state", "numbers"]
theorem sc_Amounts_init : FnScope n_Amounts_init p_Amounts_init (defScope s_Amounts_init) := ⟨rfl, rfl, rfl, by decide +kernel, rfl, by decide +kernel, by decide +kernel⟩
abbrev s_Amounts_holds : Stmt := inClass (top 21) 1
abbrev n_Amounts_holds : List Str := ["self", "around"]
abbrev p_Amounts_holds : List Str := ["self", "around"]
theorem sc_Amounts_holds : FnScope n_Amounts_holds p_Amounts_holds (defScope s_Amounts_holds) := ⟨rfl, rfl, rfl, by decide +kernel, rfl, by decide +kernel, by decide +kernel⟩
abbrev s_Places_init : Stmt := inClass (top 22) 0
abbrev n_Places_init : List Str := ["self", "wanted"]
abbrev p_Places_init : List Str := ["self", "wanted"]
theorem sc_Places_init : FnScope n_Places_init p_Places_init (defScope s_Places_init) := ⟨rfl, rfl, rfl, by decide +kernel, rfl, by decide +kernel, by decide +kernel⟩
abbrev s_Places_holds : Stmt := inClass (top 22) 1
abbrev n_Places_holds : List Str := ["self", "around"]
abbrev p_Places_holds : List Str := ["self", "around"]
theorem sc_Places_holds : FnScope n_Places_holds p_Places_holds (defScope s_Places_holds) := ⟨rfl, rfl, rfl, by decide +kernel, rfl, by decide +kernel, by decide +kernel⟩
abbrev s_Clause_init : Stmt := inClass (top 23) 0
abbrev n_Clause_init : List Str := ["self", "cell", "conditions", "makes"]
abbrev p_Clause_init : List Str := ["self", "cell", "conditions", "makes"]
theorem sc_Clause_init : FnScope n_Clause_init p_Clause_init (defScope s_Clause_init) := ⟨rfl, rfl, rfl, by decide +kernel, rfl, by decide +kernel, by decide +kernel⟩
abbrev s_Clause_fits : Stmt := inClass (top 23) 1
abbrev n_Clause_fits : List Str := ["self", "cell", "around"]
abbrev p_Clause_fits : List Str := ["self", "cell", "around"]
theorem sc_Clause_fits : FnScope n_Clause_fits p_Clause_fits (defScope s_Clause_fits) := ⟨rfl, rfl, rfl, by decide +kernel, rfl, by decide +kernel, by decide +kernel⟩
abbrev s_Rule_init : Stmt := inClass (top 33) 0
abbrev n_Rule_init : List Str := ["self", "text"]
abbrev p_Rule_init : List Str := ["self", "text"]
theorem sc_Rule_init : FnScope n_Rule_init p_Rule_init (defScope s_Rule_init) := ⟨rfl, rfl, rfl, by decide +kernel, rfl, by decide +kernel, by decide +kernel⟩
/-- where the classes stand -/
structure Ad where
  c_Amounts : Addr
  c_Places : Addr
  c_Clause : Addr
  c_Rule : Addr
  x_FieldError : Addr
  x_NoNumber : Addr
  x_NoRule : Addr
  x_Restless : Addr
  x_NoSquare : Addr
  x_NoLevel : Addr
  x_NoState : Addr
  x_NoBox : Addr
  x_TooFar : Addr
  x_TooMany : Addr
  x_NoSteps : Addr
  x_NoPattern : Addr
  x_NoName : Addr
  x_NoRow : Addr
/-- what the top has written -/
structure Top (K : PySem.W.Frag) (mg : Str → Option Value) (a : Ad) : Prop where
  b_all : mg "all" = none
  b_enumerate : mg "enumerate" = none
  b_int : mg "int" = none
  b_isinstance : mg "isinstance" = none
  b_len : mg "len" = none
  b_max : mg "max" = none
  b_min : mg "min" = none
  b_range : mg "range" = none
  b_str : mg "str" = none
  b_tuple : mg "tuple" = none
  b_zip : mg "zip" = none
  k_NEIGHBOURS : ∃ t, mg "NEIGHBOURS" = some (.int 8 t)
  k_STATE_FIGURES : ∃ t, mg "STATE_FIGURES" = some (.str (Str.ofString "01234567") t)
  k_AMOUNT_FIGURES : ∃ t, mg "AMOUNT_FIGURES" = some (.str (Str.ofString "012345678") t)
  k_ANY_SIGN : ∃ t, mg "ANY_SIGN" = some (.str (Str.ofString "*") t)
  k_CLAUSE_MARK : ∃ t, mg "CLAUSE_MARK" = some (.str (Str.ofString "; ") t)
  m_Amounts : mg "Amounts" = some (.ref a.c_Amounts)
  cl_Amounts : Cls K a.c_Amounts
  na_Amounts_state : NoAttr K a.c_Amounts "state"
  na_Amounts_numbers : NoAttr K a.c_Amounts "numbers"
  m_Places : mg "Places" = some (.ref a.c_Places)
  cl_Places : Cls K a.c_Places
  na_Places_wanted : NoAttr K a.c_Places "wanted"
  m_Clause : mg "Clause" = some (.ref a.c_Clause)
  cl_Clause : Cls K a.c_Clause
  na_Clause_cell : NoAttr K a.c_Clause "cell"
  na_Clause_conditions : NoAttr K a.c_Clause "conditions"
  na_Clause_makes : NoAttr K a.c_Clause "makes"
  m_Rule : mg "Rule" = some (.ref a.c_Rule)
  cl_Rule : Cls K a.c_Rule
  na_Rule_text : NoAttr K a.c_Rule "text"
  na_Rule_clauses : NoAttr K a.c_Rule "clauses"
  b_ValueError : mg "ValueError" = none
  mx_FieldError : mg "FieldError" = some (.ref a.x_FieldError)
  mx_NoNumber : mg "NoNumber" = some (.ref a.x_NoNumber)
  mx_NoRule : mg "NoRule" = some (.ref a.x_NoRule)
  mx_Restless : mg "Restless" = some (.ref a.x_Restless)
  mx_NoSquare : mg "NoSquare" = some (.ref a.x_NoSquare)
  mx_NoLevel : mg "NoLevel" = some (.ref a.x_NoLevel)
  mx_NoState : mg "NoState" = some (.ref a.x_NoState)
  mx_NoBox : mg "NoBox" = some (.ref a.x_NoBox)
  mx_TooFar : mg "TooFar" = some (.ref a.x_TooFar)
  mx_TooMany : mg "TooMany" = some (.ref a.x_TooMany)
  mx_NoSteps : mg "NoSteps" = some (.ref a.x_NoSteps)
  mx_NoPattern : mg "NoPattern" = some (.ref a.x_NoPattern)
  mx_NoName : mg "NoName" = some (.ref a.x_NoName)
  mx_NoRow : mg "NoRow" = some (.ref a.x_NoRow)
  ec_NoRule : ExcC K a.x_NoRule
  ec_Restless : ExcC K a.x_Restless
  ec_FieldError : ExcC K a.x_FieldError
  ef_NoRule : ExcF K a.x_NoRule
  mr_NoRule : PySem.W.mroIn K a.x_NoRule (.ref a.x_FieldError) = some true
  kv_NoRule : PySem.W.kitOne K (.ref a.x_NoRule) (.type "ValueError") = some true
  ki_NoRule_NoNumber : PySem.W.kitOne K (.ref a.x_NoRule) (.ref a.x_NoNumber) = some false
  ki_NoRule_NoRule : PySem.W.kitOne K (.ref a.x_NoRule) (.ref a.x_NoRule) = some true
  ki_NoRule_Restless : PySem.W.kitOne K (.ref a.x_NoRule) (.ref a.x_Restless) = some false
  ki_NoRule_NoSquare : PySem.W.kitOne K (.ref a.x_NoRule) (.ref a.x_NoSquare) = some false
  ki_NoRule_NoLevel : PySem.W.kitOne K (.ref a.x_NoRule) (.ref a.x_NoLevel) = some false
  ki_NoRule_NoState : PySem.W.kitOne K (.ref a.x_NoRule) (.ref a.x_NoState) = some false
  ki_NoRule_NoBox : PySem.W.kitOne K (.ref a.x_NoRule) (.ref a.x_NoBox) = some false
  ki_NoRule_TooFar : PySem.W.kitOne K (.ref a.x_NoRule) (.ref a.x_TooFar) = some false
  ki_NoRule_TooMany : PySem.W.kitOne K (.ref a.x_NoRule) (.ref a.x_TooMany) = some false
  ki_NoRule_NoSteps : PySem.W.kitOne K (.ref a.x_NoRule) (.ref a.x_NoSteps) = some false
  ki_NoRule_NoPattern : PySem.W.kitOne K (.ref a.x_NoRule) (.ref a.x_NoPattern) = some false
  ki_NoRule_NoName : PySem.W.kitOne K (.ref a.x_NoRule) (.ref a.x_NoName) = some false
  ki_NoRule_NoRow : PySem.W.kitOne K (.ref a.x_NoRule) (.ref a.x_NoRow) = some false
  kf_NoRule : PySem.W.kitOne K (.ref a.x_NoRule) (.ref a.x_FieldError) = some true
  mm_NoRule_NoRule : PySem.W.mroIn K a.x_NoRule (.ref a.x_NoRule) = some true
  mm_NoRule_Restless : PySem.W.mroIn K a.x_NoRule (.ref a.x_Restless) = some false
  ef_Restless : ExcF K a.x_Restless
  mr_Restless : PySem.W.mroIn K a.x_Restless (.ref a.x_FieldError) = some true
  kv_Restless : PySem.W.kitOne K (.ref a.x_Restless) (.type "ValueError") = some true
  ki_Restless_NoNumber : PySem.W.kitOne K (.ref a.x_Restless) (.ref a.x_NoNumber) = some false
  ki_Restless_NoRule : PySem.W.kitOne K (.ref a.x_Restless) (.ref a.x_NoRule) = some false
  ki_Restless_Restless : PySem.W.kitOne K (.ref a.x_Restless) (.ref a.x_Restless) = some true
  ki_Restless_NoSquare : PySem.W.kitOne K (.ref a.x_Restless) (.ref a.x_NoSquare) = some false
  ki_Restless_NoLevel : PySem.W.kitOne K (.ref a.x_Restless) (.ref a.x_NoLevel) = some false
  ki_Restless_NoState : PySem.W.kitOne K (.ref a.x_Restless) (.ref a.x_NoState) = some false
  ki_Restless_NoBox : PySem.W.kitOne K (.ref a.x_Restless) (.ref a.x_NoBox) = some false
  ki_Restless_TooFar : PySem.W.kitOne K (.ref a.x_Restless) (.ref a.x_TooFar) = some false
  ki_Restless_TooMany : PySem.W.kitOne K (.ref a.x_Restless) (.ref a.x_TooMany) = some false
  ki_Restless_NoSteps : PySem.W.kitOne K (.ref a.x_Restless) (.ref a.x_NoSteps) = some false
  ki_Restless_NoPattern : PySem.W.kitOne K (.ref a.x_Restless) (.ref a.x_NoPattern) = some false
  ki_Restless_NoName : PySem.W.kitOne K (.ref a.x_Restless) (.ref a.x_NoName) = some false
  ki_Restless_NoRow : PySem.W.kitOne K (.ref a.x_Restless) (.ref a.x_NoRow) = some false
  kf_Restless : PySem.W.kitOne K (.ref a.x_Restless) (.ref a.x_FieldError) = some true
  mm_Restless_NoRule : PySem.W.mroIn K a.x_Restless (.ref a.x_NoRule) = some false
  mm_Restless_Restless : PySem.W.mroIn K a.x_Restless (.ref a.x_Restless) = some true
end J

set_option Elab.async false
set_option linter.all false
set_option maxRecDepth 100000
/-! Rules: clauses and their conditions, as they lie in the heap, and what is asked of them. -/
namespace J
open PySem L2
inductive CondA where
  | am (s : Int) (ns : List Int)
  | pl (ws : List (Option Int))
structure ClauseA where
  cell : Option Int
  conds : List CondA
  makes : Int
abbrev RuleA := List ClauseA
def optV : Option Int → V
  | none => .non
  | some i => .int i
def takesA (w : Option Int) (s : Int) : Bool := match w with
  | none => true
  | some i => decide (i = s)
def CondA.holds (ar : List Int) : CondA → Bool
  | .am s ns => ns.any fun n => decide (n = ((ar.countP (· == s) : Nat) : Int))
  | .pl ws => (ws.zip ar).all fun p => takesA p.1 p.2
def ClauseA.fits (cell : Int) (ar : List Int) (c : ClauseA) : Bool := takesA c.cell cell && c.conds.all (CondA.holds ar)
def decA (r : RuleA) (cell : Int) (ar : List Int) : Option Nat := r.findIdx? (ClauseA.fits cell ar)
def becA (r : RuleA) (cell : Int) (ar : List Int) : Int := match r.find? (ClauseA.fits cell ar) with
  | none => cell
  | some c => c.makes
/-! ### attributes in the order in which they are stored -/
def fl1 (f : Str) (a : V) : List (Str × V) := putF f a []
def fl2 (f g : Str) (a b : V) : List (Str × V) := putF g b (putF f a [])
def fl3 (f g h : Str) (a b c : V) : List (Str × V) := putF h c (putF g b (putF f a []))
theorem fl1_1 {f : Str} {a : V} : (fl1 f a).lookup f = some a := by unfold fl1; rw [lookup_putF, if_pos rfl]
theorem fl1_no {f m : Str} {a : V} (h : ¬ m = f) : (fl1 f a).lookup m = none := by unfold fl1; rw [lookup_putF, if_neg h]; rfl
theorem fl2_1 {f g : Str} {a b : V} (h : ¬ f = g) : (fl2 f g a b).lookup f = some a := by unfold fl2; rw [lookup_putF, if_neg h, lookup_putF, if_pos rfl]
theorem fl2_2 {f g : Str} {a b : V} : (fl2 f g a b).lookup g = some b := by unfold fl2; rw [lookup_putF, if_pos rfl]
theorem fl2_no {f g m : Str} {a b : V} (h1 : ¬ m = f) (h2 : ¬ m = g) : (fl2 f g a b).lookup m = none := by unfold fl2; rw [lookup_putF, if_neg h2, lookup_putF, if_neg h1]; rfl
theorem fl3_1 {f g h : Str} {a b c : V} (h1 : ¬ f = g) (h2 : ¬ f = h) : (fl3 f g h a b c).lookup f = some a := by unfold fl3; rw [lookup_putF, if_neg h2, lookup_putF, if_neg h1, lookup_putF, if_pos rfl]
theorem fl3_2 {f g h : Str} {a b c : V} (h1 : ¬ g = h) : (fl3 f g h a b c).lookup g = some b := by unfold fl3; rw [lookup_putF, if_neg h1, lookup_putF, if_pos rfl]
theorem fl3_3 {f g h : Str} {a b c : V} : (fl3 f g h a b c).lookup h = some c := by unfold fl3; rw [lookup_putF, if_pos rfl]
theorem fl3_no {f g h m : Str} {a b c : V} (h1 : ¬ m = f) (h2 : ¬ m = g) (h3 : ¬ m = h) : (fl3 f g h a b c).lookup m = none := by unfold fl3; rw [lookup_putF, if_neg h3, lookup_putF, if_neg h2, lookup_putF, if_neg h1]; rfl
theorem putF_len (f : Str) (v : V) : ∀ l : List (Str × V), (putF f v l).length ≤ l.length + 1
  | [] => Nat.le_refl _
  | (g, w) :: r => by
    unfold putF
    split
    · exact Nat.le_succ _
    · rw [List.length_cons, List.length_cons]
      exact Nat.succ_le_succ (putF_len f v r)
theorem same_upd {H : Hp} {p : Addr} {o : HO} (h : H p = none) : Same H (upd H p o) := fun b u e => by
  rw [upd_ne (ne_of_none e h)]
  exact e
/-! ### how they lie in the heap -/
inductive CondAt (a : Ad) (H : Hp) : Addr → CondA → Prop where
  | am {p t dx : Addr} {s : Int} {ns : List Int} (h : H p = some (.ins a.c_Amounts dx (fl2 "state" "numbers" (.int s) (.ref t)))) (ht : H t = some (.tup (ns.map V.int))) : CondAt a H p (.am s ns)
  | pl {p t dx : Addr} {ws : List (Option Int)} (h : H p = some (.ins a.c_Places dx (fl1 "wanted" (.ref t)))) (ht : H t = some (.tup (ws.map optV))) : CondAt a H p (.pl ws)
structure ClauseAt (a : Ad) (H : Hp) (p : Addr) (c : ClauseA) : Prop where
  ex : ∃ (dx t : Addr) (cs : List Addr), H p = some (.ins a.c_Clause dx (fl3 "cell" "conditions" "makes" (optV c.cell) (.ref t) (.int c.makes))) ∧ H t = some (.tup (cs.map V.ref)) ∧ Paired (CondAt a H) cs c.conds
structure RuleAt (a : Ad) (H : Hp) (p : Addr) (x : Str) (r : RuleA) : Prop where
  ex : ∃ (dx t : Addr) (cs : List Addr), H p = some (.ins a.c_Rule dx (fl2 "text" "clauses" (.str x) (.ref t))) ∧ H t = some (.tup (cs.map V.ref)) ∧ Paired (ClauseAt a H) cs r
theorem Paired.imp {α β : Type} {F G : α → β → Prop} (h : ∀ x y, F x y → G x y) : ∀ {l : List α} {m : List β}, Paired F l m → Paired G l m
  | _, _, .nil => .nil
  | _, _, .cons r t => .cons (h _ _ r) (Paired.imp h t)
theorem Paired.get {α β : Type} {F : α → β → Prop} : ∀ {l : List α} {m : List β} {i : Nat} {x : α}, Paired F l m → l[i]? = some x → ∃ y, m[i]? = some y ∧ F x y
  | _, _, _, _, .nil, e => by simp at e
  | _, _, 0, _, .cons r _, e => by simp at e; subst e; exact ⟨_, rfl, r⟩
  | _, _, i + 1, x, .cons _ t, e => by
    obtain ⟨y, h1, h2⟩ := Paired.get (i := i) (x := x) t (by simpa using e)
    exact ⟨y, by simpa using h1, h2⟩
theorem CondAt.same {a : Ad} {H H' : Hp} {p : Addr} {c : CondA} (s : Same H H') (h : CondAt a H p c) : CondAt a H' p c := by
  cases h with
  | am h ht => exact .am (s _ _ h) (s _ _ ht)
  | pl h ht => exact .pl (s _ _ h) (s _ _ ht)
theorem ClauseAt.same {a : Ad} {H H' : Hp} {p : Addr} {c : ClauseA} (s : Same H H') (h : ClauseAt a H p c) : ClauseAt a H' p c := by
  obtain ⟨dx, t, cs, h1, h2, h3⟩ := h.ex
  exact ⟨dx, t, cs, s _ _ h1, s _ _ h2, Paired.imp (fun _ _ z => z.same s) h3⟩
theorem RuleAt.same {a : Ad} {H H' : Hp} {p : Addr} {x : Str} {r : RuleA} (s : Same H H') (h : RuleAt a H p x r) : RuleAt a H' p x r := by
  obtain ⟨dx, t, cs, h1, h2, h3⟩ := h.ex
  exact ⟨dx, t, cs, s _ _ h1, s _ _ h2, Paired.imp (fun _ _ z => z.same s) h3⟩
theorem in_ints (n : Int) (ns : List Int) : inV (.int n) (ns.map V.int) = ns.any fun m => decide (m = n) := by
  unfold inV
  rw [List.any_map]
  congr 1
theorem flat_ints (ns : List Int) : (ns.map V.int).all flatV = true := by
  rw [List.all_map]
  exact List.all_eq_true.mpr fun _ _ => rfl
theorem dec_int (i j : Int) : decide (V.int i = V.int j) = decide (i = j) := by
  by_cases h : i = j
  · rw [decide_eq_true h, decide_eq_true (by rw [h])]
  · rw [decide_eq_false h, decide_eq_false fun z => h (by injection z)]
section
variable {P : Program} {w : World} {K : PySem.W.Frag} {mg : Str → Option Value} {base : Heap} {a : Ad}
/-! ### takes -/
inductive SpTakes (vs : List V) (H : Hp) (Q : VK) : Prop
  | mk (x : Option Int) (s : Int) (_ : vs = [optV x, .int s]) (_ : Q (.bl (takesA x s)) H) : SpTakes vs H Q
def spTakes : Sp := fun vs H Q _ => SpTakes vs H Q
theorem ok_takes {f : Addr} {fd : FuncData} (F : Fun K "takes" "takes" s_takes f fd) : FnOk P w K mg base CX0 1 f fd p_takes spTakes := by
  refine F.ok sc_takes (fun vs H Q E h => ?_) (fun cdv A outer s H vs Q E hr h => ?_)
  · obtain ⟨x, s, rfl, _⟩ := h
    rfl
  · obtain ⟨x, s, rfl, k⟩ := h
    refine ⟨_, (@pss_one _ _ _ (@ps_ret _ _ _ _ (@pe_or _ _ _ _ _ _ _ (@pe_cmpR _ _ _ _ _ _ _ _ (@op_isN _) (pv 0) (@pe_non _ _ _) (nomark _)) (@pe_one _ _ _ _ _ (@pe_cmpR _ _ _ _ _ _ _ _ (@op_eq _) (pv 0) (pv 1) (nomark _)))))), ?_⟩
    try dsimp only [cxK]
    refine ⟨_, rfl, rfl, _, rfl, ?_⟩
    cases x with
    | none => exact iteT k
    | some i =>
      have e : decide (optV (some i) = V.int s) = takesA (some i) s := dec_int i s
      rw [← e] at k
      exact iteF ⟨_, rfl, _, rfl, rfl, k⟩
/-! ### Amounts, Places, Clause: made -/
inductive SpAmInit (a : Ad) (vs : List V) (H : Hp) (Q : VK) : Prop
  | mk (p t dx : Addr) (s : Int) (_ : vs = [.ref p, .int s, .ref t]) (_ : H p = some (.ins a.c_Amounts dx [])) (_ : Q .non (upd H p (.ins a.c_Amounts dx (fl2 "state" "numbers" (.int s) (.ref t))))) : SpAmInit a vs H Q
def spAmInit (a : Ad) : Sp := fun vs H Q _ => SpAmInit a vs H Q
theorem ok_AmInit {f : Addr} {fd : FuncData} (F : Fun K "__init__" "Amounts.__init__" s_Amounts_init f fd) (T : Top K mg a) : FnOk P w K mg base CX0 1 f fd p_Amounts_init (spAmInit a) := by
  refine F.ok sc_Amounts_init (fun vs H Q E h => ?_) (fun cdv A outer s H vs Q E hr h => ?_)
  · obtain ⟨p, t, dx, s, rfl, _⟩ := h
    rfl
  · obtain ⟨p, t, dx, s, rfl, hp, k⟩ := h
    refine ⟨_, (@pss_cons _ _ _ _ _ (@ps_fld _ _ _ _ _ _ _ _ (pv 0) (pv 1) rfl) (@pss_one _ _ _ (@ps_fld _ _ _ _ _ _ _ _ (pv 0) (pv 2) rfl))), ?_⟩
    try dsimp only [cxK]
    refine ⟨_, rfl, _, rfl, p, _, dx, [], rfl, hp, T.cl_Amounts, T.na_Amounts_state, (by show 0 < 1000; decide), _, rfl, _, rfl, p, _, dx, _, rfl, upd_same, T.cl_Amounts, T.na_Amounts_numbers, (by show 1 < 1000; decide), ?_⟩
    rw [upd_upd]
    exact k
inductive SpPlInit (a : Ad) (vs : List V) (H : Hp) (Q : VK) : Prop
  | mk (p t dx : Addr) (_ : vs = [.ref p, .ref t]) (_ : H p = some (.ins a.c_Places dx [])) (_ : Q .non (upd H p (.ins a.c_Places dx (fl1 "wanted" (.ref t))))) : SpPlInit a vs H Q
def spPlInit (a : Ad) : Sp := fun vs H Q _ => SpPlInit a vs H Q
theorem ok_PlInit {f : Addr} {fd : FuncData} (F : Fun K "__init__" "Places.__init__" s_Places_init f fd) (T : Top K mg a) : FnOk P w K mg base CX0 1 f fd p_Places_init (spPlInit a) := by
  refine F.ok sc_Places_init (fun vs H Q E h => ?_) (fun cdv A outer s H vs Q E hr h => ?_)
  · obtain ⟨p, t, dx, rfl, _⟩ := h
    rfl
  · obtain ⟨p, t, dx, rfl, hp, k⟩ := h
    refine ⟨_, (@pss_one _ _ _ (@ps_fld _ _ _ _ _ _ _ _ (pv 0) (pv 1) rfl)), ?_⟩
    try dsimp only [cxK]
    exact ⟨_, rfl, _, rfl, p, _, dx, [], rfl, hp, T.cl_Places, T.na_Places_wanted, (by show 0 < 1000; decide), k⟩
inductive SpClInit (a : Ad) (vs : List V) (H : Hp) (Q : VK) : Prop
  | mk (p t dx : Addr) (c : Option Int) (m : Int) (_ : vs = [.ref p, optV c, .ref t, .int m]) (_ : H p = some (.ins a.c_Clause dx [])) (_ : Q .non (upd H p (.ins a.c_Clause dx (fl3 "cell" "conditions" "makes" (optV c) (.ref t) (.int m))))) : SpClInit a vs H Q
def spClInit (a : Ad) : Sp := fun vs H Q _ => SpClInit a vs H Q
theorem ok_ClInit {f : Addr} {fd : FuncData} (F : Fun K "__init__" "Clause.__init__" s_Clause_init f fd) (T : Top K mg a) : FnOk P w K mg base CX0 1 f fd p_Clause_init (spClInit a) := by
  refine F.ok sc_Clause_init (fun vs H Q E h => ?_) (fun cdv A outer s H vs Q E hr h => ?_)
  · obtain ⟨p, t, dx, c, m, rfl, _⟩ := h
    rfl
  · obtain ⟨p, t, dx, c, m, rfl, hp, k⟩ := h
    refine ⟨_, (@pss_cons _ _ _ _ _ (@ps_fld _ _ _ _ _ _ _ _ (pv 0) (pv 1) rfl) (@pss_cons _ _ _ _ _ (@ps_fld _ _ _ _ _ _ _ _ (pv 0) (pv 2) rfl) (@pss_one _ _ _ (@ps_fld _ _ _ _ _ _ _ _ (pv 0) (pv 3) rfl)))), ?_⟩
    try dsimp only [cxK]
    refine ⟨_, rfl, _, rfl, p, _, dx, [], rfl, hp, T.cl_Clause, T.na_Clause_cell, (by show 0 < 1000; decide), _, rfl, _, rfl, p, _, dx, _, rfl, upd_same, T.cl_Clause, T.na_Clause_conditions, (by show 1 < 1000; decide), _, rfl, _, rfl, p, _, dx, _, rfl, upd_same, T.cl_Clause, T.na_Clause_makes,
      Nat.lt_of_le_of_lt (putF_len _ _ _) (by show 2 < 1000; decide), ?_⟩
    rw [upd_upd, upd_upd]
    exact k
/-! ### holds -/
def spAmHolds (a : Ad) : Sp := fun vs H Q E => (∃ (p l t dx : Addr) (s : Int) (ns ar : List Int), vs = [.ref p, .ref l] ∧ H p = some (.ins a.c_Amounts dx (fl2 "state" "numbers" (.int s) (.ref t))) ∧ H t = some (.tup (ns.map V.int)) ∧ H l = some (.lst (ar.map V.int)) ∧ Q (.bl (CondA.holds ar (.am s ns))) H)
theorem ok_AmHolds {f : Addr} {fd : FuncData} (F : Fun K "holds" "Amounts.holds" s_Amounts_holds f fd) (T : Top K mg a) : FnOk P w K mg base CX0 1 f fd p_Amounts_holds (spAmHolds a) := by
  refine F.ok sc_Amounts_holds (fun vs H Q E h => ?_) (fun cdv A outer s H vs Q E hr h => ?_)
  · obtain ⟨p, l, t, dx, s, ns, ar, rfl, _⟩ := h
    rfl
  · obtain ⟨p, l, t, dx, s, ns, ar, rfl, hp, ht, hl, k⟩ := h
    refine ⟨_, (@pss_one _ _ _ (@ps_ret _ _ _ _ (@pe_cmpR _ _ _ _ _ _ _ _ (@op_in_seq _) (@pe_bm _ _ _ _ _ _ _ _ _ _ _ _ PySem.F.plainAttrs_list PySem.F.slot_list_count PySem.F.type_list_count (@mt_count _) (pv 1) (@pa_cons _ _ _ _ _ (@pe_fld _ _ _ _ _ (pv 0) rfl) (@pa_nil _) rfl) rfl rfl rfl rfl rfl) (@pe_fld _ _ _ _ _ (pv 0) rfl) rfl))), ?_⟩
    try dsimp only [cxK]
    refine ⟨_, rfl, .inl ⟨rfl, _, SqL.of hl⟩, _, rfl, p, _, dx, _, _, rfl, hp, T.cl_Amounts, T.na_Amounts_state, fl2_1 (by decide +kernel), l, ar, s, rfl, rfl, hl, _, rfl, p, _, dx, _, _, rfl, hp, T.cl_Amounts, T.na_Amounts_numbers, fl2_2, t, _, rfl, .inr (SqT.of ht), rfl, flat_ints ns, ?_⟩
    show Q (.bl (inV _ _)) H
    rw [in_ints]
    exact k
inductive SpPlHolds (a : Ad) (vs : List V) (H : Hp) (Q : VK) : Prop
  | mk (p l t dx : Addr) (ws : List (Option Int)) (ar : List Int) (_ : vs = [.ref p, .ref l]) (_ : H p = some (.ins a.c_Places dx (fl1 "wanted" (.ref t)))) (_ : H t = some (.tup (ws.map optV))) (_ : H l = some (.lst (ar.map V.int))) (_ : ws.length ≤ 100) (_ : ∀ H', Same H H' → Q (.bl (CondA.holds ar (.pl ws))) H') : SpPlHolds a vs H Q
def spPlHolds (a : Ad) : Sp := fun vs H Q _ => SpPlHolds a vs H Q
theorem ok_PlHolds {f : Addr} {fd : FuncData} (F : Fun K "holds" "Places.holds" s_Places_holds f fd) (T : Top K mg a) (C_takes : Cal P w K mg base CX0 1 "takes" p_takes spTakes) : FnOk P w K mg base CX0 2 f fd p_Places_holds (spPlHolds a) := by
  refine F.ok sc_Places_holds (fun vs H Q E h => ?_) (fun cdv A outer s H vs Q E hr h => ?_)
  · obtain ⟨p, l, t, dx, ws, ar, rfl, _⟩ := h
    rfl
  · obtain ⟨p, l, t, dx, ws, ar, rfl, hp, ht, hl, hw, k⟩ := h
    refine ⟨_, (@pss_one _ _ _ (@ps_ret _ _ _ _ (@pe_callB _ _ _ _ _ _ _ _ _ (@call_all _ rfl) rfl T.b_all PyProof.Rows.boot_all (@pa_cons _ _ _ _ _ (@pe_comp _ _ _ _ _ _ _ _ _ _ _ _ _ _ rfl (@CScope.of _ ((defScope s_Places_holds)) (n_Places_holds) _ (["one", "state"]) (2) ([]) rfl rfl (by decide +kernel)) (@pi_zip _ _ _ _ _ _ _ _ _ true false rfl T.b_zip (@pa_cons _ _ _ _ _ (@pe_fld _ _ _ _ _ (pv 0) rfl) (@pa_cons _ _ _ _ _ (pv 1) (@pa_nil _) rfl) rfl) rfl rfl) (fun _ _ _ => (@pgc_pair _ _ _ _ _ _ _ _ _ _ _ _ (0) (1) rfl (by decide +kernel) rfl rfl rfl rfl)) (fun _ _ _ => (@pts_nil _)) (fun _ _ _ => (@pe_cal _ _ _ _ _ _ _ _ _ _ _ _ C_takes (rm hr) rfl pass0 (@pa_cons _ _ _ _ _ (pv 0) (@pa_cons _ _ _ _ _ (pv 1) (@pa_nil _) rfl) rfl) (by decide) rfl rfl)) (by intro _ ; rfl)) (@pa_nil _) rfl) (by decide) (by decide) rfl rfl))), ?_⟩
    try dsimp only [cxK]
    refine ⟨_, rfl, p, _, dx, _, _, rfl, hp, T.cl_Places, T.na_Places_wanted, fl1_1, _, rfl, t, l, rfl, ⟨_, SqT.of ht⟩, ⟨_, SqL.of hl⟩, ?_⟩
    refine blk_zip (xs := ws.map optV) (ys := ar.map V.int) (fun i acc H2 => Same H H2 ∧ acc = (((ws.zip ar).take i).map fun p => V.bl (takesA p.1 p.2))) ⟨Same.refl H, rfl⟩ (fun i acc H2 z => ⟨SqT.of (z.1 _ _ ht), SqL.of (z.1 _ _ hl)⟩) ?_ ?_
    · rintro i x y acc H2 T' hx hy ⟨sm, rfl⟩ nT
      rw [List.getElem?_map] at hx hy
      obtain ⟨o, eo, rfl⟩ := Option.map_eq_some_iff.mp hx
      obtain ⟨m, em, rfl⟩ := Option.map_eq_some_iff.mp hy
      have ez : (ws.zip ar)[i]? = some (o, m) := by rw [List.getElem?_zip_eq_some]; exact ⟨eo, em⟩
      refine gpair upd_same ⟨⟨[some (optV o), some (.int m)], rfl, rfl⟩, ?_, ?_⟩
      · have : ((((ws.zip ar).take i).map fun p => V.bl (takesA p.1 p.2))).length ≤ ws.length := by
          rw [List.length_map, List.length_take, List.length_zip]; omega
        exact Nat.lt_of_le_of_lt (Nat.le_trans this hw) (by decide)
      · refine tyes ?_
        refine ⟨_, rfl, _, rfl, o, m, rfl, sm.trans (same_upd nT), ?_⟩
        rw [List.take_add_one, ez, List.map_append]
        rfl
    · rintro acc H2 ⟨sm, rfl⟩ q nq
      have len : min (ws.map optV).length (ar.map V.int).length = (ws.zip ar).length := by rw [List.length_map, List.length_map, List.length_zip]
      rw [len, List.take_length]
      refine ⟨q, (ws.zip ar).map (fun p => takesA p.1 p.2), rfl, SqL.of (by rw [upd_same, List.map_map]; rfl), ?_⟩
      have e : ((ws.zip ar).map (fun p => takesA p.1 p.2)).all id = CondA.holds ar (.pl ws) := by rw [List.all_map]; rfl
      rw [e]
      exact k _ (sm.trans (same_upd nq))
/-! ### a clause fits -/
inductive SpFits (a : Ad) (vs : List V) (H : Hp) (Q : VK) : Prop
  | mk (p l : Addr) (c : ClauseA) (cell : Int) (ar : List Int) (_ : vs = [.ref p, .int cell, .ref l]) (_ : ClauseAt a H p c) (_ : c.conds.length ≤ 1000) (_ : (∀ d ∈ c.conds, ∀ ws, d = CondA.pl ws → ws.length ≤ 100)) (_ : H l = some (.lst (ar.map V.int))) (_ : ∀ H', Same H H' → Q (.bl (c.fits cell ar)) H') : SpFits a vs H Q
def spFits (a : Ad) : Sp := fun vs H Q _ => SpFits a vs H Q
theorem ok_Fits {f : Addr} {fd : FuncData} (F : Fun K "fits" "Clause.fits" s_Clause_fits f fd) (T : Top K mg a) (C_takes : Cal P w K mg base CX0 1 "takes" p_takes spTakes) (M_Am : CalM P w K mg base CX0 1 a.c_Amounts "holds" p_Amounts_holds (spAmHolds a)) (M_Pl : CalM P w K mg base CX0 2 a.c_Places "holds" p_Places_holds (spPlHolds a)) :
    FnOk P w K mg base CX0 3 f fd p_Clause_fits (spFits a) := by
  refine F.ok sc_Clause_fits (fun vs H Q E h => ?_) (fun cdv A outer s H vs Q E hr h => ?_)
  · obtain ⟨p, l, c, cell, ar, rfl, _⟩ := h
    rfl
  · obtain ⟨p, l, c, cell, ar, rfl, hC, hn, hn2, hl, k⟩ := h
    obtain ⟨dx, t, cs, hp, ht, hcs⟩ := hC.ex
    refine ⟨_, (@pss_one _ _ _ (@ps_ret _ _ _ _ (@pe_and _ _ _ _ _ _ _ (@pe_cal _ _ _ _ _ _ _ _ _ _ _ _ C_takes (rm hr) rfl pass0 (@pa_cons _ _ _ _ _ (@pe_fld _ _ _ _ _ (pv 0) rfl) (@pa_cons _ _ _ _ _ (pv 1) (@pa_nil _) rfl) rfl) (by decide) rfl rfl) (@pe_one _ _ _ _ _ (@pe_callB _ _ _ _ _ _ _ _ _ (@call_all _ rfl) rfl T.b_all PyProof.Rows.boot_all (@pa_cons _ _ _ _ _ (@pe_comp _ _ _ _ _ _ _ _ _ _ _ _ _ _ rfl (@CScope.of _ ((defScope s_Clause_fits)) (n_Clause_fits) _ (["condition", "around"]) (1) ([2]) rfl rfl (by decide +kernel)) (@pi_tup _ _ _ _ (@pe_fld _ _ _ _ _ (pv 0) rfl)) (fun _ _ _ => (@pgc_name _ _ _ _ _ _ _ _ (0) (by decide +kernel) rfl rfl)) (fun _ _ _ => (@pts_nil _)) (fun _ _ _ => (@PE.or _ _ _ _ (@pe_calm _ _ _ _ _ _ _ _ _ _ _ _ _ _ _ _ (pv 0) M_Am (rm hr) pass0 (@pa_cons _ _ _ _ _ (pv 1) (@pa_nil _) rfl) rfl rfl rfl) (@pe_calm _ _ _ _ _ _ _ _ _ _ _ _ _ _ _ _ (pv 0) M_Pl (rm hr) pass0 (@pa_cons _ _ _ _ _ (pv 1) (@pa_nil _) rfl) rfl rfl rfl))) (by intro _ ; rfl)) (@pa_nil _) rfl) (by decide) (by decide) rfl rfl))))), ?_⟩
    try dsimp only [cxK]
    refine ⟨_, rfl, p, _, dx, _, _, rfl, hp, T.cl_Clause, T.na_Clause_cell, fl3_1 (by decide +kernel) (by decide +kernel), _, rfl, c.cell, cell, rfl, takesA c.cell cell, rfl, ?_⟩
    cases et : takesA c.cell cell with
    | false =>
      refine iteF ?_
      have := k H (Same.refl H)
      unfold ClauseA.fits at this
      rw [et] at this
      exact this
    | true =>
      refine iteT ?_
      have ln : cs.length = c.conds.length := Paired.length hcs
      refine ⟨_, rfl, p, _, dx, _, _, rfl, hp, T.cl_Clause, T.na_Clause_conditions, fl3_2 (by decide +kernel), t, rfl, ⟨_, SqT.of ht⟩, ?_⟩
      refine blk_tup (xs := cs.map V.ref) (fun i acc H2 => Same H H2 ∧ acc = ((c.conds.take i).map fun d => V.bl (CondA.holds ar d))) ⟨Same.refl H, rfl⟩ (fun i acc H2 _ z => SqT.of (z.1 _ _ ht)) ?_ ?_
      · rintro i x acc H2 hx ⟨sm, rfl⟩
        rw [List.getElem?_map] at hx
        obtain ⟨q, eq, rfl⟩ := Option.map_eq_some_iff.mp hx
        obtain ⟨d, ed, hd⟩ := Paired.get hcs eq
        have hd2 := hd.same sm
        refine ⟨⟨[some (.ref q)], rfl, rfl⟩, ?_, ?_⟩
        · have : ((c.conds.take i).map fun d => V.bl (CondA.holds ar d)).length ≤ c.conds.length := by
            rw [List.length_map, List.length_take]; omega
          exact Nat.lt_of_le_of_lt (Nat.le_trans this hn) (by decide)
        · refine tyes ?_
          have nx : ∀ H4, Same H2 H4 → Same H H4 ∧ ((c.conds.take i).map fun d => V.bl (CondA.holds ar d)) ++ [V.bl (CondA.holds ar d)] = ((c.conds.take (i + 1)).map fun d => V.bl (CondA.holds ar d)) := fun H4 s4 => ⟨sm.trans s4, by
            rw [List.take_add_one, ed, List.map_append]; rfl⟩
          have md : d ∈ c.conds := List.mem_of_getElem? ed
          cases hd2 with
          | @am t2 dx2 s ns h1 h2 => exact .inl ⟨_, rfl, q, dx2, _, rfl, h1, fl2_no (by decide +kernel) (by decide +kernel), _, rfl, q, l, t2, dx2, s, ns, ar, rfl, h1, h2, sm _ _ hl, nx H2 (Same.refl H2)⟩
          | @pl t2 dx2 ws h1 h2 => exact .inr ⟨_, rfl, q, dx2, _, rfl, h1, fl1_no (by decide +kernel), _, rfl, q, l, t2, dx2, ws, ar, rfl, h1, h2, sm _ _ hl, hn2 _ md ws rfl, fun H4 s4 => nx H4 s4⟩
      · rintro acc H2 ⟨sm, rfl⟩ q nq
        rw [List.length_map, ln, List.take_length]
        refine ⟨q, c.conds.map (CondA.holds ar), rfl, SqL.of (by rw [upd_same, List.map_map]; rfl), ?_⟩
        have e : (c.conds.map (CondA.holds ar)).all id = c.fits cell ar := by
          unfold ClauseA.fits
          rw [et, List.all_map]; rfl
        rw [e]
        exact k _ (sm.trans (same_upd nq))
/-! ### deciding, becomes -/
def ROk (r : RuleA) : Prop := r.length ≤ 5000 ∧ ∀ c ∈ r, c.conds.length ≤ 1000 ∧ ∀ d ∈ c.conds, ∀ ws, d = CondA.pl ws → ws.length ≤ 100
def decV (o : Option Nat) : V := match o with
  | none => .non
  | some n => .int n
inductive SpDec (a : Ad) (vs : List V) (H : Hp) (Q : VK) : Prop
  | mk (p l : Addr) (z : Str) (r : RuleA) (cell : Int) (ar : List Int) (_ : vs = [.ref p, .int cell, .ref l]) (_ : RuleAt a H p z r) (_ : ROk r) (_ : H l = some (.lst (ar.map V.int))) (_ : ∀ H', Same H H' → Q (decV (decA r cell ar)) H') : SpDec a vs H Q
def spDec (a : Ad) : Sp := fun vs H Q _ => SpDec a vs H Q
theorem ok_dec {f : Addr} {fd : FuncData} (F : Fun K "deciding" "deciding" s_deciding f fd) (T : Top K mg a) (M_Clause_fits : CalM P w K mg base CX0 3 a.c_Clause "fits" p_Clause_fits (spFits a)) : FnOk P w K mg base CX0 4 f fd p_deciding (spDec a) := by
  refine F.ok sc_deciding (fun vs H Q E h => ?_) (fun cdv A outer s H vs Q E hr h => ?_)
  · obtain ⟨p, l, z, r, cell, ar, rfl, _⟩ := h
    rfl
  · obtain ⟨p, l, z, r, cell, ar, rfl, hR, hn, hl, k⟩ := h
    obtain ⟨dx, t, cs, hp, ht, hcs⟩ := hR.ex
    have ln : cs.length = r.length := Paired.length hcs
    refine ⟨_, (@pss_cons _ _ _ _ _ (@ps_for _ _ _ _ _ _ _ _ PassesOwn.never rfl (@pi_enum _ _ _ _ _ _ _ _ true rfl T.b_enumerate (@pa_cons _ _ _ _ _ (@pe_fld _ _ _ _ _ (pv 0) rfl) (@pa_nil _) rfl) rfl) (@pg_tup _ _ _ _ _ _ rfl (@pgs_cons _ _ _ _ _ (@pg_name _ _ (3) _ sc_deciding.nd rfl (Or.inl rfl) (by first | exact .inl rfl | exact .inr rfl | assumption)) (@pgs_cons _ _ _ _ _ (@pg_name _ _ (4) _ sc_deciding.nd rfl (Or.inl rfl) (by first | exact .inl rfl | exact .inr rfl | assumption)) (@pgs_nil _) rfl) rfl) rfl rfl) (@pss_one _ _ _ (@ps_if _ _ _ _ _ _ _ _ (@pt_val _ _ _ (@pe_calm _ _ _ _ _ _ _ _ _ _ _ _ _ _ _ _ (pv 4) M_Clause_fits (rm hr) pass0 (@pa_cons _ _ _ _ _ (pv 1) (@pa_cons _ _ _ _ _ (pv 2) (@pa_nil _) rfl) rfl) rfl rfl rfl) (by intro _ ; rfl)) (@pss_one _ _ _ (@ps_ret _ _ _ _ (pv 3))) (@pss_nil _))) (by intro _ ; rfl)) (@pss_one _ _ _ (@ps_ret _ _ _ _ (@pe_non _ _ _)))), ?_⟩
    try dsimp only [cxK]
    refine ⟨_, rfl, p, _, dx, _, _, rfl, hp, T.cl_Rule, T.na_Rule_clauses, fl2_2, t, rfl, ⟨_, SqT.of ht⟩, ?_⟩
    refine for_enum (b := true) (xs := cs.map V.ref) (fun i σ H2 => Same H H2 ∧ (∃ u v, σ = [some (.ref p), some (.int cell), some (.ref l), u, v]) ∧ ∀ c ∈ r.take i, c.fits cell ar = false) ⟨Same.refl H, ⟨none, none, rfl⟩, fun c hc => by simp at hc⟩ (fun i σ H2 _ q => SqT.of (q.1 _ _ ht)) ?_ ?_
    · rintro i x σ H2 T' hx ⟨sm, ⟨u, v, rfl⟩, no⟩ nT
      rw [List.getElem?_map] at hx
      obtain ⟨q, eq, rfl⟩ := Option.map_eq_some_iff.mp hx
      obtain ⟨c, ec, hc⟩ := Paired.get hcs eq
      have s3 := sm.trans (same_upd (o := .tup [.int i, .ref q]) nT)
      have hc3 := hc.same s3
      obtain ⟨dx2, t2, cs2, h1, _⟩ := hc3.ex
      refine gpair upd_same ?_
      have mc := List.mem_of_getElem? ec
      refine ⟨_, rfl, q, dx2, _, rfl, h1, fl3_no (by decide +kernel) (by decide +kernel) (by decide +kernel), _, rfl, _, rfl, q, l, c, cell, ar, rfl, hc3, (hn.2 c mc).1, (hn.2 c mc).2, s3 _ _ hl, fun H4 s4 => ⟨_, rfl, ?_⟩⟩
      cases ef : c.fits cell ar with
      | true =>
        refine iteT ?_
        refine ⟨_, rfl, ?_⟩
        have e : decA r cell ar = some i := by
          unfold decA
          rw [List.findIdx?_eq_some_iff_getElem]
          have hi : i < r.length := (List.getElem?_eq_some_iff.mp ec).1
          refine ⟨hi, ?_, fun j hj => ?_⟩
          · rw [(List.getElem?_eq_some_iff.mp ec).2]; exact ef
          · have := no r[j] (List.mem_take_iff_getElem.mpr ⟨j, by omega, rfl⟩)
            rw [this]; exact Bool.false_ne_true
        have := k H4 (s3.trans s4)
        rw [e] at this
        exact this
      | false =>
        refine iteF ⟨s3.trans s4, ⟨_, _, rfl⟩, fun d hd => ?_⟩
        rw [List.take_add_one, ec] at hd
        rcases List.mem_append.mp hd with z | z
        · exact no d z
        · have : d = c := by simpa using z
          rw [this]; exact ef
    · rintro σ H2 ⟨sm, ⟨u, v, rfl⟩, no⟩
      rw [List.length_map, ln, List.take_length] at no
      have e : decA r cell ar = none := by
        unfold decA
        rw [List.findIdx?_eq_none_iff]
        exact no
      have := k H2 sm
      rw [e] at this
      exact this
inductive SpBec (a : Ad) (vs : List V) (H : Hp) (Q : VK) : Prop
  | mk (p l : Addr) (z : Str) (r : RuleA) (cell : Int) (ar : List Int) (_ : vs = [.ref p, .int cell, .ref l]) (_ : RuleAt a H p z r) (_ : ROk r) (_ : H l = some (.lst (ar.map V.int))) (_ : ∀ H', Same H H' → Q (.int (becA r cell ar)) H') : SpBec a vs H Q
def spBec (a : Ad) : Sp := fun vs H Q _ => SpBec a vs H Q
theorem bec_none {r : RuleA} {cell : Int} {ar : List Int} (h : decA r cell ar = none) : becA r cell ar = cell := by
  unfold decA at h
  rw [List.findIdx?_eq_none_iff] at h
  unfold becA
  rw [List.find?_eq_none.mpr fun c hc => by rw [h c hc]; exact Bool.false_ne_true]
theorem bec_some {r : RuleA} {cell : Int} {ar : List Int} {i : Nat} (h : decA r cell ar = some i) : ∃ c, r[i]? = some c ∧ becA r cell ar = c.makes := by
  unfold decA at h
  rw [List.findIdx?_eq_some_iff_getElem] at h
  obtain ⟨hi, h1, h2⟩ := h
  refine ⟨r[i], List.getElem?_eq_getElem hi, ?_⟩
  unfold becA
  have : r.find? (ClauseA.fits cell ar) = some r[i] := by
    rw [List.find?_eq_some_iff_getElem]
    exact ⟨h1, i, hi, rfl, fun j hj => by simpa using h2 j hj⟩
  rw [this]
theorem ok_bec {f : Addr} {fd : FuncData} (F : Fun K "becomes" "becomes" s_becomes f fd) (T : Top K mg a) (C_deciding : Cal P w K mg base CX0 4 "deciding" p_deciding (spDec a)) : FnOk P w K mg base CX0 5 f fd p_becomes (spBec a) := by
  refine F.ok sc_becomes (fun vs H Q E h => ?_) (fun cdv A outer s H vs Q E hr h => ?_)
  · obtain ⟨p, l, z, r, cell, ar, rfl, _⟩ := h
    rfl
  · obtain ⟨p, l, z, r, cell, ar, rfl, hR, hn, hl, k⟩ := h
    refine ⟨_, (@pss_cons _ _ _ _ _ (@ps_set _ _ (3) _ _ _ _ sc_becomes.nd rfl (Or.inl rfl) (@pe_cal _ _ _ _ _ _ _ _ _ _ _ _ C_deciding (rm hr) rfl pass0 (@pa_cons _ _ _ _ _ (pv 0) (@pa_cons _ _ _ _ _ (pv 1) (@pa_cons _ _ _ _ _ (pv 2) (@pa_nil _) rfl) rfl) rfl) (by decide) rfl rfl) rfl (by first | exact .inl rfl | exact .inr rfl | assumption)) (@pss_cons _ _ _ _ _ (@ps_if _ _ _ _ _ _ _ _ (@pt_cmpR _ _ _ _ _ _ _ _ (@op_isN _) (pv 3) (@pe_non _ _ _) (nomark _)) (@pss_one _ _ _ (@ps_ret _ _ _ _ (pv 1))) (@pss_nil _)) (@pss_one _ _ _ (@ps_ret _ _ _ _ (@pe_fld _ _ _ _ _ (@pe_ix _ _ _ _ _ _ _ (@ix_tup _) (@pe_fld _ _ _ _ _ (pv 0) rfl) (pv 3) (fun _ _ => rfl)) rfl))))), ?_⟩
    try dsimp only [cxK]
    refine ⟨_, rfl, _, rfl, _, rfl, p, l, z, r, cell, ar, rfl, hR, hn, hl, fun H2 s2 => ?_⟩
    refine ⟨_, rfl, rfl, _, rfl, ?_⟩
    cases e : decA r cell ar with
    | none =>
      refine iteT ⟨_, rfl, ?_⟩
      have := k H2 s2
      rw [bec_none e] at this
      exact this
    | some i =>
      obtain ⟨c, ec, em⟩ := bec_some e
      obtain ⟨dx, t, cs, hp, ht, hcs⟩ := hR.ex
      obtain ⟨q, eq⟩ : ∃ q, cs[i]? = some q := by
        have ln : cs.length = r.length := Paired.length hcs
        have : i < cs.length := by rw [ln]; exact (List.getElem?_eq_some_iff.mp ec).1
        exact ⟨_, List.getElem?_eq_getElem this⟩
      obtain ⟨c', ec', hc⟩ := Paired.get hcs eq
      rw [ec] at ec'
      cases ec'
      obtain ⟨dx2, t2, cs2, h1, _⟩ := (hc.same s2).ex
      refine iteF ⟨_, rfl, p, _, dx, _, _, rfl, s2 _ _ hp, T.cl_Rule, T.na_Rule_clauses, fl2_2, _, rfl, t, _, i, .ref q, rfl, rfl, SqT.of (s2 _ _ ht), atI_nat (by rw [List.getElem?_map, eq]; rfl), q, _, dx2, _, _, rfl, h1, T.cl_Clause, T.na_Clause_makes, fl3_3, ?_⟩
      have := k H2 s2
      rw [em] at this
      exact this
end
end J

set_option Elab.async false
set_option linter.all false
set_option maxRecDepth 100000
/-! Rules: read from their texts. -/
namespace J
open PySem L2
def sgD (d : Int) : Str := ⟨#[48 + d.toNat]⟩
def wC : Option Int → Nat
  | none => 42
  | some d => 48 + d.toNat
def wS (x : Option Int) : Str := ⟨#[wC x]⟩
def digsT (ns : List Int) : Str := ⟨(ns.map fun n => 48 + n.toNat).toArray⟩
def condT : CondA → Str
  | .am s ns => sgD s ++ ⟨#[61]⟩ ++ digsT ns
  | .pl ws => ⟨(ws.map wC).toArray⟩
def clauseT (c : ClauseA) : Str := Str.join ⟨#[32]⟩ (wS c.cell :: (c.conds.map condT ++ [sgD c.makes]))
def markT : Str := ⟨#[59, 32]⟩
def ruleT (r : RuleA) : Str := Str.join markT (r.map clauseT)
def stOk (d : Int) : Prop := 0 ≤ d ∧ d < 8
def wOk : Option Int → Prop
  | none => True
  | some d => stOk d
def CondA.ok : CondA → Prop
  | .am s ns => stOk s ∧ ns ≠ [] ∧ (∀ n ∈ ns, 0 ≤ n ∧ n ≤ 8) ∧ ns.Pairwise (· < ·)
  | .pl ws => ws.length = 8 ∧ ∀ w ∈ ws, wOk w
structure ClauseA.ok (c : ClauseA) : Prop where
  cell : wOk c.cell
  makes : stOk c.makes
  few : c.conds.length ≤ 1000
  conds : ∀ d ∈ c.conds, d.ok
theorem eight {d : Int} (h : stOk d) : d = 0 ∨ d = 1 ∨ d = 2 ∨ d = 3 ∨ d = 4 ∨ d = 5 ∨ d = 6 ∨ d = 7 := by
  obtain ⟨m, rfl⟩ := Int.eq_ofNat_of_zero_le h.1
  have h1 := h.2
  exact (show ∀ m : Nat, m < 8 → ((m : Int) = 0 ∨ (m : Int) = 1 ∨ (m : Int) = 2 ∨ (m : Int) = 3 ∨ (m : Int) = 4 ∨ (m : Int) = 5 ∨ (m : Int) = 6 ∨ (m : Int) = 7) by decide) m (by omega)
abbrev figs8 : Str := Str.ofString "01234567"
abbrev figs9 : Str := Str.ofString "012345678"
theorem st_facts {d : Int} (h : stOk d) : PySem.intText? (sgD d) = some d ∧ (!(Builtin.Str.occurrences figs8 (sgD d) 0 figs8.length 1).isEmpty) = true := by
  rcases eight h with rfl | rfl | rfl | rfl | rfl | rfl | rfl | rfl <;> exact ⟨by decide +kernel, by decide +kernel⟩
theorem nine {d : Int} (h0 : 0 ≤ d) (h1 : d ≤ 8) : d = 0 ∨ d = 1 ∨ d = 2 ∨ d = 3 ∨ d = 4 ∨ d = 5 ∨ d = 6 ∨ d = 7 ∨ d = 8 := by
  obtain ⟨m, rfl⟩ := Int.eq_ofNat_of_zero_le h0
  exact (show ∀ m : Nat, m < 9 → ((m : Int) = 0 ∨ (m : Int) = 1 ∨ (m : Int) = 2 ∨ (m : Int) = 3 ∨ (m : Int) = 4 ∨ (m : Int) = 5 ∨ (m : Int) = 6 ∨ (m : Int) = 7 ∨ (m : Int) = 8) by decide) m (by omega)
theorem am_facts {d : Int} (h0 : 0 ≤ d) (h1 : d ≤ 8) : PySem.intText? (⟨#[48 + d.toNat]⟩ : Str) = some d ∧ (!(Builtin.Str.occurrences figs9 (⟨#[48 + d.toNat]⟩ : Str) 0 figs9.length 1).isEmpty) = true := by
  rcases nine h0 h1 with rfl | rfl | rfl | rfl | rfl | rfl | rfl | rfl | rfl <;> exact ⟨by decide +kernel, by decide +kernel⟩
theorem star_no {d : Int} (h : stOk d) : decide (V.str (wS (some d)) = V.str (Str.ofString "*")) = false := by
  rcases eight h with rfl | rfl | rfl | rfl | rfl | rfl | rfl | rfl <;> decide +kernel
theorem wC_ne {x : Option Int} (h : wOk x) : wC x ≠ 61 ∧ wC x ≠ 32 ∧ wC x ≠ 59 := by
  cases x with
  | none => exact ⟨by decide, by decide, by decide⟩
  | some d =>
    have := h.1
    have := h.2
    show 48 + d.toNat ≠ 61 ∧ 48 + d.toNat ≠ 32 ∧ 48 + d.toNat ≠ 59
    refine ⟨?_, ?_, ?_⟩ <;> omega
theorem cond_free {d : CondA} (h : d.ok) : 32 ∉ (condT d).cps.toList ∧ 59 ∉ (condT d).cps.toList := by
  cases d with
  | am s ns =>
    obtain ⟨⟨s0, s1⟩, _, hn, _⟩ := h
    have e : (condT (.am s ns)).cps.toList = (48 + s.toNat) :: 61 :: ns.map fun n => 48 + n.toNat := by
      show (sgD s ++ ⟨#[61]⟩ ++ digsT ns).cps.toList = _
      rw [Tx.cps_app, Tx.cps_app]
      rfl
    rw [e]
    constructor
    · intro z
      rcases List.mem_cons.mp z with z | z
      · omega
      · rcases List.mem_cons.mp z with z | z
        · omega
        · obtain ⟨n, hn', e⟩ := List.mem_map.mp z
          have := hn n hn'
          omega
    · intro z
      rcases List.mem_cons.mp z with z | z
      · omega
      · rcases List.mem_cons.mp z with z | z
        · omega
        · obtain ⟨n, hn', e⟩ := List.mem_map.mp z
          have := hn n hn'
          omega
  | pl ws =>
    have e : (condT (.pl ws)).cps.toList = ws.map wC := rfl
    rw [e]
    constructor
    · intro z
      obtain ⟨x, hx, e⟩ := List.mem_map.mp z
      exact (wC_ne (h.2 x hx)).2.1 e
    · intro z
      obtain ⟨x, hx, e⟩ := List.mem_map.mp z
      exact (wC_ne (h.2 x hx)).2.2 e
theorem asc_len : ∀ (ns : List Int) (lo : Int), lo ≤ 9 → (∀ n ∈ ns, lo ≤ n ∧ n ≤ 8) → ns.Pairwise (· < ·) → (ns.length : Int) ≤ 9 - lo
  | [], lo, h, _, _ => by show (0 : Int) ≤ 9 - lo; omega
  | n :: r, lo, _, hn, hp => by
    have h1 := hn n List.mem_cons_self
    have h2 := asc_len r (n + 1) (by omega) (fun m hm => ⟨by have := (List.pairwise_cons.mp hp).1 m hm; omega, (hn m (List.mem_cons_of_mem _ hm)).2⟩) (List.pairwise_cons.mp hp).2
    rw [List.length_cons]
    omega
theorem cond_len {d : CondA} (h : d.ok) : (condT d).length ≤ 11 := by
  cases d with
  | am s ns =>
    obtain ⟨_, _, hn, hp⟩ := h
    have hl := asc_len ns 0 (by decide) hn hp
    rw [Nu.len]
    show (sgD s ++ ⟨#[61]⟩ ++ digsT ns).cps.toList.length ≤ 11
    rw [Tx.cps_app, Tx.cps_app, List.length_append, List.length_append]
    show 1 + 1 + (ns.map fun n => 48 + n.toNat).length ≤ 11
    rw [List.length_map]
    omega
  | pl ws =>
    rw [Nu.len]
    show (ws.map wC).length ≤ 11
    rw [List.length_map, h.1]
    decide
section
variable {P : Program} {w : World} {K : PySem.W.Frag} {mg : Str → Option Value} {base : Heap} {a : Ad}
theorem str_isi (K : PySem.W.Frag) : PySem.W.kitOne K (.type "str") (.type "str") = some true := by kernel_rfl
/-! ### states and wanted states -/
inductive SpRS (vs : List V) (H : Hp) (Q : VK) : Prop
  | mk (d : Int) (_ : vs = [.str (sgD d)]) (_ : stOk d) (_ : Q (.int d) H) : SpRS vs H Q
def spRS : Sp := fun vs H Q _ => SpRS vs H Q
theorem ok_rs {f : Addr} {fd : FuncData} (F : Fun K "read_state" "read_state" s_read_state f fd) (T : Top K mg a) : FnOk P w K mg base CX0 1 f fd p_read_state spRS := by
  refine F.ok sc_read_state (fun vs H Q E h => ?_) (fun cdv A outer s H vs Q E hr h => ?_)
  · obtain ⟨d, rfl, _⟩ := h
    rfl
  · obtain ⟨d, rfl, hd, k⟩ := h
    obtain ⟨e1, e2⟩ := st_facts hd
    refine ⟨_, (@pss_cons _ _ _ _ _ (@ps_if _ _ _ _ _ _ _ _ (@PW.pt _ _ _ (@pw_or _ _ _ _ _ _ _ (@pt_cmpR _ _ _ _ _ _ _ _ (@op_ne _) (@pe_callB _ _ _ _ _ _ _ _ _ (@call_len_str _) rfl T.b_len PySem.boot_len (@pa_cons _ _ _ _ _ (pv 0) (@pa_nil _) rfl) (by decide) (by decide) rfl rfl) (@pe_int _ _ _ _) (nomark _)) (@pw_or1 _ _ _ _ (@pt_cmpR _ _ _ _ _ _ _ _ (@op_notin_str _) (pv 0) (@pe_gstr _ _ _ _ rfl T.k_STATE_FIGURES (by decide)) rfl)))) (@pss_one _ _ _ (@ps_never _ _)) (@pss_nil _)) (@pss_one _ _ _ (@ps_ret _ _ _ _ (@pe_callTy _ _ _ _ _ _ _ _ _ (@call_int_text _) rfl T.b_int PyProof.Rows.boot_int (@pa_cons _ _ _ _ _ (pv 0) (@pa_nil _) rfl) (by decide) (by decide) rfl rfl)))), ?_⟩
    try dsimp only [cxK]
    refine ⟨_, rfl, _, rfl, (by show 1 ≤ sizeLine; decide), rfl, _, rfl, ?_⟩
    refine iteNS rfl ⟨_, rfl, _, _, rfl, rfl, _, rfl, ?_⟩
    rw [e2]
    exact iteF ⟨_, rfl, _, d, rfl, e1, (by show 1 ≤ 640; decide), k⟩
inductive SpRW (vs : List V) (H : Hp) (Q : VK) : Prop
  | mk (x : Option Int) (_ : vs = [.str (wS x)]) (_ : wOk x) (_ : Q (optV x) H) : SpRW vs H Q
def spRW : Sp := fun vs H Q _ => SpRW vs H Q
theorem ok_rw {f : Addr} {fd : FuncData} (F : Fun K "read_wanted" "read_wanted" s_read_wanted f fd) (T : Top K mg a) (C_read_state : Cal P w K mg base CX0 1 "read_state" p_read_state spRS) : FnOk P w K mg base CX0 2 f fd p_read_wanted spRW := by
  refine F.ok sc_read_wanted (fun vs H Q E h => ?_) (fun cdv A outer s H vs Q E hr h => ?_)
  · obtain ⟨x, rfl, _⟩ := h
    rfl
  · obtain ⟨x, rfl, hx, k⟩ := h
    refine ⟨_, (@pss_cons _ _ _ _ _ (@ps_if _ _ _ _ _ _ _ _ (@pt_cmpR _ _ _ _ _ _ _ _ (@op_eq _) (pv 0) (@pe_gstr _ _ _ _ rfl T.k_ANY_SIGN (by decide)) (nomark _)) (@pss_one _ _ _ (@ps_ret _ _ _ _ (@pe_non _ _ _))) (@pss_nil _)) (@pss_one _ _ _ (@ps_ret _ _ _ _ (@pe_cal _ _ _ _ _ _ _ _ _ _ _ _ C_read_state (rm hr) rfl pass0 (@pa_cons _ _ _ _ _ (pv 0) (@pa_nil _) rfl) (by decide) rfl rfl)))), ?_⟩
    try dsimp only [cxK]
    refine ⟨_, rfl, rfl, _, rfl, ?_⟩
    cases x with
    | none => exact iteT k
    | some d =>
      rw [star_no hx]
      exact iteF ⟨_, rfl, d, rfl, hx, k⟩
/-! ### conditions -/
inductive SpRN (vs : List V) (H : Hp) (Q : VK) : Prop
  | mk (ns : List Int) (_ : vs = [.str (digsT ns)]) (_ : ns ≠ []) (_ : ns.length ≤ 100) (_ : (∀ n ∈ ns, 0 ≤ n ∧ n ≤ 8)) (_ : ns.Pairwise (· < ·)) (_ : ∀ (t : Addr) (H' : Hp), Same H H' → H' t = some (.tup (ns.map V.int)) → Q (.ref t) H') : SpRN vs H Q
def spRN : Sp := fun vs H Q _ => SpRN vs H Q
theorem ok_rn {f : Addr} {fd : FuncData} (F : Fun K "read_numbers" "read_numbers" s_read_numbers f fd) (T : Top K mg a) : FnOk P w K mg base CX0 1 f fd p_read_numbers spRN := by
  refine F.ok sc_read_numbers (fun vs H Q E h => ?_) (fun cdv A outer s H vs Q E hr h => ?_)
  · obtain ⟨ns, rfl, _⟩ := h
    rfl
  · obtain ⟨ns, rfl, hne, hl, hn, hp, k⟩ := h
    have el : (digsT ns).length = ns.length := by rw [Nu.len]; show (ns.map _).length = _; rw [List.length_map]
    have ec : (digsT ns).cps.toList = ns.map fun n => 48 + n.toNat := rfl
    have pos : 0 < ns.length := List.length_pos_iff.mpr hne
    refine ⟨_, (@pss_cons _ _ _ _ _ (@ps_if _ _ _ _ _ _ _ _ (@pt_cmpR _ _ _ _ _ _ _ _ (@op_eq _) (@pe_callB _ _ _ _ _ _ _ _ _ (@call_len_str _) rfl T.b_len PySem.boot_len (@pa_cons _ _ _ _ _ (pv 0) (@pa_nil _) rfl) (by decide) (by decide) rfl rfl) (@pe_int _ _ _ _) (nomark _)) (@pss_one _ _ _ (@ps_never _ _)) (@pss_nil _)) (@pss_cons _ _ _ _ _ (@ps_set _ _ (1) _ _ _ _ sc_read_numbers.nd rfl (Or.inl rfl) (@pe_lst _ _ _ _ (@pa_nil _)) rfl (by first | exact .inl rfl | exact .inr rfl | assumption)) (@pss_cons _ _ _ _ _ (@ps_for _ _ _ _ _ _ _ _ PassesOwn.never rfl (@pi_str _ _ _ _ (pv 0)) (@pg_name _ _ (2) _ sc_read_numbers.nd rfl (Or.inl rfl) (by first | exact .inl rfl | exact .inr rfl | assumption)) (@pss_cons _ _ _ _ _ (@ps_if _ _ _ _ _ _ _ _ (@pt_cmpR _ _ _ _ _ _ _ _ (@op_notin_str _) (pv 2) (@pe_gstr _ _ _ _ rfl T.k_AMOUNT_FIGURES (by decide)) rfl) (@pss_one _ _ _ (@ps_never _ _)) (@pss_nil _)) (@pss_cons _ _ _ _ _ (@ps_if _ _ _ _ _ _ _ _ (@PW.pt _ _ _ (@pw_and _ _ _ _ _ _ _ (@pt_cmpR _ _ _ _ _ _ _ _ (@op_gt _) (@pe_callB _ _ _ _ _ _ _ _ _ (@call_len_seq _) rfl T.b_len PySem.boot_len (@pa_cons _ _ _ _ _ (pv 1) (@pa_nil _) rfl) (by decide) (by decide) rfl rfl) (@pe_int _ _ _ _) (nomark _)) (@pw_and1 _ _ _ _ (@pt_cmpR _ _ _ _ _ _ _ _ (@op_le _) (@pe_callTy _ _ _ _ _ _ _ _ _ (@call_int_text _) rfl T.b_int PyProof.Rows.boot_int (@pa_cons _ _ _ _ _ (pv 2) (@pa_nil _) rfl) (by decide) (by decide) rfl rfl) (@pe_ix _ _ _ _ _ _ _ (@ix_list _) (pv 1) (@pe_un _ _ _ _ _ _ (@un_neg _) (@pe_int _ _ _ _)) (fun _ _ => rfl)) (nomark _))))) (@pss_one _ _ _ (@ps_never _ _)) (@pss_nil _)) (@pss_one _ _ _ (@ps_expr _ _ _ _ (@pe_bm _ _ _ _ _ _ _ _ _ _ _ _ PySem.F.plainAttrs_list PySem.F.slot_list_append PySem.F.type_list_append (@mt_append _) (pv 1) (@pa_cons _ _ _ _ _ (@pe_callTy _ _ _ _ _ _ _ _ _ (@call_int_text _) rfl T.b_int PyProof.Rows.boot_int (@pa_cons _ _ _ _ _ (pv 2) (@pa_nil _) rfl) (by decide) (by decide) rfl rfl) (@pa_nil _) rfl) rfl rfl rfl rfl rfl) rfl)))) (by intro _ ; rfl)) (@pss_one _ _ _ (@ps_ret _ _ _ _ (@pe_callTy _ _ _ _ _ _ _ _ _ (@call_tuple_of _) rfl T.b_tuple PyProof.Rows.boot_tuple (@pa_cons _ _ _ _ _ (pv 1) (@pa_nil _) rfl) (by decide) (by decide) rfl rfl)))))), ?_⟩
    try dsimp only [cxK]
    refine ⟨_, rfl, _, rfl, (by rw [el]; exact Nat.le_trans hl (by decide)), rfl, _, rfl, ?_⟩
    have nz : decide (V.int ((digsT ns).length : Int) = V.int 0) = false := decide_eq_false fun z => by
      injection z with z
      omega
    rw [nz]
    refine iteF ⟨(by show 0 ≤ sizeLine; decide), fun l hl0 => ?_⟩
    refine ⟨_, rfl, _, rfl, ?_⟩
    refine for_str (fun i σ H2 => ∃ v, σ = [some (.str (digsT ns)), some (.ref l), v] ∧ H2 = upd H l (.lst ((ns.take i).map V.int))) ⟨none, rfl, rfl⟩ ?_ ?_
    · rintro i ch σ H2 hch ⟨v, rfl, rfl⟩
      have hch' : (ns.map fun n => 48 + n.toNat)[i]? = some ch := by rw [← ec]; simpa using hch
      rw [List.getElem?_map] at hch'
      obtain ⟨n, en, rfl⟩ := Option.map_eq_some_iff.mp hch'
      have mn := List.mem_of_getElem? en
      obtain ⟨f1, f2⟩ := am_facts (hn n mn).1 (hn n mn).2
      have hi : i < ns.length := (List.getElem?_eq_some_iff.mp en).1
      have tl : (ns.take i).length = i := by rw [List.length_take]; omega
      refine ⟨_, rfl, _, _, rfl, rfl, _, rfl, ?_⟩
      rw [f2]
      refine iteF ⟨_, rfl, l, _, rfl, .inl (SqL.of upd_same), _, _, rfl, rfl, _, rfl, ?_⟩
      have nx : ∃ v, ([some (V.str (digsT ns)), some (.ref l), some (.str ⟨#[48 + n.toNat]⟩)] : St) = [some (.str (digsT ns)), some (.ref l), v] ∧ upd (upd H l (.lst ((ns.take i).map V.int))) l (.lst ((ns.take i).map V.int ++ [V.int n])) = upd H l (.lst ((ns.take (i + 1)).map V.int)) := by
        refine ⟨_, rfl, ?_⟩
        rw [upd_upd, List.take_add_one, en, List.map_append]
        rfl
      have app : tDrop (tBM K "list" rAppend (tVar 1) (tCons (tCB (fun xs H Q => ∃ x n, xs = [.str x] ∧ PySem.intText? x = some n ∧ x.length ≤ 640 ∧ Q (.int n) H) (tCons (tVar 2) tNil)) tNil))
          { nx := fun σ H2 => ∃ v, σ = [some (.str (digsT ns)), some (.ref l), v] ∧ H2 = upd H l (.lst ((ns.take (i + 1)).map V.int)), rt := Q, bk := fun _ _ => False, ct := fun σ H2 => ∃ v, σ = [some (.str (digsT ns)), some (.ref l), v] ∧ H2 = upd H l (.lst ((ns.take (i + 1)).map V.int)) }
          [some (.str (digsT ns)), some (.ref l), some (.str ⟨#[48 + n.toNat]⟩)] (upd H l (.lst ((ns.take i).map V.int))) :=
        ⟨_, rfl, .inl ⟨rfl, _, SqL.of upd_same⟩, _, rfl, _, n, rfl, f1, (by show 1 ≤ 640; decide), l, _, _, rfl, rfl, upd_same, (by rw [List.length_map, tl]; exact Nat.lt_of_lt_of_le hi (Nat.le_trans hl (by decide))), nx⟩
      by_cases i0 : i = 0
      · subst i0
        exact iteF app
      · have ip : 0 < i := by omega
        have lt0 : decide ((0 : Int) < (((ns.take i).map V.int).length : Int)) = true := decide_eq_true (by rw [List.length_map, tl]; omega)
        rw [lt0]
        have hm : i - 1 < ns.length := by omega
        have hlt : ns[i - 1] < n := by
          have := List.pairwise_iff_getElem.mp hp (i - 1) i hm hi (by omega)
          rw [(List.getElem?_eq_some_iff.mp en).2] at this
          exact this
        have at1 : atI ((ns.take i).map V.int) (-1) = some (V.int ns[i - 1]) := by
          have : ((ns.take i).map V.int)[i - 1]? = some (V.int ns[i - 1]) := by
            rw [List.getElem?_map, List.getElem?_take_of_lt (by omega), List.getElem?_eq_getElem hm]; rfl
          have e1 : ((ns.take i).map V.int).length = i := by rw [List.length_map, tl]
          unfold atI ixN
          rw [e1, if_neg (by decide), if_pos (by omega)]
          show ((ns.take i).map V.int)[((-1 : Int) + (i : Nat)).toNat]? = _
          rw [show ((-1 : Int) + (i : Nat)).toNat = i - 1 by omega]
          exact this
        refine iteT ⟨_, rfl, _, n, rfl, f1, (by show 1 ≤ 640; decide), _, rfl, _, rfl, l, _, _, _, rfl, rfl, SqL.of upd_same, at1, _, _, rfl, rfl, _, rfl, ?_⟩
        rw [decide_eq_false (by omega : ¬ n ≤ ns[i - 1])]
        exact iteF app
    · rintro σ H2 ⟨v, rfl, rfl⟩
      have e : (digsT ns).cps.size = ns.length := by
        have : (digsT ns).cps.toList.length = ns.length := by rw [ec, List.length_map]
        simpa using this
      rw [e, List.take_length]
      refine ⟨_, rfl, l, _, rfl, .inl ⟨SqL.of upd_same, fun t ht => ?_⟩⟩
      exact k t _ ((same_upd hl0).trans (same_upd ht)) upd_same
end
end J

set_option Elab.async false
set_option linter.all false
set_option maxRecDepth 100000
namespace J
open PySem L2
section
variable {P : Program} {w : World} {K : PySem.W.Frag} {mg : Str → Option Value} {base : Heap} {a : Ad}
theorem eq_in (x : Str) : (!(Builtin.Str.occurrences x (Str.ofString "=") 0 x.length 1).isEmpty) = decide (61 ∈ x.cps.toList) := by
  have : Str.ofString "=" = (⟨#[61]⟩ : Str) := by decide +kernel
  rw [this]
  exact StrLaws.found_one x 61
/-- a condition has come into being -/
inductive SpRCond (a : Ad) (vs : List V) (H : Hp) (Q : VK) : Prop
  | mk (d : CondA) (_ : vs = [.str (condT d)]) (_ : d.ok) (_ : ∀ (p : Addr) (H' : Hp), Same H H' → CondAt a H' p d → Q (.ref p) H') : SpRCond a vs H Q
def spRCond (a : Ad) : Sp := fun vs H Q _ => SpRCond a vs H Q
inductive SpRAm (a : Ad) (vs : List V) (H : Hp) (Q : VK) : Prop
  | mk (s : Int) (ns : List Int) (_ : vs = [.str (condT (.am s ns))]) (_ : (CondA.am s ns).ok) (_ : ∀ (p : Addr) (H' : Hp), Same H H' → CondAt a H' p (.am s ns) → Q (.ref p) H') : SpRAm a vs H Q
def spRAm (a : Ad) : Sp := fun vs H Q _ => SpRAm a vs H Q
theorem ok_ram {f : Addr} {fd : FuncData} (F : Fun K "read_amounts" "read_amounts" s_read_amounts f fd) (T : Top K mg a) (C_read_state : Cal P w K mg base CX0 1 "read_state" p_read_state spRS) (C_read_numbers : Cal P w K mg base CX0 1 "read_numbers" p_read_numbers spRN)
    (C_Amounts : CalC P w K mg base CX0 1 "Amounts" a.c_Amounts p_Amounts_init (spAmInit a)) : FnOk P w K mg base CX0 3 f fd p_read_amounts (spRAm a) := by
  refine F.ok sc_read_amounts (fun vs H Q E h => ?_) (fun cdv A outer s H vs Q E hr h => ?_)
  · obtain ⟨s, ns, rfl, _⟩ := h
    rfl
  · obtain ⟨d, ns, rfl, ho, k⟩ := h
    have hlen := cond_len ho
    obtain ⟨hd, hne, hn, hp⟩ := ho
    have hl := asc_len ns 0 (by decide) hn hp
    have e61 : Str.ofString "=" = (⟨#[61]⟩ : Str) := by decide +kernel
    have ep : Txt.partition (condT (.am d ns)) (Str.ofString "=") = (sgD d, ⟨#[61]⟩, digsT ns) := by
      rw [e61]
      refine Tx.part_at 61 (sgD d) (digsT ns) ?_
      intro z
      have : 61 = 48 + d.toNat := by simpa [sgD] using z
      have := hd.2
      omega
    refine ⟨_, (@pss_cons _ _ _ _ _ (@ps_set _ _ (1) _ _ _ _ sc_read_amounts.nd rfl (Or.inl rfl) (@pe_bm _ _ _ _ _ _ _ _ _ _ _ _ PySem.F.plainAttrs_str PySem.F.slot_str_partition PySem.F.type_str_partition (@mt_partition _) (pv 0) (@pa_str _ _ _ _ _ _ (@pa_nil _)) rfl rfl rfl rfl rfl) rfl (by first | exact .inl rfl | exact .inr rfl | assumption)) (@pss_one _ _ _ (@ps_ret _ _ _ _ (@pe_calC _ _ _ _ _ _ _ _ _ _ _ _ _ C_Amounts (rm hr) rfl pass0 (@pa_cons _ _ _ _ _ (@pe_cal _ _ _ _ _ _ _ _ _ _ _ _ C_read_state (rm hr) rfl pass0 (@pa_cons _ _ _ _ _ (@pe_ix _ _ _ _ _ _ _ (@ix_tup _) (pv 1) (@pe_int _ _ _ _) (fun _ _ => rfl)) (@pa_nil _) rfl) (by decide) rfl rfl) (@pa_cons _ _ _ _ _ (@pe_cal _ _ _ _ _ _ _ _ _ _ _ _ C_read_numbers (rm hr) rfl pass0 (@pa_cons _ _ _ _ _ (@pe_ix _ _ _ _ _ _ _ (@ix_tup _) (pv 1) (@pe_int _ _ _ _) (fun _ _ => rfl)) (@pa_nil _) rfl) (by decide) rfl rfl) (@pa_nil _) rfl) rfl) (by decide) rfl rfl)))), ?_⟩
    try dsimp only [cxK]
    refine ⟨_, rfl, rfl, _, _, rfl, rfl, (by decide +kernel), (by omega), fun t ht => ?_⟩
    rw [ep]
    refine ⟨_, rfl, t, _, 0, _, rfl, rfl, SqT.of upd_same, rfl, d, rfl, hd, _, rfl, t, _, 2, _, rfl, rfl, SqT.of upd_same, rfl, ns, rfl, hne, by omega, hn, hp, fun t2 H2 s2 ht2 => ?_⟩
    intro x dx nx ndx nex
    have sx : Same H2 (upd (upd H2 dx (.own x)) x (.ins a.c_Amounts dx [])) := (same_upd ndx).trans (same_upd (by rw [upd_ne (Ne.symm nex)]; exact nx))
    refine ⟨x, t2, dx, d, rfl, upd_same, rfl, ?_⟩
    have nx2 : (upd H2 dx (.own x)) x = none := by rw [upd_ne (Ne.symm nex)]; exact nx
    rw [upd_upd]
    have sy : Same H2 (upd (upd H2 dx (.own x)) x (.ins a.c_Amounts dx (fl2 "state" "numbers" (.int d) (.ref t2)))) := (same_upd ndx).trans (same_upd nx2)
    exact k x _ (((same_upd ht).trans s2).trans sy) (.am upd_same (sy _ _ ht2))
inductive SpRPl (a : Ad) (vs : List V) (H : Hp) (Q : VK) : Prop
  | mk (ws : List (Option Int)) (_ : vs = [.str (condT (.pl ws))]) (_ : (CondA.pl ws).ok) (_ : ∀ (p : Addr) (H' : Hp), Same H H' → CondAt a H' p (.pl ws) → Q (.ref p) H') : SpRPl a vs H Q
def spRPl (a : Ad) : Sp := fun vs H Q _ => SpRPl a vs H Q
theorem ok_rpl {f : Addr} {fd : FuncData} (F : Fun K "read_places" "read_places" s_read_places f fd) (T : Top K mg a) (C_read_wanted : Cal P w K mg base CX0 2 "read_wanted" p_read_wanted spRW)
    (C_Places : CalC P w K mg base CX0 1 "Places" a.c_Places p_Places_init (spPlInit a)) : FnOk P w K mg base CX0 3 f fd p_read_places (spRPl a) := by
  refine F.ok sc_read_places (fun vs H Q E h => ?_) (fun cdv A outer s H vs Q E hr h => ?_)
  · obtain ⟨ws, rfl, _⟩ := h
    rfl
  · obtain ⟨ws, rfl, ho, k⟩ := h
    have hlen := cond_len ho
    obtain ⟨h8, hw⟩ := ho
    have el : (condT (.pl ws)).length = 8 := by rw [Nu.len]; show (ws.map wC).length = 8; rw [List.length_map, h8]
    have ec : (condT (.pl ws)).cps.toList = ws.map wC := rfl
    refine ⟨_, (@pss_cons _ _ _ _ _ (@ps_if _ _ _ _ _ _ _ _ (@pt_cmpR _ _ _ _ _ _ _ _ (@op_ne _) (@pe_callB _ _ _ _ _ _ _ _ _ (@call_len_str _) rfl T.b_len PySem.boot_len (@pa_cons _ _ _ _ _ (pv 0) (@pa_nil _) rfl) (by decide) (by decide) rfl rfl) (@pe_gint _ _ _ _ rfl T.k_NEIGHBOURS (by decide)) (nomark _)) (@pss_one _ _ _ (@ps_never _ _)) (@pss_nil _)) (@pss_one _ _ _ (@ps_ret _ _ _ _ (@pe_calC _ _ _ _ _ _ _ _ _ _ _ _ _ C_Places (rm hr) rfl pass0 (@pa_cons _ _ _ _ _ (@pe_callTy _ _ _ _ _ _ _ _ _ (@call_tuple_of _) rfl T.b_tuple PyProof.Rows.boot_tuple (@pa_cons _ _ _ _ _ (@pe_comp _ _ _ _ _ _ _ _ _ _ _ _ _ _ rfl (@CScope.of _ ((defScope s_read_places)) (n_read_places) _ (["sign"]) (1) ([]) rfl rfl (by decide +kernel)) (@pi_str _ _ _ _ (pv 0)) (fun _ _ _ => (@pgc_name _ _ _ _ _ _ _ _ (0) (by decide +kernel) rfl rfl)) (fun _ _ _ => (@pts_nil _)) (fun _ _ _ => (@pe_cal _ _ _ _ _ _ _ _ _ _ _ _ C_read_wanted (rm hr) rfl pass0 (@pa_cons _ _ _ _ _ (pv 0) (@pa_nil _) rfl) (by decide) rfl rfl)) (by intro _ ; rfl)) (@pa_nil _) rfl) (by decide) (by decide) rfl rfl) (@pa_nil _) rfl) (by decide) rfl rfl)))), ?_⟩
    try dsimp only [cxK]
    refine ⟨_, rfl, _, rfl, Nat.le_trans hlen (by decide), rfl, _, rfl, ?_⟩
    rw [el]
    refine iteNS rfl ⟨_, rfl, _, rfl, ?_⟩
    refine blk_str (fun i acc H2 => H2 = H ∧ acc = (ws.take i).map optV) ⟨rfl, rfl⟩ ?_ ?_
    · rintro i ch acc H2 hch ⟨rfl, rfl⟩
      rw [ec, List.getElem?_map] at hch
      obtain ⟨x, ex, rfl⟩ := Option.map_eq_some_iff.mp hch
      refine ⟨⟨[some (.str ⟨#[wC x]⟩)], rfl, rfl⟩, ?_, ?_⟩
      · rw [List.length_map, List.length_take]
        exact Nat.lt_of_le_of_lt (Nat.min_le_right _ _) (by rw [h8]; decide)
      · refine tyes ⟨_, rfl, x, rfl, hw x (List.mem_of_getElem? ex), rfl, ?_⟩
        rw [List.take_add_one, ex, List.map_append]
        rfl
    · rintro acc H2 ⟨rfl, rfl⟩ q nq
      rw [ec, List.length_map, List.take_length]
      refine ⟨q, _, rfl, .inl ⟨SqL.of upd_same, fun t ht => ?_⟩⟩
      intro x dx nx ndx nex
      have nx2 : ∀ o, (upd (upd (upd H2 q (.lst (ws.map optV))) t (.tup (ws.map optV))) dx o) x = none := fun o => by rw [upd_ne (Ne.symm nex)]; exact nx
      refine ⟨x, t, dx, rfl, upd_same, rfl, ?_⟩
      rw [upd_upd]
      have s1 : Same H2 (upd (upd H2 q (.lst (ws.map optV))) t (.tup (ws.map optV))) := (same_upd nq).trans (same_upd ht)
      have s2 : Same (upd (upd H2 q (.lst (ws.map optV))) t (.tup (ws.map optV))) (upd (upd (upd (upd H2 q (.lst (ws.map optV))) t (.tup (ws.map optV))) dx (.own x)) x (.ins a.c_Places dx (fl1 "wanted" (.ref t)))) := (same_upd ndx).trans (same_upd (nx2 _))
      exact k x _ (s1.trans s2) (.pl upd_same (s2 _ _ upd_same))
theorem ok_rcond {f : Addr} {fd : FuncData} (F : Fun K "read_condition" "read_condition" s_read_condition f fd) (T : Top K mg a) (C_read_amounts : Cal P w K mg base CX0 3 "read_amounts" p_read_amounts (spRAm a)) (C_read_places : Cal P w K mg base CX0 3 "read_places" p_read_places (spRPl a)) :
    FnOk P w K mg base CX0 4 f fd p_read_condition (spRCond a) := by
  refine F.ok sc_read_condition (fun vs H Q E h => ?_) (fun cdv A outer s H vs Q E hr h => ?_)
  · obtain ⟨d, rfl, _⟩ := h
    rfl
  · obtain ⟨d, rfl, ho, k⟩ := h
    refine ⟨_, (@pss_cons _ _ _ _ _ (@ps_if _ _ _ _ _ _ _ _ (@pt_cmpR _ _ _ _ _ _ _ _ (@op_in_str _) (@pe_str _ _ _ _) (pv 0) rfl) (@pss_one _ _ _ (@ps_ret _ _ _ _ (@pe_cal _ _ _ _ _ _ _ _ _ _ _ _ C_read_amounts (rm hr) rfl pass0 (@pa_cons _ _ _ _ _ (pv 0) (@pa_nil _) rfl) (by decide) rfl rfl))) (@pss_nil _)) (@pss_one _ _ _ (@ps_ret _ _ _ _ (@pe_cal _ _ _ _ _ _ _ _ _ _ _ _ C_read_places (rm hr) rfl pass0 (@pa_cons _ _ _ _ _ (pv 0) (@pa_nil _) rfl) (by decide) rfl rfl)))), ?_⟩
    try dsimp only [cxK]
    refine ⟨_, rfl, _, _, rfl, rfl, _, rfl, ?_⟩
    rw [eq_in]
    cases d with
    | am s ns =>
      have m : 61 ∈ (condT (.am s ns)).cps.toList := by
        show 61 ∈ (sgD s ++ ⟨#[61]⟩ ++ digsT ns).cps.toList
        rw [Tx.cps_app, Tx.cps_app]
        simp
      rw [decide_eq_true m]
      exact iteT ⟨_, rfl, s, ns, rfl, ho, k⟩
    | pl ws =>
      have m : ¬ 61 ∈ (condT (.pl ws)).cps.toList := fun z => by
        obtain ⟨x, hx, e⟩ := List.mem_map.mp (show 61 ∈ ws.map wC from z)
        exact (wC_ne (ho.2 x hx)).1 e
      rw [decide_eq_false m]
      exact iteF ⟨_, rfl, ws, rfl, ho, k⟩
/-! ### a clause -/
inductive SpRC (a : Ad) (vs : List V) (H : Hp) (Q : VK) : Prop
  | mk (c : ClauseA) (_ : vs = [.str (clauseT c)]) (_ : c.ok) (_ : ∀ (p : Addr) (H' : Hp), Same H H' → ClauseAt a H' p c → Q (.ref p) H') : SpRC a vs H Q
def spRC (a : Ad) : Sp := fun vs H Q _ => SpRC a vs H Q
theorem clause_len {c : ClauseA} (h : c.ok) : (clauseT c).length ≤ 13000 := by
  have j := StrLaws.join_length_le ⟨#[32]⟩ (wS c.cell :: (c.conds.map condT ++ [sgD c.makes]))
  have b : ∀ l : List CondA, (∀ d ∈ l, d.ok) → ((l.map condT).map (·.length)).sum ≤ 11 * l.length := by
    intro l
    induction l with
    | nil => intro _; exact Nat.zero_le _
    | cons d r ih =>
      intro hd
      have h1 := cond_len (hd d List.mem_cons_self)
      have h2 := ih fun e he => hd e (List.mem_cons_of_mem _ he)
      simp only [List.map_cons, List.sum_cons, List.length_cons]
      omega
  have b1 := b c.conds h.conds
  have h50 := h.few
  simp only [List.map_cons, List.map_append, List.map_nil, List.sum_cons, List.sum_append, List.sum_nil, List.length_cons, List.length_append, List.length_nil, List.length_map] at j
  have l1 : (wS c.cell).length = 1 := rfl
  have l2 : (sgD c.makes).length = 1 := rfl
  have l3 : (⟨#[32]⟩ : Str).length = 1 := rfl
  rw [l1, l2, l3] at j
  unfold clauseT
  omega
theorem cell_free (x : Option Int) (h : wOk x) : 32 ∉ (wS x).cps.toList ∧ 59 ∉ (wS x).cps.toList := by
  have := wC_ne h
  constructor
  · intro z
    have : 32 = wC x := by simpa [wS] using z
    exact (wC_ne h).2.1 this.symm
  · intro z
    have : 59 = wC x := by simpa [wS] using z
    exact (wC_ne h).2.2 this.symm
theorem clause_split {c : ClauseA} (h : c.ok) : Txt.split (clauseT c) (Str.ofString " ") = wS c.cell :: (c.conds.map condT ++ [sgD c.makes]) := by
  have e : Str.ofString " " = (⟨#[32]⟩ : Str) := by decide +kernel
  rw [e]
  refine Tx.split_join1 32 _ (by simp) fun t ht => ?_
  rcases List.mem_cons.mp ht with rfl | ht
  · exact (cell_free _ h.cell).1
  · rcases List.mem_append.mp ht with ht | ht
    · obtain ⟨d, hd, rfl⟩ := List.mem_map.mp ht
      exact (cond_free (h.conds d hd)).1
    · rw [List.mem_singleton.mp ht]
      exact (cell_free (some c.makes) h.makes).1
theorem cut_mid (x z : V) (ys : List V) : cutV (x :: (ys ++ [z])) (some 1) (some (-1)) = ys := by
  have n : (x :: (ys ++ [z])).length = ys.length + 2 := by simp
  unfold cutV
  rw [n]
  have h1 : HT.sIx (ys.length + 2) 0 (some 1) = 1 := by
    show (if (1 : Int) < 0 then ((1 : Int) + ((ys.length + 2 : Nat) : Int)).toNat else min (1 : Int).toNat (ys.length + 2)) = 1
    rw [if_neg (by decide)]
    show min 1 (ys.length + 2) = 1
    omega
  have h2 : HT.sIx (ys.length + 2) (ys.length + 2) (some (-1)) = ys.length + 1 := by
    show (if (-1 : Int) < 0 then ((-1 : Int) + ((ys.length + 2 : Nat) : Int)).toNat else min (-1 : Int).toNat (ys.length + 2)) = ys.length + 1
    rw [if_pos (by decide)]
    omega
  rw [h1, h2]
  show (ys ++ [z]).take (ys.length + 1 - 1) = ys
  rw [Nat.add_sub_cancel, List.take_left' rfl]
theorem at_last (x : V) (ys : List V) (z : V) : atI (x :: (ys ++ [z])) (-1) = some z := by
  have n : (x :: (ys ++ [z])).length = ys.length + 2 := by simp
  unfold atI ixN
  rw [n, if_neg (by decide), if_pos (by omega)]
  show (x :: (ys ++ [z]))[((-1 : Int) + ((ys.length + 2 : Nat) : Int)).toNat]? = some z
  rw [show ((-1 : Int) + ((ys.length + 2 : Nat) : Int)).toNat = ys.length + 1 by omega, List.getElem?_cons_succ, List.getElem?_append_right (Nat.le_refl _), Nat.sub_self]
  rfl
theorem ok_rc {f : Addr} {fd : FuncData} (F : Fun K "read_clause" "read_clause" s_read_clause f fd) (T : Top K mg a) (C_read_state : Cal P w K mg base CX0 1 "read_state" p_read_state spRS) (C_read_wanted : Cal P w K mg base CX0 2 "read_wanted" p_read_wanted spRW)
    (C_read_condition : Cal P w K mg base CX0 4 "read_condition" p_read_condition (spRCond a)) (C_Clause : CalC P w K mg base CX0 1 "Clause" a.c_Clause p_Clause_init (spClInit a)) : FnOk P w K mg base CX0 5 f fd p_read_clause (spRC a) := by
  refine F.ok sc_read_clause (fun vs H Q E h => ?_) (fun cdv A outer s H vs Q E hr h => ?_)
  · obtain ⟨c, rfl, _⟩ := h
    rfl
  · obtain ⟨c, rfl, ho, k⟩ := h
    have hlen := clause_len ho
    have f50 := ho.few
    refine ⟨_, (@pss_cons _ _ _ _ _ (@ps_if _ _ _ _ _ _ _ _ (@pt_not _ _ _ _ (@pt_val _ _ _ (@pe_callB _ _ _ _ _ _ _ _ _ (@call_isi _) rfl T.b_isinstance PyProof.Rows.boot_isinstance (@pa_cons _ _ _ _ _ (pv 0) (@pa_cons _ _ _ _ _ (@pe_bltn _ _ ((.ty "str")) _ _ rfl T.b_str PyProof.Rows.boot_str rfl (by decide) (by decide)) (@pa_nil _) rfl) rfl) (by decide) (by decide) rfl rfl) (by intro _ ; rfl))) (@pss_one _ _ _ (@ps_never _ _)) (@pss_nil _)) (@pss_cons _ _ _ _ _ (@ps_set _ _ (1) _ _ _ _ sc_read_clause.nd rfl (Or.inl rfl) (@pe_bm _ _ _ _ _ _ _ _ _ _ _ _ PySem.F.plainAttrs_str PySem.F.slot_str_split PySem.F.type_str_split (@mt_split _) (pv 0) (@pa_str _ _ _ _ _ _ (@pa_nil _)) rfl rfl rfl rfl rfl) rfl (by first | exact .inl rfl | exact .inr rfl | assumption)) (@pss_cons _ _ _ _ _ (@ps_if _ _ _ _ _ _ _ _ (@pt_cmpR _ _ _ _ _ _ _ _ (@op_lt _) (@pe_callB _ _ _ _ _ _ _ _ _ (@call_len_seq _) rfl T.b_len PySem.boot_len (@pa_cons _ _ _ _ _ (pv 1) (@pa_nil _) rfl) (by decide) (by decide) rfl rfl) (@pe_int _ _ _ _) (nomark _)) (@pss_one _ _ _ (@ps_never _ _)) (@pss_nil _)) (@pss_cons _ _ _ _ _ (@ps_set _ _ (2) _ _ _ _ sc_read_clause.nd rfl (Or.inl rfl) (@pe_cal _ _ _ _ _ _ _ _ _ _ _ _ C_read_wanted (rm hr) rfl pass0 (@pa_cons _ _ _ _ _ (@pe_ix _ _ _ _ _ _ _ (@ix_list _) (pv 1) (@pe_int _ _ _ _) (fun _ _ => rfl)) (@pa_nil _) rfl) (by decide) rfl rfl) rfl (by first | exact .inl rfl | exact .inr rfl | assumption)) (@pss_cons _ _ _ _ _ (@ps_set _ _ (3) _ _ _ _ sc_read_clause.nd rfl (Or.inl rfl) (@pe_callTy _ _ _ _ _ _ _ _ _ (@call_tuple_of _) rfl T.b_tuple PyProof.Rows.boot_tuple (@pa_cons _ _ _ _ _ (@pe_comp _ _ _ _ _ _ _ _ _ _ _ _ _ _ rfl (@CScope.of _ ((defScope s_read_clause)) (n_read_clause) _ (["word"]) (1) ([]) rfl rfl (by decide +kernel)) (@pi_list _ _ _ _ (@pe_slice _ _ _ _ _ _ _ _ _ _ (@sl_list _) (pv 1) (@po_some _ _ _ (@pe_int _ _ _ _)) (@po_some _ _ _ (@pe_un _ _ _ _ _ _ (@un_neg _) (@pe_int _ _ _ _))))) (fun _ _ _ => (@pgc_name _ _ _ _ _ _ _ _ (0) (by decide +kernel) rfl rfl)) (fun _ _ _ => (@pts_nil _)) (fun _ _ _ => (@pe_cal _ _ _ _ _ _ _ _ _ _ _ _ C_read_condition (rm hr) rfl pass0 (@pa_cons _ _ _ _ _ (pv 0) (@pa_nil _) rfl) (by decide) rfl rfl)) (by intro _ ; rfl)) (@pa_nil _) rfl) (by decide) (by decide) rfl rfl) rfl (by first | exact .inl rfl | exact .inr rfl | assumption)) (@pss_one _ _ _ (@ps_ret _ _ _ _ (@pe_calC _ _ _ _ _ _ _ _ _ _ _ _ _ C_Clause (rm hr) rfl pass0 (@pa_cons _ _ _ _ _ (pv 2) (@pa_cons _ _ _ _ _ (pv 3) (@pa_cons _ _ _ _ _ (@pe_cal _ _ _ _ _ _ _ _ _ _ _ _ C_read_state (rm hr) rfl pass0 (@pa_cons _ _ _ _ _ (@pe_ix _ _ _ _ _ _ _ (@ix_list _) (pv 1) (@pe_un _ _ _ _ _ _ (@un_neg _) (@pe_int _ _ _ _)) (fun _ _ => rfl)) (@pa_nil _) rfl) (by decide) rfl rfl) (@pa_nil _) rfl) rfl) rfl) (by decide) rfl rfl)))))))), ?_⟩
    try dsimp only [cxK]
    refine ⟨_, rfl, _, _, _, .type "str", true, rfl, rfl, .of (.str _), str_isi K, true, rfl, ?_⟩
    refine iteF ⟨_, rfl, rfl, _, _, rfl, rfl, (by decide +kernel), (by omega), fun l hl => ?_⟩
    rw [clause_split ho]
    have eW : ((wS c.cell :: (c.conds.map condT ++ [sgD c.makes])).map V.str) = V.str (wS c.cell) :: ((c.conds.map fun d => V.str (condT d)) ++ [V.str (sgD c.makes)]) := by
      rw [List.map_cons, List.map_append, List.map_map]
      rfl
    rw [eW]
    have hL : ∀ o, upd H l o l = some o := fun o => upd_same
    refine ⟨_, rfl, l, _, rfl, .inl (SqL.of upd_same), _, _, rfl, rfl, _, rfl, ?_⟩
    rw [decide_eq_false (by simp; omega : ¬ ((((V.str (wS c.cell) :: ((c.conds.map fun d => V.str (condT d)) ++ [V.str (sgD c.makes)])).length : Nat) : Int) < 2))]
    refine iteF ⟨_, rfl, l, _, 0, .str (wS c.cell), rfl, rfl, SqL.of upd_same, atI_nat (j := 0) rfl, c.cell, rfl, ho.cell, ?_⟩
    refine ⟨_, rfl, _, rfl, _, rfl, _, rfl, l, _, rfl, SqL.of upd_same, fun q hq => ⟨q, rfl, ⟨_, SqL.of upd_same⟩, ?_⟩⟩
    rw [cut_mid]
    have s0 : Same H (upd (upd H l (.lst (V.str (wS c.cell) :: ((c.conds.map fun d => V.str (condT d)) ++ [V.str (sgD c.makes)])))) q (.lst (c.conds.map fun d => V.str (condT d)))) := (same_upd hl).trans (same_upd hq)
    have nlq : l ≠ q := fun z => by rw [← z, upd_same] at hq; cases hq
    generalize hH1 : upd (upd H l (.lst (V.str (wS c.cell) :: ((c.conds.map fun d => V.str (condT d)) ++ [V.str (sgD c.makes)])))) q (.lst (c.conds.map fun d => V.str (condT d))) = H1
    rw [hH1] at s0
    have hq1 : H1 q = some (.lst (c.conds.map fun d => V.str (condT d))) := by rw [← hH1]; exact upd_same
    have hl1 : H1 l = some (.lst (V.str (wS c.cell) :: ((c.conds.map fun d => V.str (condT d)) ++ [V.str (sgD c.makes)]))) := by rw [← hH1, upd_ne nlq]; exact upd_same
    refine blk_list (xs := c.conds.map fun d => V.str (condT d)) (fun i acc H2 => ∃ ps : List Addr, acc = ps.map V.ref ∧ Same H1 H2 ∧ Paired (CondAt a H2) ps (c.conds.take i)) ⟨[], rfl, Same.refl H1, .nil⟩ (fun i acc H2 _ ⟨ps, _, sm, _⟩ => SqL.of (sm _ _ hq1)) ?_ ?_
    · rintro i x acc H2 hx ⟨ps, rfl, sm, pr⟩
      rw [List.getElem?_map] at hx
      obtain ⟨d, ed, rfl⟩ := Option.map_eq_some_iff.mp hx
      refine ⟨⟨[some (.str (condT d))], rfl, rfl⟩, ?_, ?_⟩
      · have e1 := Paired.length pr
        rw [List.length_take] at e1
        rw [List.length_map, e1]
        exact Nat.lt_of_le_of_lt (Nat.min_le_right _ _) (Nat.lt_of_le_of_lt f50 (by decide))
      · refine tyes ⟨_, rfl, d, rfl, ho.conds d (List.mem_of_getElem? ed), fun p H3 s3 hp => ⟨ps ++ [p], by rw [List.map_append]; rfl, sm.trans s3, ?_⟩⟩
        rw [List.take_add_one, ed]
        exact Paired.snoc (Paired.imp (fun _ _ z => z.same s3) pr) hp
    · rintro acc H2 ⟨ps, rfl, sm, pr⟩ r nr
      rw [List.length_map, List.take_length] at pr
      refine ⟨r, _, rfl, .inl ⟨SqL.of upd_same, fun t ht => ?_⟩⟩
      have s3 : Same H1 (upd (upd H2 r (.lst (ps.map V.ref))) t (.tup (ps.map V.ref))) := (sm.trans (same_upd nr)).trans (same_upd ht)
      generalize hH3 : upd (upd H2 r (.lst (ps.map V.ref))) t (.tup (ps.map V.ref)) = H3
      have ht3 : H3 t = some (.tup (ps.map V.ref)) := by rw [← hH3]; exact upd_same
      have s23 : Same H2 H3 := by rw [← hH3]; exact (same_upd nr).trans (same_upd ht)
      rw [hH3] at s3
      refine ⟨_, rfl, _, rfl, _, rfl, _, rfl, l, _, _, _, rfl, rfl, SqL.of (s3 _ _ hl1), at_last _ _ _, c.makes, rfl, ho.makes, ?_⟩
      intro x dx nx ndx nex
      have nx2 : ∀ o, (upd H3 dx o) x = none := fun o => by rw [upd_ne (Ne.symm nex)]; exact nx
      refine ⟨x, t, dx, c.cell, c.makes, rfl, upd_same, rfl, ?_⟩
      rw [upd_upd]
      have s4 : Same H3 (upd (upd H3 dx (.own x)) x (.ins a.c_Clause dx (fl3 "cell" "conditions" "makes" (optV c.cell) (.ref t) (.int c.makes)))) := (same_upd ndx).trans (same_upd (nx2 _))
      exact k x _ ((s0.trans s3).trans s4) ⟨dx, t, ps, upd_same, s4 _ _ ht3, Paired.imp (fun _ _ z => (z.same s23).same s4) pr⟩
/-! ### a rule -/
theorem clause_free {c : ClauseA} (h : c.ok) : 59 ∉ (clauseT c).cps.toList := by
  intro z
  unfold clauseT at z
  rw [PyProof.Rows.mem_join] at z
  rcases z with ⟨t, ht, z⟩ | ⟨_, z⟩
  · rcases List.mem_cons.mp ht with rfl | ht
    · exact (cell_free _ h.cell).2 z
    · rcases List.mem_append.mp ht with ht | ht
      · obtain ⟨d, hd, rfl⟩ := List.mem_map.mp ht
        exact (cond_free (h.conds d hd)).2 z
      · rw [List.mem_singleton.mp ht] at z
        exact (cell_free (some c.makes) h.makes).2 z
  · have : 59 = 32 := by simpa using z
    omega
end
end J

set_option Elab.async false
set_option linter.all false
set_option maxRecDepth 100000
namespace J
open PySem L2
structure ROkT (r : RuleA) : Prop where
  few : r.length ≤ 1000
  ok : ∀ c ∈ r, c.ok
  len : (ruleT r).length ≤ 60000
theorem ROkT.rok {r : RuleA} (h : ROkT r) : ROk r := ⟨Nat.le_trans h.few (by decide), fun c hc => ⟨Nat.le_trans (h.ok c hc).few (by decide), fun d hd ws e => by
  subst e
  rw [((h.ok c hc).conds _ hd).1]
  decide⟩⟩
theorem rule_len {r : RuleA} (h : ROkT r) : (ruleT r).length ≤ 60000 := h.len
theorem rule_ne {r : RuleA} (h : r ≠ []) : decide (V.str (ruleT r) = V.str (Str.ofString "")) = false := by
  refine decide_eq_false fun z => ?_
  injection z with z
  obtain ⟨c, hc⟩ := List.exists_mem_of_ne_nil r h
  have h1 := PySem.join_mem_le markT (r.map clauseT) (clauseT c) (List.mem_map.mpr ⟨c, hc, rfl⟩)
  have h2 := PySem.join_mem_le ⟨#[32]⟩ (wS c.cell :: (c.conds.map condT ++ [sgD c.makes])) (wS c.cell) List.mem_cons_self
  have h3 : (wS c.cell).length = 1 := rfl
  have h4 : (ruleT r).length = 0 := by rw [z]; decide +kernel
  unfold ruleT at h4
  have h5 : (clauseT c).length = (Str.join ⟨#[32]⟩ (wS c.cell :: (c.conds.map condT ++ [sgD c.makes]))).length := rfl
  omega
/-- a store at an object that is none of theirs -/
theorem CondAt.put {a : Ad} {H : Hp} {p q : Addr} {o u : HO} {c : CondA} (h : CondAt a H q c) (hp : H p = some u) (n : ∀ C d fs, u = HO.ins C d fs → fs.lookup ("state" : Str) = none ∧ fs.lookup ("wanted" : Str) = none ∧ fs.lookup ("makes" : Str) = none) (nt : ∀ xs, u ≠ .tup xs) : CondAt a (upd H p o) q c := by
  have other : ∀ {b v}, H b = some v → v ≠ u → upd H p o b = some v := fun {b v} e d => by rw [upd_ne (ne_of e hp d)]; exact e
  cases h with
  | am h ht =>
    refine .am (other h fun z => ?_) (other ht fun z => nt _ z.symm)
    have := (n _ _ _ z.symm).1
    rw [fl2_1 (by decide +kernel)] at this
    cases this
  | pl h ht =>
    refine .pl (other h fun z => ?_) (other ht fun z => nt _ z.symm)
    have := (n _ _ _ z.symm).2.1
    rw [fl1_1] at this
    cases this
theorem ClauseAt.put {a : Ad} {H : Hp} {p q : Addr} {o u : HO} {c : ClauseA} (h : ClauseAt a H q c) (hp : H p = some u) (n : ∀ C d fs, u = HO.ins C d fs → fs.lookup ("state" : Str) = none ∧ fs.lookup ("wanted" : Str) = none ∧ fs.lookup ("makes" : Str) = none) (nt : ∀ xs, u ≠ .tup xs) : ClauseAt a (upd H p o) q c := by
  have other : ∀ {b v}, H b = some v → v ≠ u → upd H p o b = some v := fun {b v} e d => by rw [upd_ne (ne_of e hp d)]; exact e
  obtain ⟨dx, t, cs, h1, h2, h3⟩ := h.ex
  refine ⟨dx, t, cs, other h1 fun z => ?_, other h2 fun z => nt _ z.symm, Paired.imp (fun _ _ z => z.put hp n nt) h3⟩
  have := (n _ _ _ z.symm).2.2
  rw [fl3_3] at this
  cases this
section
variable {P : Program} {w : World} {K : PySem.W.Frag} {mg : Str → Option Value} {base : Heap} {a : Ad}
inductive SpCT (vs : List V) (H : Hp) (Q : VK) : Prop
  | mk (r : RuleA) (_ : vs = [.str (ruleT r)]) (_ : ROkT r) (_ : ∀ (l : Addr) (H' : Hp), Same H H' → H' l = some (.lst (r.map fun c => V.str (clauseT c))) → Q (.ref l) H') : SpCT vs H Q
def spCT : Sp := fun vs H Q _ => SpCT vs H Q
theorem ok_ct {f : Addr} {fd : FuncData} (F : Fun K "clause_texts" "clause_texts" s_clause_texts f fd) (T : Top K mg a) : FnOk P w K mg base CX0 1 f fd p_clause_texts spCT := by
  refine F.ok sc_clause_texts (fun vs H Q E h => ?_) (fun cdv A outer s H vs Q E hr h => ?_)
  · obtain ⟨r, rfl, _⟩ := h
    rfl
  · obtain ⟨r, rfl, ho, k⟩ := h
    have hlen := rule_len ho
    refine ⟨_, (@pss_cons _ _ _ _ _ (@ps_if _ _ _ _ _ _ _ _ (@pt_cmpR _ _ _ _ _ _ _ _ (@op_eq _) (pv 0) (@pe_str _ _ _ _) (nomark _)) (@pss_one _ _ _ (@ps_ret _ _ _ _ (@pe_lst _ _ _ _ (@pa_nil _)))) (@pss_nil _)) (@pss_one _ _ _ (@ps_ret _ _ _ _ (@pe_bm _ _ _ _ _ _ _ _ _ _ _ _ PySem.F.plainAttrs_str PySem.F.slot_str_split PySem.F.type_str_split (@mt_split _) (pv 0) (@pa_cons _ _ _ _ _ (@pe_gstr _ _ _ _ rfl T.k_CLAUSE_MARK (by decide)) (@pa_nil _) rfl) rfl rfl rfl rfl rfl)))), ?_⟩
    try dsimp only [cxK]
    refine ⟨_, rfl, rfl, _, rfl, ?_⟩
    by_cases hr0 : r = []
    · subst hr0
      refine iteT ⟨(by show 0 ≤ sizeLine; decide), fun l hl => ?_⟩
      exact k l _ (same_upd hl) upd_same
    · rw [rule_ne hr0]
      refine iteF ⟨_, rfl, rfl, _, _, rfl, rfl, (by decide +kernel), (by omega), fun l hl => ?_⟩
      have em : Str.ofString "; " = (⟨#[59, 32]⟩ : Str) := by decide +kernel
      have e : Txt.split (ruleT r) (Str.ofString "; ") = r.map clauseT := by
        rw [em]
        refine Tx.split_join2 _ (by simpa using hr0) fun t ht => ?_
        obtain ⟨c, hc, rfl⟩ := List.mem_map.mp ht
        exact clause_free (ho.ok c hc)
      rw [e, List.map_map]
      exact k l _ (same_upd hl) upd_same
inductive SpRI (a : Ad) (vs : List V) (H : Hp) (Q : VK) : Prop
  | mk (p dx : Addr) (r : RuleA) (_ : vs = [.ref p, .str (ruleT r)]) (_ : H p = some (.ins a.c_Rule dx [])) (_ : ROkT r) (_ : ∀ H', (∀ b o, H b = some o → b ≠ p → H' b = some o) → RuleAt a H' p (ruleT r) r → Q .non H') : SpRI a vs H Q
def spRI (a : Ad) : Sp := fun vs H Q _ => SpRI a vs H Q
theorem ok_ri {f : Addr} {fd : FuncData} (F : Fun K "__init__" "Rule.__init__" s_Rule_init f fd) (T : Top K mg a) (C_clause_texts : Cal P w K mg base CX0 1 "clause_texts" p_clause_texts spCT) (C_read_clause : Cal P w K mg base CX0 5 "read_clause" p_read_clause (spRC a)) :
    FnOk P w K mg base CX0 6 f fd p_Rule_init (spRI a) := by
  refine F.ok sc_Rule_init (fun vs H Q E h => ?_) (fun cdv A outer s H vs Q E hr h => ?_)
  · obtain ⟨p, dx, r, rfl, _⟩ := h
    rfl
  · obtain ⟨p, dx, r, rfl, hp, ho, k⟩ := h
    have hlen := rule_len ho
    have f50 := ho.few
    refine ⟨_, (@pss_cons _ _ _ _ _ (@ps_fld _ _ _ _ _ _ _ _ (pv 0) (pv 1) rfl) (@pss_one _ _ _ (@ps_fld _ _ _ _ _ _ _ _ (pv 0) (@pe_callTy _ _ _ _ _ _ _ _ _ (@call_tuple_of _) rfl T.b_tuple PyProof.Rows.boot_tuple (@pa_cons _ _ _ _ _ (@pe_comp _ _ _ _ _ _ _ _ _ _ _ _ _ _ rfl (@CScope.of _ ((defScope s_Rule_init)) (n_Rule_init) _ (["part"]) (1) ([]) rfl rfl (by decide +kernel)) (@pi_list _ _ _ _ (@pe_cal _ _ _ _ _ _ _ _ _ _ _ _ C_clause_texts (rm hr) rfl pass0 (@pa_cons _ _ _ _ _ (pv 1) (@pa_nil _) rfl) (by decide) rfl rfl)) (fun _ _ _ => (@pgc_name _ _ _ _ _ _ _ _ (0) (by decide +kernel) rfl rfl)) (fun _ _ _ => (@pts_nil _)) (fun _ _ _ => (@pe_cal _ _ _ _ _ _ _ _ _ _ _ _ C_read_clause (rm hr) rfl pass0 (@pa_cons _ _ _ _ _ (pv 0) (@pa_nil _) rfl) (by decide) rfl rfl)) (by intro _ ; rfl)) (@pa_nil _) rfl) (by decide) (by decide) rfl rfl) rfl))), ?_⟩
    try dsimp only [cxK]
    refine ⟨_, rfl, _, rfl, p, _, dx, [], rfl, hp, T.cl_Rule, T.na_Rule_text, (by show 0 < 1000; decide), ?_⟩
    generalize hH1 : upd H p (.ins a.c_Rule dx (putF "text" (.str (ruleT r)) [])) = H1
    have hp1 : H1 p = some (.ins a.c_Rule dx (putF "text" (.str (ruleT r)) [])) := by rw [← hH1]; exact upd_same
    have k1 : ∀ b o, H b = some o → b ≠ p → H1 b = some o := fun b o e n => by rw [← hH1, upd_ne n]; exact e
    refine ⟨_, rfl, r, rfl, ho, fun l H2 s2 hl => ⟨l, rfl, ⟨_, SqL.of hl⟩, ?_⟩⟩
    refine blk_list (xs := r.map fun c => V.str (clauseT c)) (fun i acc H3 => ∃ ps : List Addr, acc = ps.map V.ref ∧ Same H2 H3 ∧ Paired (ClauseAt a H3) ps (r.take i)) ⟨[], rfl, Same.refl H2, .nil⟩ (fun i acc H3 _ ⟨ps, _, sm, _⟩ => SqL.of (sm _ _ hl)) ?_ ?_
    · rintro i x acc H3 hx ⟨ps, rfl, sm, pr⟩
      rw [List.getElem?_map] at hx
      obtain ⟨c, ec, rfl⟩ := Option.map_eq_some_iff.mp hx
      refine ⟨⟨[some (.str (clauseT c))], rfl, rfl⟩, ?_, ?_⟩
      · have e1 := Paired.length pr
        rw [List.length_take] at e1
        rw [List.length_map, e1]
        exact Nat.lt_of_le_of_lt (Nat.min_le_right _ _) (Nat.lt_of_le_of_lt f50 (by decide))
      · refine tyes ⟨_, rfl, c, rfl, ho.ok c (List.mem_of_getElem? ec), fun q H4 s4 hq => ⟨ps ++ [q], by rw [List.map_append]; rfl, sm.trans s4, ?_⟩⟩
        rw [List.take_add_one, ec]
        exact Paired.snoc (Paired.imp (fun _ _ z => z.same s4) pr) hq
    · rintro acc H3 ⟨ps, rfl, sm, pr⟩ q nq
      rw [List.length_map, List.take_length] at pr
      refine ⟨q, _, rfl, .inl ⟨SqL.of upd_same, fun t ht => ?_⟩⟩
      generalize hH4 : upd (upd H3 q (.lst (ps.map V.ref))) t (.tup (ps.map V.ref)) = H4
      have s34 : Same H3 H4 := by rw [← hH4]; exact (same_upd nq).trans (same_upd ht)
      have ht4 : H4 t = some (.tup (ps.map V.ref)) := by rw [← hH4]; exact upd_same
      have s14 : Same H1 H4 := (s2.trans sm).trans s34
      have ntp : t ≠ p := fun z => by rw [z, s14 _ _ hp1] at ht4; cases ht4
      refine ⟨_, rfl, p, _, dx, _, rfl, s14 _ _ hp1, T.cl_Rule, T.na_Rule_clauses, (by show 1 < 1000; decide), ?_⟩
      have up : ∀ b o, H4 b = some o → b ≠ p → upd H4 p (.ins a.c_Rule dx (fl2 "text" "clauses" (.str (ruleT r)) (.ref t))) b = some o := fun b o e n => by rw [upd_ne n]; exact e
      have cl : ∀ q' c, ClauseAt a H4 q' c → ClauseAt a (upd H4 p (.ins a.c_Rule dx (fl2 "text" "clauses" (.str (ruleT r)) (.ref t)))) q' c := fun q' c hc => by
        exact hc.put (s14 _ _ hp1) (fun C d fs e => by
          cases e
          exact ⟨fl1_no (by decide +kernel), fl1_no (by decide +kernel), fl1_no (by decide +kernel)⟩) (fun xs z => by cases z)
      exact k _ (fun b o e n => up _ _ (s14 _ _ (k1 b o e n)) n) ⟨dx, t, ps, upd_same, up _ _ ht4 ntp, Paired.imp (fun q' c z => cl q' c (z.same s34)) pr⟩
def zeros8 : List Int := [0, 0, 0, 0, 0, 0, 0, 0]
inductive SpRR (a : Ad) (vs : List V) (H : Hp) (Q : VK) : Prop
  | mk (r : RuleA) (_ : vs = [.str (ruleT r)]) (_ : ROkT r) (_ : becA r 0 zeros8 = 0) (_ : ∀ (p : Addr) (H' : Hp), Same H H' → RuleAt a H' p (ruleT r) r → Q (.ref p) H') : SpRR a vs H Q
def spRR (a : Ad) : Sp := fun vs H Q _ => SpRR a vs H Q
theorem ok_rr {f : Addr} {fd : FuncData} (F : Fun K "read_rule" "read_rule" s_read_rule f fd) (T : Top K mg a) (C_Rule : CalC P w K mg base CX0 6 "Rule" a.c_Rule p_Rule_init (spRI a)) (C_becomes : Cal P w K mg base CX0 5 "becomes" p_becomes (spBec a)) :
    FnOk P w K mg base CX0 8 f fd p_read_rule (spRR a) := by
  refine F.ok sc_read_rule (fun vs H Q E h => ?_) (fun cdv A outer s H vs Q E hr h => ?_)
  · obtain ⟨r, rfl, _⟩ := h
    rfl
  · obtain ⟨r, rfl, ho, hz, k⟩ := h
    refine ⟨_, (@pss_cons _ _ _ _ _ (@ps_if _ _ _ _ _ _ _ _ (@pt_not _ _ _ _ (@pt_val _ _ _ (@pe_callB _ _ _ _ _ _ _ _ _ (@call_isi _) rfl T.b_isinstance PyProof.Rows.boot_isinstance (@pa_cons _ _ _ _ _ (pv 0) (@pa_cons _ _ _ _ _ (@pe_bltn _ _ ((.ty "str")) _ _ rfl T.b_str PyProof.Rows.boot_str rfl (by decide) (by decide)) (@pa_nil _) rfl) rfl) (by decide) (by decide) rfl rfl) (by intro _ ; rfl))) (@pss_one _ _ _ (@ps_never _ _)) (@pss_nil _)) (@pss_cons _ _ _ _ _ (@ps_set _ _ (1) _ _ _ _ sc_read_rule.nd rfl (Or.inl rfl) (@pe_calC _ _ _ _ _ _ _ _ _ _ _ _ _ C_Rule (rm hr) rfl pass0 (@pa_cons _ _ _ _ _ (pv 0) (@pa_nil _) rfl) (by decide) rfl rfl) rfl (by first | exact .inl rfl | exact .inr rfl | assumption)) (@pss_cons _ _ _ _ _ (@ps_if _ _ _ _ _ _ _ _ (@pt_cmpR _ _ _ _ _ _ _ _ (@op_ne _) (@pe_cal _ _ _ _ _ _ _ _ _ _ _ _ C_becomes (rm hr) rfl pass0 (@pa_cons _ _ _ _ _ (pv 1) (@pa_int _ _ _ _ _ _ (@pa_op _ _ _ _ _ _ _ _ _ _ (@op_rep _) (@pe_lst _ _ _ _ (@pa_int _ _ _ _ _ _ (@pa_nil _))) (@pe_gint _ _ _ _ rfl T.k_NEIGHBOURS (by decide)) (@pa_nil _))) rfl) (by decide) rfl rfl) (@pe_int _ _ _ _) (nomark _)) (@pss_one _ _ _ (@ps_never _ _)) (@pss_nil _)) (@pss_one _ _ _ (@ps_ret _ _ _ _ (pv 1)))))), ?_⟩
    try dsimp only [cxK]
    refine ⟨_, rfl, _, _, _, .type "str", true, rfl, rfl, .of (.str _), str_isi K, true, rfl, ?_⟩
    refine iteF ⟨_, rfl, ?_⟩
    intro x dx nx ndx nex
    refine ⟨x, dx, r, rfl, upd_same, ho, fun H2 kp hR => ⟨rfl, ?_⟩⟩
    have s2 : Same H H2 := fun b o e => kp b o (by rw [upd_ne (ne_of_none e nx), upd_ne (ne_of_none e ndx)]; exact e) (ne_of_none e nx)
    refine ⟨_, rfl, (by show 1 ≤ sizeLine; decide), fun l hl => ?_⟩
    refine ⟨l, 8, _, rfl, rfl, upd_same, (by decide), (by decide), (by decide), fun m hm => ?_⟩
    have s3 := (s2.trans (same_upd (o := .lst [.int 0]) hl)).trans (same_upd (o := .lst (zeros8.map V.int)) hm)
    have s23 := (same_upd (o := .lst [.int 0]) hl).trans (same_upd (o := .lst (zeros8.map V.int)) hm)
    refine ⟨x, m, _, r, 0, zeros8, rfl, hR.same s23, ho.rok, upd_same, fun H4 s4 => ?_⟩
    refine ⟨rfl, _, rfl, ?_⟩
    rw [hz]
    refine iteNS rfl ⟨_, rfl, ?_⟩
    exact k x H4 (s3.trans s4) ((hR.same s23).same s4)
end
end J

set_option Elab.async false
set_option linter.all false
set_option maxRecDepth 100000
/-! What many laws have in common: _law_at, _law_whole. -/
namespace J
open PySem L2
def atN (ns : List Int) (k : Int) : Int := ns.getD k.toNat 0
section
variable {P : Program} {w : World} {K : PySem.W.Frag} {mg : Str → Option Value} {base : Heap} {a : Ad}
inductive SpAt (K : PySem.W.Frag) (vs : List V) (H : Hp) (Q : VK) : Prop
  | mk (l : Addr) (ns : List Int) (k : Int) (_ : vs = [.ref l, .int k]) (_ : SqL K H l (ns.map V.int)) (_ : 0 ≤ k) (_ : Q (.int (atN ns k)) H) : SpAt K vs H Q
def spAt (K : PySem.W.Frag) : Sp := fun vs H Q _ => SpAt K vs H Q
theorem ok_at {f : Addr} {fd : FuncData} (F : Fun K "_law_at" "_law_at" s__law_at f fd) (T : Top K mg a) : FnOk P w K mg base CX0 1 f fd p__law_at (spAt K) := by
  refine F.ok sc__law_at (fun vs H Q E h => ?_) (fun cdv A outer s H vs Q E hr h => ?_)
  · obtain ⟨l, ns, k, rfl, _⟩ := h
    rfl
  · obtain ⟨l, ns, k, rfl, hS, h0, q⟩ := h
    refine ⟨_, (@pss_cons _ _ _ _ _ (@ps_if _ _ _ _ _ _ _ _ (@pt_cmpR _ _ _ _ _ _ _ _ (@op_lt _) (pv 1) (@pe_callB _ _ _ _ _ _ _ _ _ (@call_len_seq _) rfl T.b_len PySem.boot_len (@pa_cons _ _ _ _ _ (pv 0) (@pa_nil _) rfl) (by decide) (by decide) rfl rfl) (nomark _)) (@pss_one _ _ _ (@ps_ret _ _ _ _ (@pe_ix _ _ _ _ _ _ _ (@ix_list _) (pv 0) (pv 1) (fun _ _ => rfl)))) (@pss_nil _)) (@pss_one _ _ _ (@ps_ret _ _ _ _ (@pe_int _ _ _ _)))), ?_⟩
    try dsimp only [cxK]
    refine ⟨_, rfl, _, rfl, l, _, rfl, .inl hS, _, _, rfl, rfl, _, rfl, ?_⟩
    obtain ⟨n, rfl⟩ := Int.eq_ofNat_of_zero_le h0
    refine ite2 (fun hc => ?_) (fun hc => ?_)
    · have hc' : n < ns.length := by
        have := of_decide_eq_true hc
        rw [List.length_map] at this
        omega
      refine ⟨_, rfl, _, rfl, l, _, n, .int ns[n], rfl, rfl, hS, atI_nat (by rw [List.getElem?_map, List.getElem?_eq_getElem hc']; rfl), ?_⟩
      have e : atN ns (n : Int) = ns[n] := by
        unfold atN
        rw [Int.toNat_natCast, List.getD_eq_getElem?_getD, List.getElem?_eq_getElem hc']
        rfl
      rw [e] at q
      exact q
    · have hc' : ns.length ≤ n := by
        have : ¬ (n : Int) < ((ns.map V.int).length : Int) := fun z => hc (decide_eq_true z)
        rw [List.length_map] at this
        omega
      have e : atN ns (n : Int) = 0 := by
        unfold atN
        rw [Int.toNat_natCast, List.getD_eq_getElem?_getD, List.getElem?_eq_none hc']
        rfl
      rw [e] at q
      exact q
end
theorem small_log {d : Int} (h0 : 0 ≤ d) (h1 : d ≤ 9) : d.natAbs.log2 < 1920 := by
  obtain ⟨m, rfl⟩ := Int.eq_ofNat_of_zero_le h0
  exact (show ∀ m : Nat, m < 10 → (m : Int).natAbs.log2 < 1920 by decide +kernel) m (by omega)
theorem le_line {n : Nat} (h : n ≤ 100000) : n ≤ sizeLine := Nat.le_trans h (by decide)
abbrev stars : Str := Str.ofString "01234567*"
theorem star_at : ∀ m : Nat, m < 9 → stars.cps.toList[m]? = some (if m = 8 then 42 else 48 + m) := by decide +kernel
inductive SpLaw (K : PySem.W.Frag) (vs : List V) (H : Hp) (Q : VK) : Prop
  | mk (a : Addr) (ns : List Int) (_ : vs = [.ref a]) (_ : SqL K H a (ns.map V.int)) (_ : ns.length ≤ 63) (_ : ∀ H', Q (.bl true) H') : SpLaw K vs H Q
def spLaw (K : PySem.W.Frag) : Sp := fun vs H Q _ => SpLaw K vs H Q
def bitAt (n : Int) (k : Nat) : Bool := decide (V.int (Builtin.bitAnd (n / 2 ^ k) 1) = V.int 1)
def numsOf (n : Int) : List Int := ((List.range 9).filter (bitAt n)).map fun (k : Nat) => (k : Int)
theorem nums_ne : ∀ m : Nat, m < 511 → numsOf ((m : Int) + 1) ≠ [] := by decide +kernel
theorem nums_asc (n : Int) : (numsOf n).Pairwise (· < ·) := by
  unfold numsOf
  rw [List.pairwise_map]
  have : ((List.range 9).filter (bitAt n)).Pairwise (· < ·) := List.pairwise_lt_range.sublist List.filter_sublist
  exact this.imp fun h => by omega
theorem nums_in (n : Int) : ∀ m ∈ numsOf n, 0 ≤ m ∧ m ≤ 8 := fun m hm => by
  obtain ⟨k, hk, rfl⟩ := List.mem_map.mp hm
  have := List.mem_range.mp (List.mem_filter.mp hk).1
  omega
end J

set_option Elab.async false
set_option linter.all false
set_option maxRecDepth 100000
set_option maxHeartbeats 1000000
/-! Clauses as the laws draw them: a tuple (a state or 8, a list of conditions, a state); a condition a tuple of its kind and what it wants. -/
namespace J
open PySem L2
abbrev amT : Str := Str.ofString "amount"
abbrev plT : Str := Str.ofString "places"
def unO : Option Int → Int
  | none => 8
  | some d => d
inductive LCondAt (H : Hp) : Addr → CondA → Prop where
  | am {q l : Addr} {s : Int} {ns : List Int} (h : H q = some (.tup [.str amT, .int s, .ref l])) (hl : H l = some (.lst (ns.map V.int))) : LCondAt H q (.am s ns)
  | pl {q l : Addr} {ws : List (Option Int)} (h : H q = some (.tup [.str plT, .ref l])) (hl : H l = some (.lst (ws.map fun w => V.int (unO w)))) : LCondAt H q (.pl ws)
structure LClAt (H : Hp) (q : Addr) (c : ClauseA) : Prop where
  ex : ∃ (l : Addr) (ds : List Addr), H q = some (.tup [.int (unO c.cell), .ref l, .int c.makes]) ∧ H l = some (.lst (ds.map V.ref)) ∧ Paired (LCondAt H) ds c.conds
structure LRuAt (H : Hp) (q : Addr) (r : RuleA) : Prop where
  ex : ∃ cs : List Addr, H q = some (.lst (cs.map V.ref)) ∧ Paired (LClAt H) cs r
theorem LCondAt.same {H H' : Hp} {q : Addr} {d : CondA} (s : Same H H') (h : LCondAt H q d) : LCondAt H' q d := by
  cases h with
  | am h hl => exact .am (s _ _ h) (s _ _ hl)
  | pl h hl => exact .pl (s _ _ h) (s _ _ hl)
theorem LClAt.same {H H' : Hp} {q : Addr} {c : ClauseA} (s : Same H H') (h : LClAt H q c) : LClAt H' q c := by
  obtain ⟨l, ds, h1, h2, h3⟩ := h.ex
  exact ⟨l, ds, s _ _ h1, s _ _ h2, Paired.imp (fun _ _ z => z.same s) h3⟩
theorem LRuAt.same {H H' : Hp} {q : Addr} {r : RuleA} (s : Same H H') (h : LRuAt H q r) : LRuAt H' q r := by
  obtain ⟨cs, h1, h2⟩ := h.ex
  exact ⟨cs, s _ _ h1, Paired.imp (fun _ _ z => z.same s) h2⟩
theorem unO_le {x : Option Int} (h : wOk x) : 0 ≤ unO x ∧ unO x ≤ 8 := by
  cases x with
  | none => exact ⟨by decide, by decide⟩
  | some d => exact ⟨h.1, Int.le_of_lt h.2⟩
theorem star_o {x : Option Int} (h : wOk x) : atI stars.cps.toList (unO x) = some (wC x) := by
  cases x with
  | none => exact atI_nat (star_at 8 (by decide))
  | some d =>
    obtain ⟨n, hn⟩ := Int.eq_ofNat_of_zero_le h.1
    have h2 := h.2
    have hn8 : n ≠ 8 := by omega
    show atI stars.cps.toList d = some (48 + d.toNat)
    rw [hn, Int.toNat_natCast]
    have := star_at n (by omega)
    rw [if_neg hn8] at this
    exact atI_nat this
theorem takes_un {x : Option Int} (h : wOk x) (y : Int) : takesA x y = (decide (unO x = 8) || decide (unO x = y)) := by
  cases x with
  | none => rfl
  | some d =>
    have := h.2
    show decide (d = y) = (decide (d = 8) || decide (d = y))
    rw [decide_eq_false (by omega : ¬ d = 8), Bool.false_or]
theorem join_w (ws : List (Option Int)) : Str.join (Str.ofString "") (ws.map fun w => (⟨#[wC w]⟩ : Str)) = condT (.pl ws) := by
  have e3 : Str.ofString "" = (⟨#[]⟩ : Str) := by decide +kernel
  rw [e3]
  refine Nu.ext ?_
  rw [Tx.cps_join, Tx.jl_nil, List.map_map]
  show (ws.map _).flatten = ws.map wC
  induction ws with
  | nil => rfl
  | cons x r ih => rw [List.map_cons, List.flatten_cons, ih, List.map_cons]; rfl
theorem join_d {ns : List Int} (h : ∀ m ∈ ns, 0 ≤ m ∧ m ≤ 8) : Str.join (Str.ofString "") (ns.map fun n => Str.ofString (toString n)) = digsT ns := by
  have e3 : Str.ofString "" = (⟨#[]⟩ : Str) := by decide +kernel
  rw [e3]
  refine Nu.ext ?_
  rw [Tx.cps_join, Tx.jl_nil, List.map_map]
  show (ns.map _).flatten = ns.map fun n => 48 + n.toNat
  induction ns with
  | nil => rfl
  | cons n r ih =>
    have h1 := h n List.mem_cons_self
    rw [List.map_cons, List.flatten_cons, ih fun m hm => h m (List.mem_cons_of_mem _ hm)]
    show (Str.ofString (toString n)).cps.toList ++ _ = _
    rw [Tx.dig_text h1.1 (by omega)]
    rfl
theorem dig_len {d : Int} (h0 : 0 ≤ d) (h1 : d ≤ 9) : (Str.ofString (toString d)).length = 1 := by rw [Tx.dig_text h0 h1]; rfl
section
variable {P : Program} {w : World} {K : PySem.W.Frag} {mg : Str → Option Value} {base : Heap} {a : Ad}
/-! ### drawn numbers and states -/
inductive SpMix (vs : List V) (H : Hp) (Q : VK) : Prop
  | mk (c k : Int) (_ : vs = [.int c, .int k]) (_ : 0 ≤ k) (_ : k ≤ 1000000) (_ : ∀ i : Int, 0 ≤ i → Q (.int i) H) : SpMix vs H Q
def spMix : Sp := fun vs H Q _ => SpMix vs H Q
theorem ok_mix {f : Addr} {fd : FuncData} (F : Fun K "_law_mix" "_law_mix" s__law_mix f fd) : FnOk P w K mg base CX0 1 f fd p__law_mix spMix := by
  refine F.ok sc__law_mix (fun vs H Q E h => ?_) (fun cdv A outer s H vs Q E hr h => ?_)
  · obtain ⟨c, k, rfl, _⟩ := h
    rfl
  · obtain ⟨c, k, rfl, h0, h1, q⟩ := h
    refine ⟨_, (@pss_cons _ _ _ _ _ (@ps_set _ _ (2) _ _ _ _ sc__law_mix.nd rfl (Or.inl rfl) (@pe_op _ _ _ _ _ _ _ _ (@op_mod _) (@pe_op _ _ _ _ _ _ _ _ (@op_mul _) (@pe_op _ _ _ _ _ _ _ _ (@op_add _) (@pe_op _ _ _ _ _ _ _ _ (@op_add _) (@pe_op _ _ _ _ _ _ _ _ (@op_mod _) (pv 0) (@pe_int _ _ _ _)) (@pe_op _ _ _ _ _ _ _ _ (@op_mul _) (@pe_int _ _ _ _) (pv 1))) (@pe_int _ _ _ _)) (@pe_op _ _ _ _ _ _ _ _ (@op_add _) (@pe_int _ _ _ _) (@pe_op _ _ _ _ _ _ _ _ (@op_mul _) (@pe_int _ _ _ _) (pv 1)))) (@pe_int _ _ _ _)) rfl (by first | exact .inl rfl | exact .inr rfl | assumption)) (@pss_one _ _ _ (@ps_ret _ _ _ _ (@pe_op _ _ _ _ _ _ _ _ (@op_fdiv _) (@pe_op _ _ _ _ _ _ _ _ (@op_mod _) (@pe_op _ _ _ _ _ _ _ _ (@op_mul _) (@pe_op _ _ _ _ _ _ _ _ (@op_add _) (@pe_op _ _ _ _ _ _ _ _ (@op_fdiv _) (pv 2) (@pe_int _ _ _ _)) (pv 1)) (@pe_int _ _ _ _)) (@pe_int _ _ _ _)) (@pe_int _ _ _ _))))), ?_⟩
    try dsimp only [cxK]
    refine ⟨_, rfl, _, _, rfl, rfl, (by show (0 : Int) < 998244353; decide), _, rfl, _, _, rfl, rfl, .inl ⟨by decide, by decide⟩, _, _, rfl, rfl, _, _, rfl, rfl, _, rfl, _, _, rfl, rfl, .inl ⟨by decide, by decide⟩, _, _, rfl, rfl, _, _, rfl, rfl, .inr ⟨by omega, by omega⟩, _, _, rfl, rfl, (by show (0 : Int) < 2147483647; decide), ?_⟩
    refine ⟨_, rfl, _, _, rfl, rfl, ⟨by decide, by decide⟩, _, rfl, _, _, rfl, rfl, _, _, rfl, rfl, .inr ⟨by decide, by decide⟩, _, _, rfl, rfl, (by show (0 : Int) < 2147483629; decide), _, _, rfl, rfl, ⟨by decide, by decide⟩, ?_⟩
    exact q _ (by omega)
inductive SpSt (vs : List V) (H : Hp) (Q : VK) : Prop
  | mk (m : Addr) (x y v : Int) (_ : vs = [.ref m, .int v]) (_ : H m = some (.tup [.int x, .int y])) (_ : stOk x) (_ : stOk y) (_ : ∀ d : Int, stOk d → Q (.int d) H) : SpSt vs H Q
def spSt : Sp := fun vs H Q _ => SpSt vs H Q
theorem ok_st {f : Addr} {fd : FuncData} (F : Fun K "_law_state_by" "_law_state_by" s__law_state_by f fd) : FnOk P w K mg base CX0 1 f fd p__law_state_by spSt := by
  refine F.ok sc__law_state_by (fun vs H Q E h => ?_) (fun cdv A outer s H vs Q E hr h => ?_)
  · obtain ⟨m, x, y, v, rfl, _⟩ := h
    rfl
  · obtain ⟨m, x, y, v, rfl, hm, hx, hy, q⟩ := h
    refine ⟨_, (@pss_cons _ _ _ _ _ (@ps_if _ _ _ _ _ _ _ _ (@pt_cmpR _ _ _ _ _ _ _ _ (@op_lt _) (@pe_op _ _ _ _ _ _ _ _ (@op_mod _) (pv 1) (@pe_int _ _ _ _)) (@pe_int _ _ _ _) (nomark _)) (@pss_one _ _ _ (@ps_ret _ _ _ _ (@pe_ix _ _ _ _ _ _ _ (@ix_tup _) (pv 0) (@pe_op _ _ _ _ _ _ _ _ (@op_mod _) (pv 1) (@pe_int _ _ _ _)) (fun _ _ => rfl)))) (@pss_nil _)) (@pss_one _ _ _ (@ps_ret _ _ _ _ (@pe_op _ _ _ _ _ _ _ _ (@op_mod _) (@pe_op _ _ _ _ _ _ _ _ (@op_fdiv _) (pv 1) (@pe_int _ _ _ _)) (@pe_int _ _ _ _))))), ?_⟩
    try dsimp only [cxK]
    refine ⟨_, rfl, _, _, rfl, rfl, (by show (0 : Int) < 3; decide), _, _, rfl, rfl, _, rfl, ?_⟩
    refine ite2 (fun hc => ?_) (fun _ => ?_)
    · have hc' : v % 3 < 2 := of_decide_eq_true hc
      rcases (show v % 3 = 0 ∨ v % 3 = 1 by omega) with e | e
      · exact ⟨_, rfl, _, rfl, _, _, rfl, rfl, (by show (0 : Int) < 3; decide), m, _, _, .int x, rfl, rfl, SqT.of hm, (by rw [e]; exact atI_nat (j := 0) rfl), q x hx⟩
      · exact ⟨_, rfl, _, rfl, _, _, rfl, rfl, (by show (0 : Int) < 3; decide), m, _, _, .int y, rfl, rfl, SqT.of hm, (by rw [e]; exact atI_nat (j := 1) rfl), q y hy⟩
    · exact ⟨_, rfl, _, _, rfl, rfl, ⟨by decide, by decide⟩, _, _, rfl, rfl, (by show (0 : Int) < 8; decide), q _ ⟨by omega, by omega⟩⟩
/-- the two states that are drawn most -/
def MnAt (H : Hp) (m : Addr) : Prop := ∃ x y : Int, H m = some (.tup [.int x, .int y]) ∧ stOk x ∧ stOk y
theorem MnAt.same {H H' : Hp} {m : Addr} (s : Same H H') (h : MnAt H m) : MnAt H' m := by
  obtain ⟨x, y, h1, h2⟩ := h
  exact ⟨x, y, s _ _ h1, h2⟩
/-! ### a condition -/
inductive SpCo (vs : List V) (H : Hp) (Q : VK) : Prop
  | mk (m : Addr) (sd j : Int) (_ : vs = [.ref m, .int sd, .int j]) (_ : MnAt H m) (_ : 0 ≤ j) (_ : j ≤ 900000) (_ : ∀ (q : Addr) (d : CondA) (H' : Hp), Same H H' → LCondAt H' q d → d.ok → Q (.ref q) H') : SpCo vs H Q
def spCo : Sp := fun vs H Q _ => SpCo vs H Q
theorem ok_co {f : Addr} {fd : FuncData} (F : Fun K "_law_condition_by" "_law_condition_by" s__law_condition_by f fd) (T : Top K mg a) (C__law_mix : Cal P w K mg base CX0 1 "_law_mix" p__law_mix spMix) (C__law_state_by : Cal P w K mg base CX0 1 "_law_state_by" p__law_state_by spSt) :
    FnOk P w K mg base CX0 2 f fd p__law_condition_by spCo := by
  refine F.ok sc__law_condition_by (fun vs H Q E h => ?_) (fun cdv A outer s H vs Q E hr h => ?_)
  · obtain ⟨m, sd, j, rfl, _⟩ := h
    rfl
  · obtain ⟨m, sd, j, rfl, ⟨mx, my, hm, hx, hy⟩, h0, h1, k⟩ := h
    refine ⟨_, (@pss_cons _ _ _ _ _ (@ps_if _ _ _ _ _ _ _ _ (@pt_cmpR _ _ _ _ _ _ _ _ (@op_eq _) (@pe_op _ _ _ _ _ _ _ _ (@op_mod _) (@pe_cal _ _ _ _ _ _ _ _ _ _ _ _ C__law_mix (rm hr) rfl pass0 (@pa_cons _ _ _ _ _ (pv 1) (@pa_cons _ _ _ _ _ (pv 2) (@pa_nil _) rfl) rfl) (by decide) rfl rfl) (@pe_int _ _ _ _)) (@pe_int _ _ _ _) (nomark _)) (@pss_cons _ _ _ _ _ (@ps_set _ _ (3) _ _ _ _ sc__law_condition_by.nd rfl (Or.inl rfl) (@pe_lst _ _ _ _ (@pa_nil _)) rfl (by first | exact .inl rfl | exact .inr rfl | assumption)) (@pss_cons _ _ _ _ _ (@ps_for _ _ _ _ _ _ _ _ PassesOwn.never rfl (@pi_range1 _ _ _ _ _ _ rfl T.b_range (@pa_int _ _ _ _ _ _ (@pa_nil _)) rfl) (@pg_name _ _ (4) _ sc__law_condition_by.nd rfl (Or.inl rfl) (by first | exact .inl rfl | exact .inr rfl | assumption)) (@pss_cons _ _ _ _ _ (@ps_set _ _ (5) _ _ _ _ sc__law_condition_by.nd rfl (Or.inl rfl) (@pe_cal _ _ _ _ _ _ _ _ _ _ _ _ C__law_mix (rm hr) rfl pass0 (@pa_cons _ _ _ _ _ (pv 1) (@pa_op _ _ _ _ _ _ _ _ _ _ (@op_add _) (@pe_op _ _ _ _ _ _ _ _ (@op_add _) (pv 2) (@pe_int _ _ _ _)) (pv 4) (@pa_nil _)) rfl) (by decide) rfl rfl) rfl (by first | exact .inl rfl | exact .inr rfl | assumption)) (@pss_one _ _ _ (@ps_if _ _ _ _ _ _ _ _ (@pt_cmpR _ _ _ _ _ _ _ _ (@op_eq _) (@pe_op _ _ _ _ _ _ _ _ (@op_mod _) (@pe_op _ _ _ _ _ _ _ _ (@op_fdiv _) (pv 5) (@pe_int _ _ _ _)) (@pe_int _ _ _ _)) (@pe_int _ _ _ _) (nomark _)) (@pss_one _ _ _ (@ps_expr _ _ _ _ (@pe_bm _ _ _ _ _ _ _ _ _ _ _ _ PySem.F.plainAttrs_list PySem.F.slot_list_append PySem.F.type_list_append (@mt_append _) (pv 3) (@pa_cons _ _ _ _ _ (@pe_cal _ _ _ _ _ _ _ _ _ _ _ _ C__law_state_by (rm hr) rfl pass0 (@pa_cons _ _ _ _ _ (pv 0) (@pa_cons _ _ _ _ _ (pv 5) (@pa_nil _) rfl) rfl) (by decide) rfl rfl) (@pa_nil _) rfl) rfl rfl rfl rfl rfl) rfl)) (@pss_one _ _ _ (@ps_expr _ _ _ _ (@pe_bm _ _ _ _ _ _ _ _ _ _ _ _ PySem.F.plainAttrs_list PySem.F.slot_list_append PySem.F.type_list_append (@mt_append _) (pv 3) (@pa_int _ _ _ _ _ _ (@pa_nil _)) rfl rfl rfl rfl rfl) rfl))))) (by intro _ ; rfl)) (@pss_one _ _ _ (@ps_ret _ _ _ _ (@pe_tup _ _ _ _ _ (@pa_str _ _ _ _ _ _ (@pa_cons _ _ _ _ _ (pv 3) (@pa_nil _) rfl))))))) (@pss_nil _)) (@pss_cons _ _ _ _ _ (@ps_set _ _ (6) _ _ _ _ sc__law_condition_by.nd rfl (Or.inr rfl) (@pe_op _ _ _ _ _ _ _ _ (@op_add _) (@pe_op _ _ _ _ _ _ _ _ (@op_mod _) (@pe_cal _ _ _ _ _ _ _ _ _ _ _ _ C__law_mix (rm hr) rfl pass0 (@pa_cons _ _ _ _ _ (pv 1) (@pa_op _ _ _ _ _ _ _ _ _ _ (@op_add _) (pv 2) (@pe_int _ _ _ _) (@pa_nil _)) rfl) (by decide) rfl rfl) (@pe_int _ _ _ _)) (@pe_int _ _ _ _)) rfl (by first | exact .inl rfl | exact .inr rfl | assumption)) (@pss_one _ _ _ (@ps_ret _ _ _ _ (@pe_tup _ _ _ _ _ (@pa_str _ _ _ _ _ _ (@pa_cons _ _ _ _ _ (@pe_cal _ _ _ _ _ _ _ _ _ _ _ _ C__law_state_by (rm hr) rfl pass0 (@pa_cons _ _ _ _ _ (pv 0) (@pa_cons _ _ _ _ _ (@pe_cal _ _ _ _ _ _ _ _ _ _ _ _ C__law_mix (rm hr) rfl pass0 (@pa_cons _ _ _ _ _ (pv 1) (@pa_op _ _ _ _ _ _ _ _ _ _ (@op_add _) (pv 2) (@pe_int _ _ _ _) (@pa_nil _)) rfl) (by decide) rfl rfl) (@pa_nil _) rfl) rfl) (by decide) rfl rfl) (@pa_cons _ _ _ _ _ (@pe_comp _ _ _ _ _ _ _ _ _ _ _ _ _ _ rfl (@CScope.of _ ((defScope s__law_condition_by)) (n__law_condition_by) _ (["_law_k", "_law_mask"]) (1) ([6]) rfl rfl (by decide +kernel)) (@pi_range1 _ _ _ _ _ _ rfl T.b_range (@pa_int _ _ _ _ _ _ (@pa_nil _)) rfl) (fun _ _ _ => (@pgc_name _ _ _ _ _ _ _ _ (0) (by decide +kernel) rfl rfl)) (fun _ _ _ => (@pts_one _ _ _ (@pt_cmpR _ _ _ _ _ _ _ _ (@op_eq _) (@pe_op _ _ _ _ _ _ _ _ (@op_and _) (@pe_op _ _ _ _ _ _ _ _ (@op_shr _) (pv 1) (pv 0)) (@pe_int _ _ _ _)) (@pe_int _ _ _ _) (nomark _)))) (fun _ _ _ => (pv 0)) (by intro _ ; rfl)) (@pa_nil _) rfl) rfl))))))), ?_⟩
    try dsimp only [cxK]
    refine ⟨_, rfl, _, rfl, sd, j, rfl, h0, by omega, fun v hv => ⟨_, _, rfl, rfl, (by show (0 : Int) < 3; decide), rfl, _, rfl, ?_⟩⟩
    refine ite2 (fun _ => ?_) (fun _ => ?_)
    · refine ⟨(by show 0 ≤ sizeLine; decide), fun l hl => ?_⟩
      refine ⟨8, rfl, by decide, by decide, for_range (n := 8) (fun i σ H2 => ∃ (ws : List (Option Int)) (u5 u6 u7 : Option V), σ = [some (.ref m), some (.int sd), some (.int j), some (.ref l), u5, u6, u7] ∧ H2 = upd H l (.lst (ws.map fun w => V.int (unO w))) ∧ ws.length = i ∧ ∀ x ∈ ws, wOk x) ⟨[], none, none, none, rfl, rfl, rfl, fun x hx => by simp at hx⟩ ?_ ?_⟩
      · rintro i σ H2 hi ⟨ws, u5, u6, u7, rfl, rfl, hn, hw⟩
        have lt : (ws.map fun w => V.int (unO w)).length < sizeLine := by rw [List.length_map, hn]; exact Nat.lt_of_lt_of_le hi (by decide)
        have hm2 : upd H l (.lst (ws.map fun w => V.int (unO w))) m = some (.tup [.int mx, .int my]) := same_upd hl _ _ hm
        refine ⟨_, rfl, _, rfl, _, _, rfl, rfl, _, rfl, _, _, rfl, rfl, sd, _, rfl, by omega, by omega, fun v2 hv2 => ?_⟩
        have app : ∀ x : Option Int, wOk x → ∀ u6 u7, ∃ (ws' : List (Option Int)) (u5' u6' u7' : Option V), ([some (.ref m), some (.int sd), some (.int j), some (.ref l), some (.int (0 + (i : Int))), u6, u7] : St) = [some (.ref m), some (.int sd), some (.int j), some (.ref l), u5', u6', u7'] ∧
            upd (upd H l (.lst (ws.map fun w => V.int (unO w)))) l (.lst ((ws.map fun w => V.int (unO w)) ++ [V.int (unO x)])) = upd H l (.lst (ws'.map fun w => V.int (unO w))) ∧ ws'.length = i + 1 ∧ ∀ x ∈ ws', wOk x := fun x hx u6 u7 =>
          ⟨ws ++ [x], _, _, _, rfl, by rw [upd_upd, List.map_append]; rfl, by rw [List.length_append, hn]; rfl, fun y hy => by
            rcases List.mem_append.mp hy with q | q
            · exact hw y q
            · rw [List.mem_singleton.mp q]; exact hx⟩
        refine ⟨_, rfl, _, _, rfl, rfl, ⟨by decide, by decide⟩, _, _, rfl, rfl, (by show (0 : Int) < 3; decide), rfl, _, rfl, ?_⟩
        refine ite2 (fun _ => ?_) (fun _ => ?_)
        · exact ⟨_, rfl, .inl ⟨rfl, _, SqL.of upd_same⟩, _, rfl, _, rfl, m, mx, my, v2, rfl, hm2, hx, hy, fun d hd => ⟨l, _, _, rfl, rfl, upd_same, lt, app (some d) hd _ _⟩⟩
        · exact ⟨_, rfl, .inl ⟨rfl, _, SqL.of upd_same⟩, l, _, _, rfl, rfl, upd_same, lt, app none trivial _ _⟩
      · rintro σ H2 ⟨ws, u5, u6, u7, rfl, rfl, hn, hw⟩
        refine ⟨_, rfl, (by show 2 ≤ sizeLine; decide), fun q hq => ?_⟩
        have s2 := (same_upd (o := .lst (ws.map fun w => V.int (unO w))) hl).trans (same_upd (o := .tup [.str plT, .ref l]) hq)
        exact k q (.pl ws) _ s2 (.pl upd_same (same_upd hq _ _ upd_same)) ⟨hn, hw⟩
    · refine ⟨_, rfl, _, rfl, _, _, rfl, rfl, sd, _, rfl, by omega, by omega, fun v2 hv2 => ⟨_, _, rfl, rfl, (by show (0 : Int) < 511; decide), _, _, rfl, rfl, ?_⟩⟩
      have hmask : ∃ n : Nat, n < 511 ∧ v2 % 511 + 1 = (n : Int) + 1 := by
        obtain ⟨n, hn⟩ := Int.eq_ofNat_of_zero_le (show 0 ≤ v2 % 511 by omega)
        exact ⟨n, by omega, by omega⟩
      refine ⟨_, rfl, _, rfl, _, rfl, _, _, rfl, rfl, sd, _, rfl, by omega, by omega, fun v3 hv3 => ⟨m, mx, my, v3, rfl, hm, hx, hy, fun d hd => ?_⟩⟩
      refine ⟨9, rfl, by decide, by decide, ?_⟩
      refine blk_range (n := 9) (fun i acc H2 => H = H2 ∧ acc = (((List.range i).filter (bitAt (v2 % 511 + 1))).map fun (k : Nat) => V.int (k : Int))) ⟨rfl, rfl⟩ ?_ ?_
      · rintro i acc H2 hi ⟨rfl, rfl⟩
        have lt : (((List.range i).filter (bitAt (v2 % 511 + 1))).map fun (k : Nat) => V.int (k : Int)).length < sizeLine := by
          rw [List.length_map]
          have := List.length_filter_le (bitAt (v2 % 511 + 1)) (List.range i)
          rw [List.length_range] at this
          exact Nat.lt_of_le_of_lt (Nat.le_trans this (Nat.le_of_lt hi)) (by decide)
        refine ⟨⟨[some (.int (0 + (i : Int)))], rfl, rfl⟩, lt, ?_⟩
        refine ⟨_, rfl, _, rfl, _, _, rfl, rfl, (by show (0 : Int) ≤ 0 + (i : Int); omega), _, _, rfl, rfl, rfl, _, rfl, ?_⟩
        have ei : (0 + (i : Int)).toNat = i := by omega
        have e : (List.range (i + 1)).filter (bitAt (v2 % 511 + 1)) = (List.range i).filter (bitAt (v2 % 511 + 1)) ++ if bitAt (v2 % 511 + 1) i = true then [i] else [] := by
          rw [List.range_succ, List.filter_append, List.filter_cons, List.filter_nil]
        rw [ei]
        show if bitAt (v2 % 511 + 1) i = true then _ else _
        refine ite2 (fun hb => ?_) (fun hb => ?_)
        · refine ⟨_, rfl, rfl, ?_⟩
          rw [e, if_pos hb, List.map_append]
          show _ ++ [V.int (0 + (i : Int))] = _ ++ [V.int (i : Int)]
          rw [Int.zero_add]
        · refine ⟨rfl, ?_⟩
          rw [e, if_neg hb, List.append_nil]
      · rintro acc H2 ⟨rfl, rfl⟩ l hl
        have enum : (((List.range 9).filter (bitAt (v2 % 511 + 1))).map fun (k : Nat) => V.int (k : Int)) = (numsOf (v2 % 511 + 1)).map V.int := by
          unfold numsOf
          rw [List.map_map]
          rfl
        rw [enum]
        refine ⟨(by show 3 ≤ sizeLine; decide), fun q hq => ?_⟩
        have s2 := (same_upd (o := .lst ((numsOf (v2 % 511 + 1)).map V.int)) hl).trans (same_upd (o := .tup [.str amT, .int d, .ref l]) hq)
        refine k q (.am d (numsOf (v2 % 511 + 1))) _ s2 (.am upd_same (same_upd hq _ _ upd_same)) ⟨hd, ?_, nums_in _, nums_asc _⟩
        obtain ⟨n, hn, e⟩ := hmask
        rw [e]
        exact nums_ne n hn
end
end J

set_option maxHeartbeats 200000
set_option Elab.async false
set_option linter.all false
set_option maxRecDepth 100000
set_option maxHeartbeats 1000000
namespace J
open PySem L2
theorem pl_am : decide (V.str amT = V.str (Str.ofString "places")) = false := by decide +kernel
theorem pl_pl : decide (V.str plT = V.str (Str.ofString "places")) = true := by decide +kernel
section
variable {P : Program} {w : World} {K : PySem.W.Frag} {mg : Str → Option Value} {base : Heap} {a : Ad}
/-! ### a condition's word -/
inductive SpWd (vs : List V) (H : Hp) (Q : VK) : Prop
  | mk (q : Addr) (d : CondA) (_ : vs = [.ref q]) (_ : LCondAt H q d) (_ : d.ok) (_ : ∀ H', Same H H' → Q (.str (condT d)) H') : SpWd vs H Q
def spWd : Sp := fun vs H Q _ => SpWd vs H Q
theorem ok_wd {f : Addr} {fd : FuncData} (F : Fun K "_law_word" "_law_word" s__law_word f fd) (T : Top K mg a) : FnOk P w K mg base CX0 1 f fd p__law_word spWd := by
  refine F.ok sc__law_word (fun vs H Q E h => ?_) (fun cdv A outer s H vs Q E hr h => ?_)
  · obtain ⟨q, d, rfl, _⟩ := h
    rfl
  · obtain ⟨q, d, rfl, hd, ho, k⟩ := h
    have l0 : (Str.ofString "").length = 0 := by decide +kernel
    refine ⟨_, (@pss_cons _ _ _ _ _ (@ps_if _ _ _ _ _ _ _ _ (@pt_cmpR _ _ _ _ _ _ _ _ (@op_eq _) (@pe_ix _ _ _ _ _ _ _ (@ix_tup _) (pv 0) (@pe_int _ _ _ _) (fun _ _ => rfl)) (@pe_str _ _ _ _) (nomark _)) (@pss_one _ _ _ (@ps_ret _ _ _ _ (@pe_bm _ _ _ _ _ _ _ _ _ _ _ _ PySem.F.plainAttrs_str PySem.F.slot_str_join PySem.F.type_str_join (@mt_join _) (@pe_str _ _ _ _) (@pa_cons _ _ _ _ _ (@pe_comp _ _ _ _ _ _ _ _ _ _ _ _ _ _ rfl (@CScope.of _ ((defScope s__law_word)) (n__law_word) _ (["_law_state"]) (1) ([]) rfl rfl (by decide +kernel)) (@pi_list _ _ _ _ (@pe_ix _ _ _ _ _ _ _ (@ix_tup _) (pv 0) (@pe_int _ _ _ _) (fun _ _ => rfl))) (fun _ _ _ => (@pgc_name _ _ _ _ _ _ _ _ (0) (by decide +kernel) rfl rfl)) (fun _ _ _ => (@pts_nil _)) (fun _ _ _ => (@pe_ix _ _ _ _ _ _ _ (@ix_str _) (@pe_str _ _ _ _) (pv 0) (fun _ _ => rfl))) (by intro _ ; rfl)) (@pa_nil _) rfl) rfl rfl rfl rfl rfl))) (@pss_nil _)) (@pss_one _ _ _ (@ps_ret _ _ _ _ (@pe_op _ _ _ _ _ _ _ _ (@op_add_str _) (@pe_op _ _ _ _ _ _ _ _ (@op_add_str _) (@pe_callTy _ _ _ _ _ _ _ _ _ (@call_str_int _) rfl T.b_str PyProof.Rows.boot_str (@pa_cons _ _ _ _ _ (@pe_ix _ _ _ _ _ _ _ (@ix_tup _) (pv 0) (@pe_int _ _ _ _) (fun _ _ => rfl)) (@pa_nil _) rfl) (by decide) (by decide) rfl rfl) (@pe_str _ _ _ _)) (@pe_bm _ _ _ _ _ _ _ _ _ _ _ _ PySem.F.plainAttrs_str PySem.F.slot_str_join PySem.F.type_str_join (@mt_join _) (@pe_str _ _ _ _) (@pa_cons _ _ _ _ _ (@pe_comp _ _ _ _ _ _ _ _ _ _ _ _ _ _ rfl (@CScope.of _ ((defScope s__law_word)) (n__law_word) _ (["_law_k"]) (1) ([]) rfl rfl (by decide +kernel)) (@pi_list _ _ _ _ (@pe_ix _ _ _ _ _ _ _ (@ix_tup _) (pv 0) (@pe_int _ _ _ _) (fun _ _ => rfl))) (fun _ _ _ => (@pgc_name _ _ _ _ _ _ _ _ (0) (by decide +kernel) rfl rfl)) (fun _ _ _ => (@pts_nil _)) (fun _ _ _ => (@pe_callTy _ _ _ _ _ _ _ _ _ (@call_str_int _) rfl T.b_str PyProof.Rows.boot_str (@pa_cons _ _ _ _ _ (pv 0) (@pa_nil _) rfl) (by decide) (by decide) rfl rfl)) (by intro _ ; rfl)) (@pa_nil _) rfl) rfl rfl rfl rfl rfl))))), ?_⟩
    try dsimp only [cxK]
    cases hd with
    | @pl l ws h hl =>
      refine ⟨_, rfl, q, _, 0, .str plT, rfl, rfl, SqT.of h, atI_nat (j := 0) rfl, rfl, _, rfl, ?_⟩
      rw [pl_pl]
      refine iteT ⟨rfl, _, rfl, q, _, 1, .ref l, rfl, rfl, SqT.of h, atI_nat (j := 1) rfl, l, rfl, ⟨_, SqL.of hl⟩, ?_⟩
      refine blk_list (xs := ws.map fun w => V.int (unO w)) (fun i acc H4 => H = H4 ∧ acc = ((ws.take i).map fun x => (⟨#[wC x]⟩ : Str)).map V.str) ⟨rfl, rfl⟩ (fun i acc H4 _ z => z.1 ▸ SqL.of hl) ?_ ?_
      · rintro i x acc H4 hx ⟨rfl, rfl⟩
        rw [List.getElem?_map] at hx
        obtain ⟨n, en, rfl⟩ := Option.map_eq_some_iff.mp hx
        have hn := ho.2 n (List.mem_of_getElem? en)
        refine ⟨⟨[some (.int (unO n))], rfl, rfl⟩, ?_, tyes ⟨_, rfl, stars, _, wC n, rfl, rfl, (by decide +kernel), star_o hn, rfl, ?_⟩⟩
        · rw [List.length_map, List.length_map, List.length_take, ho.1]
          exact Nat.lt_of_le_of_lt (Nat.min_le_right _ _) (by decide)
        · rw [List.take_add_one, en, List.map_append, List.map_append]
          rfl
      · rintro acc H4 ⟨rfl, rfl⟩ p hp
        rw [List.length_map, List.take_length]
        have hjok : JoinOk (Str.ofString "") (ws.map fun x => (⟨#[wC x]⟩ : Str)) = true := by
          refine Tx.join_ok 1 (fun t ht => ?_) ?_
          · obtain ⟨n, hn, rfl⟩ := List.mem_map.mp ht
            exact Nat.le_refl 1
          · rw [List.length_map, l0, ho.1]
            decide
        refine ⟨_, p, _, rfl, rfl, SqL.of upd_same, hjok, ?_⟩
        rw [join_w]
        exact k _ (same_upd hp)
    | @am l st ns h hl =>
      obtain ⟨hst, _, hn, hasc⟩ := ho
      have hlen := asc_len ns 0 (by decide) hn hasc
      have hs9 : st ≤ 9 := by have := hst.2; omega
      refine ⟨_, rfl, q, _, 0, .str amT, rfl, rfl, SqT.of h, atI_nat (j := 0) rfl, rfl, _, rfl, ?_⟩
      rw [pl_am]
      refine iteF ⟨_, rfl, q, _, 1, .int st, rfl, rfl, SqT.of h, atI_nat (j := 1) rfl, st, rfl, small_log hst.1 hs9, _, _, rfl, rfl, le_line (by erw [dig_len hst.1 hs9]; decide), rfl, _, rfl, q, _, 2, .ref l, rfl, rfl, SqT.of h, atI_nat (j := 2) rfl, l, rfl, ⟨_, SqL.of hl⟩, ?_⟩
      refine blk_list (xs := ns.map V.int) (fun i acc H4 => H = H4 ∧ acc = ((ns.take i).map fun n => Str.ofString (toString n)).map V.str) ⟨rfl, rfl⟩ (fun i acc H4 _ z => z.1 ▸ SqL.of hl) ?_ ?_
      · rintro i x acc H4 hx ⟨rfl, rfl⟩
        rw [List.getElem?_map] at hx
        obtain ⟨n, en, rfl⟩ := Option.map_eq_some_iff.mp hx
        have hn' := hn n (List.mem_of_getElem? en)
        refine ⟨⟨[some (.int n)], rfl, rfl⟩, ?_, tyes ⟨_, rfl, n, rfl, small_log hn'.1 (by omega), rfl, ?_⟩⟩
        · rw [List.length_map, List.length_map, List.length_take]
          exact Nat.lt_of_le_of_lt (Nat.min_le_right _ _) (Nat.lt_of_le_of_lt (show _ ≤ 9 by omega) (by decide))
        · rw [List.take_add_one, en, List.map_append, List.map_append]
          rfl
      · rintro acc H4 ⟨rfl, rfl⟩ p hp
        rw [List.length_map, List.take_length]
        have hjok : JoinOk (Str.ofString "") (ns.map fun n => Str.ofString (toString n)) = true := by
          refine Tx.join_ok 1 (fun t ht => ?_) ?_
          · obtain ⟨n, hn2, rfl⟩ := List.mem_map.mp ht
            have := hn n hn2
            rw [dig_len this.1 (by omega)]
            decide
          · rw [List.length_map, l0]
            omega
        refine ⟨_, p, _, rfl, rfl, SqL.of upd_same, hjok, _, _, rfl, rfl, le_line ?_, ?_⟩
        · rw [join_d hn]
          have e1 : (digsT ns).length = ns.length := by rw [Nu.len]; show (ns.map _).length = _; rw [List.length_map]
          have e2 : (Str.ofString "=").length = 1 := by decide +kernel
          rw [Tx.app_len, e1, e2]
          erw [dig_len hst.1 hs9]
          omega
        · have e : Str.ofString (toString st) ++ Str.ofString "=" ++ Str.join (Str.ofString "") (ns.map fun n => Str.ofString (toString n)) = condT (.am st ns) := by
            rw [join_d hn, Tx.dig_text hst.1 hs9, show Str.ofString "=" = (⟨#[61]⟩ : Str) by decide +kernel]
            rfl
          have := k _ (same_upd (o := .lst ((ns.map fun n => Str.ofString (toString n)).map V.str)) hp)
          rw [← e] at this
          exact this
/-! ### the text of clauses -/
/-- few clauses of few conditions -/
def SmR (r : RuleA) : Prop := r.length ≤ 41 ∧ ∀ c ∈ r, c.conds.length ≤ 8
theorem sm_clause {c : ClauseA} (h : c.ok) (e : c.conds.length ≤ 8) : (clauseT c).length ≤ 110 := by
  have j := StrLaws.join_length_le ⟨#[32]⟩ (wS c.cell :: (c.conds.map condT ++ [sgD c.makes]))
  have b : ∀ l : List CondA, (∀ d ∈ l, d.ok) → ((l.map condT).map (·.length)).sum ≤ 11 * l.length := by
    intro l
    induction l with
    | nil => intro _; exact Nat.zero_le _
    | cons d r ih =>
      intro hd
      have h1 := cond_len (hd d List.mem_cons_self)
      have h2 := ih fun e he => hd e (List.mem_cons_of_mem _ he)
      simp only [List.map_cons, List.sum_cons, List.length_cons]
      omega
  have b1 := b c.conds h.conds
  simp only [List.map_cons, List.map_append, List.map_nil, List.sum_cons, List.sum_append, List.sum_nil, List.length_cons, List.length_append, List.length_nil, List.length_map] at j
  have l1 : (wS c.cell).length = 1 := rfl
  have l2 : (sgD c.makes).length = 1 := rfl
  have l3 : (⟨#[32]⟩ : Str).length = 1 := rfl
  rw [l1, l2, l3] at j
  unfold clauseT
  omega
theorem sm_rule {r : RuleA} (h : ∀ c ∈ r, c.ok) (e : SmR r) : (ruleT r).length ≤ 112 * r.length := by
  have j := StrLaws.join_length_le markT (r.map clauseT)
  have b : ∀ l : List ClauseA, (∀ c ∈ l, c.ok ∧ c.conds.length ≤ 8) → ((l.map clauseT).map (·.length)).sum ≤ 110 * l.length := by
    intro l
    induction l with
    | nil => intro _; exact Nat.zero_le _
    | cons d r ih =>
      intro hd
      have h1 := sm_clause (hd d List.mem_cons_self).1 (hd d List.mem_cons_self).2
      have h2 := ih fun e he => hd e (List.mem_cons_of_mem _ he)
      simp only [List.map_cons, List.sum_cons, List.length_cons]
      omega
  have b1 := b r fun c hc => ⟨h c hc, e.2 c hc⟩
  have l3 : markT.length = 2 := rfl
  rw [l3, List.length_map] at j
  unfold ruleT
  omega
theorem sm_okt {r : RuleA} (h : ∀ c ∈ r, c.ok) (e : SmR r) : ROkT r := ⟨Nat.le_trans e.1 (by decide), h, Nat.le_trans (sm_rule h e) (by have := e.1; omega)⟩
inductive SpTx (vs : List V) (H : Hp) (Q : VK) : Prop
  | mk (q : Addr) (r : RuleA) (_ : vs = [.ref q]) (_ : LRuAt H q r) (_ : ROkT r) (_ : SmR r) (_ : ∀ H', Same H H' → Q (.str (ruleT r)) H') : SpTx vs H Q
def spTx : Sp := fun vs H Q _ => SpTx vs H Q
theorem ok_tx {f : Addr} {fd : FuncData} (F : Fun K "_law_text" "_law_text" s__law_text f fd) (T : Top K mg a) (C__law_word : Cal P w K mg base CX0 1 "_law_word" p__law_word spWd) : FnOk P w K mg base CX0 2 f fd p__law_text spTx := by
  refine F.ok sc__law_text (fun vs H Q E h => ?_) (fun cdv A outer s H vs Q E hr h => ?_)
  · obtain ⟨q, r, rfl, _⟩ := h
    rfl
  · obtain ⟨q, r, rfl, hR, ho, sm8, k⟩ := h
    obtain ⟨cs, hq, hcs⟩ := hR.ex
    have ln : cs.length = r.length := Paired.length hcs
    have f50 := ho.few
    refine ⟨_, (@pss_cons _ _ _ _ _ (@ps_set _ _ (1) _ _ _ _ sc__law_text.nd rfl (Or.inl rfl) (@pe_lst _ _ _ _ (@pa_nil _)) rfl (by first | exact .inl rfl | exact .inr rfl | assumption)) (@pss_cons _ _ _ _ _ (@ps_for _ _ _ _ _ _ _ _ PassesOwn.never rfl (@pi_list _ _ _ _ (pv 0)) (@pg_name _ _ (2) _ sc__law_text.nd rfl (Or.inl rfl) (by first | exact .inl rfl | exact .inr rfl | assumption)) (@pss_cons _ _ _ _ _ (@ps_set _ _ (3) _ _ _ _ sc__law_text.nd rfl (Or.inl rfl) (@pe_op _ _ _ _ _ _ _ _ (@op_cat _) (@pe_lst _ _ _ _ (@pa_cons _ _ _ _ _ (@pe_ix _ _ _ _ _ _ _ (@ix_str _) (@pe_str _ _ _ _) (@pe_ix _ _ _ _ _ _ _ (@ix_tup _) (pv 2) (@pe_int _ _ _ _) (fun _ _ => rfl)) (fun _ _ => rfl)) (@pa_nil _) rfl)) (@pe_comp _ _ _ _ _ _ _ _ _ _ _ _ _ _ rfl (@CScope.of _ ((defScope s__law_text)) (n__law_text) _ (["_law_condition"]) (1) ([]) rfl rfl (by decide +kernel)) (@pi_list _ _ _ _ (@pe_ix _ _ _ _ _ _ _ (@ix_tup _) (pv 2) (@pe_int _ _ _ _) (fun _ _ => rfl))) (fun _ _ _ => (@pgc_name _ _ _ _ _ _ _ _ (0) (by decide +kernel) rfl rfl)) (fun _ _ _ => (@pts_nil _)) (fun _ _ _ => (@pe_cal _ _ _ _ _ _ _ _ _ _ _ _ C__law_word (rm hr) rfl pass0 (@pa_cons _ _ _ _ _ (pv 0) (@pa_nil _) rfl) (by decide) rfl rfl)) (by intro _ ; rfl))) rfl (by first | exact .inl rfl | exact .inr rfl | assumption)) (@pss_one _ _ _ (@ps_expr _ _ _ _ (@pe_bm _ _ _ _ _ _ _ _ _ _ _ _ PySem.F.plainAttrs_list PySem.F.slot_list_append PySem.F.type_list_append (@mt_append _) (pv 1) (@pa_cons _ _ _ _ _ (@pe_bm _ _ _ _ _ _ _ _ _ _ _ _ PySem.F.plainAttrs_str PySem.F.slot_str_join PySem.F.type_str_join (@mt_join _) (@pe_str _ _ _ _) (@pa_op _ _ _ _ _ _ _ _ _ _ (@op_cat _) (pv 3) (@pe_lst _ _ _ _ (@pa_cons _ _ _ _ _ (@pe_callTy _ _ _ _ _ _ _ _ _ (@call_str_int _) rfl T.b_str PyProof.Rows.boot_str (@pa_cons _ _ _ _ _ (@pe_ix _ _ _ _ _ _ _ (@ix_tup _) (pv 2) (@pe_int _ _ _ _) (fun _ _ => rfl)) (@pa_nil _) rfl) (by decide) (by decide) rfl rfl) (@pa_nil _) rfl)) (@pa_nil _)) rfl rfl rfl rfl rfl) (@pa_nil _) rfl) rfl rfl rfl rfl rfl) rfl))) (by intro _ ; rfl)) (@pss_one _ _ _ (@ps_ret _ _ _ _ (@pe_bm _ _ _ _ _ _ _ _ _ _ _ _ PySem.F.plainAttrs_str PySem.F.slot_str_join PySem.F.type_str_join (@mt_join _) (@pe_str _ _ _ _) (@pa_cons _ _ _ _ _ (pv 1) (@pa_nil _) rfl) rfl rfl rfl rfl rfl))))), ?_⟩
    try dsimp only [cxK]
    refine ⟨(by show 0 ≤ sizeLine; decide), fun pt hpt => ?_⟩
    have hq1 : ∀ o, upd H pt o q = some (.lst (cs.map V.ref)) := fun o => same_upd hpt _ _ hq
    refine ⟨_, rfl, q, rfl, ⟨_, SqL.of (hq1 _)⟩, for_list (xs := cs.map V.ref) (fun i σ H2 => ∃ u2 u3 : Option V, σ = [some (.ref q), some (.ref pt), u2, u3] ∧ Same H H2 ∧ H2 pt = some (.lst ((r.take i).map fun c => V.str (clauseT c)))) ⟨none, none, rfl, same_upd hpt, upd_same⟩ (fun i σ H2 _ ⟨_, _, _, sm, _⟩ => SqL.of (sm _ _ hq)) ?_ ?_⟩
    · rintro i x σ H2 hx ⟨u2, u3, rfl, sm, hp2⟩
      rw [List.getElem?_map] at hx
      obtain ⟨cq, ecq, rfl⟩ := Option.map_eq_some_iff.mp hx
      obtain ⟨c, ec, hc⟩ := Paired.get hcs ecq
      have mc := List.mem_of_getElem? ec
      have oc := ho.ok c mc
      have c50 := oc.few
      obtain ⟨cl, ds, h1, h2, h3⟩ := (hc.same sm).ex
      have md9 : c.makes ≤ 9 := by have := oc.makes.2; omega
      have un := unO_le oc.cell
      refine ⟨_, rfl, cq, _, 0, .int (unO c.cell), rfl, rfl, SqT.of h1, atI_nat (j := 0) rfl, stars, _, wC c.cell, rfl, rfl, (by decide +kernel), star_o oc.cell, (by show 1 ≤ sizeLine; decide), fun w1 hw1 => ?_⟩
      have s1 := same_upd (o := .lst [.str ⟨#[wC c.cell]⟩]) hw1
      refine ⟨_, rfl, cq, _, 1, .ref cl, rfl, rfl, SqT.of (s1 _ _ h1), atI_nat (j := 1) rfl, cl, rfl, ⟨_, SqL.of (s1 _ _ h2)⟩, ?_⟩
      have hw1' : upd H2 w1 (.lst [.str ⟨#[wC c.cell]⟩]) w1 = some (.lst [.str ⟨#[wC c.cell]⟩]) := upd_same
      generalize upd H2 w1 (.lst [.str ⟨#[wC c.cell]⟩]) = H3 at s1 hw1' ⊢
      refine blk_list (xs := ds.map V.ref) (fun j acc H4 => Same H3 H4 ∧ acc = ((c.conds.take j).map condT).map V.str) ⟨Same.refl H3, rfl⟩ (fun j acc H4 _ z => SqL.of (z.1 _ _ (s1 _ _ h2))) ?_ ?_
      · rintro j x acc H4 hx ⟨s4, rfl⟩
        rw [List.getElem?_map] at hx
        obtain ⟨dq, edq, rfl⟩ := Option.map_eq_some_iff.mp hx
        obtain ⟨d, ed, hd⟩ := Paired.get h3 edq
        refine ⟨⟨[some (.ref dq)], rfl, rfl⟩, ?_, tyes ⟨_, rfl, dq, d, rfl, (hd.same s1).same s4, oc.conds d (List.mem_of_getElem? ed), fun H5 s5 => ⟨s4.trans s5, ?_⟩⟩⟩
        · rw [List.length_map, List.length_map, List.length_take]
          exact Nat.lt_of_le_of_lt (Nat.min_le_right _ _) (Nat.lt_of_le_of_lt c50 (by decide))
        · rw [List.take_add_one, ed, List.map_append, List.map_append]
          rfl
      · rintro acc H4 ⟨s4, rfl⟩ w2 hw2
        have ld : ds.length = c.conds.length := Paired.length h3
        rw [List.length_map, ld, List.take_length]
        have s5 := s4.trans (same_upd (o := .lst ((c.conds.map condT).map V.str)) hw2)
        have hw25 : upd H4 w2 (.lst ((c.conds.map condT).map V.str)) w2 = some (.lst ((c.conds.map condT).map V.str)) := upd_same
        generalize upd H4 w2 (.lst ((c.conds.map condT).map V.str)) = H5 at s5 hw25 ⊢
        refine ⟨w1, w2, _, _, rfl, rfl, s5 _ _ hw1', hw25, le_line (by simp only [List.length_cons, List.length_nil, List.length_map]; omega), fun w3 hw3 => ?_⟩
        have s6 := s5.trans (same_upd (o := .lst ([.str ⟨#[wC c.cell]⟩] ++ (c.conds.map condT).map V.str)) hw3)
        have hw36 : upd H5 w3 (.lst ([.str ⟨#[wC c.cell]⟩] ++ (c.conds.map condT).map V.str)) w3 = some (.lst ([.str ⟨#[wC c.cell]⟩] ++ (c.conds.map condT).map V.str)) := upd_same
        generalize upd H5 w3 (.lst ([.str ⟨#[wC c.cell]⟩] ++ (c.conds.map condT).map V.str)) = H6 at s6 hw36 ⊢
        have s26 : Same H2 H6 := s1.trans s6
        -- parts.append(' '.join(words + [str(..)]))
        refine ⟨_, rfl, .inl ⟨rfl, _, SqL.of (s26 _ _ hp2)⟩, rfl, _, rfl, _, rfl, cq, _, 2, .int c.makes, rfl, rfl, SqT.of (s26 _ _ h1), atI_nat (j := 2) rfl, c.makes, rfl, small_log oc.makes.1 md9, (by show 1 ≤ sizeLine; decide), fun w4 hw4 => ?_⟩
        have s7 := s26.trans (same_upd (o := .lst [.str (Str.ofString (toString c.makes))]) hw4)
        have hw47 : upd H6 w4 (.lst [.str (Str.ofString (toString c.makes))]) w4 = some (.lst [.str (Str.ofString (toString c.makes))]) := upd_same
        have hw37 := same_upd (o := .lst [.str (Str.ofString (toString c.makes))]) hw4 _ _ hw36
        generalize upd H6 w4 (.lst [.str (Str.ofString (toString c.makes))]) = H7 at s7 hw47 hw37 ⊢
        refine ⟨w3, w4, _, _, rfl, rfl, hw37, hw47, le_line (by simp only [List.length_append, List.length_cons, List.length_nil, List.length_map]; omega), fun w5 hw5 => ?_⟩
        have eL : ([.str ⟨#[wC c.cell]⟩] ++ (c.conds.map condT).map V.str) ++ [.str (Str.ofString (toString c.makes))] = (wS c.cell :: (c.conds.map condT ++ [sgD c.makes])).map V.str := by
          rw [Tx.dig_text oc.makes.1 md9, List.map_cons, List.map_append]
          rfl
        rw [eL]
        have s8 := s7.trans (same_upd (o := .lst ((wS c.cell :: (c.conds.map condT ++ [sgD c.makes])).map V.str)) hw5)
        have hw58 : upd H7 w5 (.lst ((wS c.cell :: (c.conds.map condT ++ [sgD c.makes])).map V.str)) w5 = some (.lst ((wS c.cell :: (c.conds.map condT ++ [sgD c.makes])).map V.str)) := upd_same
        generalize upd H7 w5 (.lst ((wS c.cell :: (c.conds.map condT ++ [sgD c.makes])).map V.str)) = H8 at s8 hw58 ⊢
        have lb : (Str.ofString " ").length = 1 := by decide +kernel
        have hjok : JoinOk (Str.ofString " ") (wS c.cell :: (c.conds.map condT ++ [sgD c.makes])) = true := by
          refine Tx.join_ok 11 (fun t ht => ?_) ?_
          · rcases List.mem_cons.mp ht with rfl | ht
            · show 1 ≤ 11; decide
            · rcases List.mem_append.mp ht with ht | ht
              · obtain ⟨d, hd, rfl⟩ := List.mem_map.mp ht
                exact cond_len (oc.conds d hd)
              · rw [List.mem_singleton.mp ht]; show 1 ≤ 11; decide
          · rw [lb, List.length_cons, List.length_append, List.length_map, List.length_cons, List.length_nil]
            omega
        refine ⟨_, w5, _, rfl, rfl, SqL.of hw58, hjok, ?_⟩
        have eC : Str.join (Str.ofString " ") (wS c.cell :: (c.conds.map condT ++ [sgD c.makes])) = clauseT c := by
          rw [show Str.ofString " " = (⟨#[32]⟩ : Str) by decide +kernel]
          rfl
        rw [eC]
        refine ⟨pt, _, _, rfl, rfl, s8 _ _ hp2, ?_, ?_⟩
        · rw [List.length_map, List.length_take]
          exact Nat.lt_of_le_of_lt (Nat.min_le_right _ _) (Nat.lt_of_le_of_lt f50 (by decide))
        · refine ⟨_, _, rfl, fun b o e => ?_, ?_⟩
          · have ne : b ≠ pt := ne_of_none e hpt
            rw [upd_ne ne]
            exact s8 _ _ (sm _ _ e)
          · rw [upd_same, List.take_add_one, ec, List.map_append]
            rfl
    · rintro σ H2 ⟨u2, u3, rfl, sm, hp2⟩
      rw [List.length_map, ln, List.take_length] at hp2
      have hp2' : H2 pt = some (.lst ((r.map clauseT).map V.str)) := by rw [hp2, List.map_map]; rfl
      have em : Str.ofString "; " = markT := by decide +kernel
      have hjok : JoinOk (Str.ofString "; ") (r.map clauseT) = true := by
        refine Tx.join_ok 1000 (fun t ht => ?_) ?_
        · obtain ⟨c, hc, rfl⟩ := List.mem_map.mp ht
          exact Nat.le_trans (sm_clause (ho.ok c hc) (sm8.2 c hc)) (by decide)
        · rw [List.length_map, em, show markT.length = 2 from rfl]
          have := sm8.1
          omega
      refine ⟨rfl, _, rfl, _, pt, _, rfl, rfl, SqL.of hp2', hjok, ?_⟩
      rw [em]
      exact k H2 sm
end
end J

set_option maxHeartbeats 200000
set_option Elab.async false
set_option linter.all false
set_option maxRecDepth 100000
set_option maxHeartbeats 1000000
namespace J
open PySem L2
section
variable {P : Program} {w : World} {K : PySem.W.Frag} {mg : Str → Option Value} {base : Heap} {a : Ad}
/-! ### does it hold, which decides, what becomes -/
inductive SpHo (vs : List V) (H : Hp) (Q : VK) : Prop
  | mk (q m : Addr) (d : CondA) (ar : List Int) (_ : vs = [.ref q, .ref m]) (_ : LCondAt H q d) (_ : d.ok) (_ : H m = some (.lst (ar.map V.int))) (_ : ar.length = 8) (_ : Q (.bl (d.holds ar)) H) : SpHo vs H Q
def spHo : Sp := fun vs H Q _ => SpHo vs H Q
theorem ok_ho {f : Addr} {fd : FuncData} (F : Fun K "_law_holds" "_law_holds" s__law_holds f fd) (T : Top K mg a) : FnOk P w K mg base CX0 1 f fd p__law_holds spHo := by
  refine F.ok sc__law_holds (fun vs H Q E h => ?_) (fun cdv A outer s H vs Q E hr h => ?_)
  · obtain ⟨q, m, d, ar, rfl, _⟩ := h
    rfl
  · obtain ⟨q, m, d, ar, rfl, hd, ho, hm, a8, k⟩ := h
    refine ⟨_, (@pss_cons _ _ _ _ _ (@ps_if _ _ _ _ _ _ _ _ (@pt_cmpR _ _ _ _ _ _ _ _ (@op_eq _) (@pe_ix _ _ _ _ _ _ _ (@ix_tup _) (pv 0) (@pe_int _ _ _ _) (fun _ _ => rfl)) (@pe_str _ _ _ _) (nomark _)) (@pss_cons _ _ _ _ _ (@ps_for _ _ _ _ _ _ _ _ PassesOwn.never rfl (@pi_range1 _ _ _ _ _ _ rfl T.b_range (@pa_int _ _ _ _ _ _ (@pa_nil _)) rfl) (@pg_name _ _ (2) _ sc__law_holds.nd rfl (Or.inl rfl) (by first | exact .inl rfl | exact .inr rfl | assumption)) (@pss_one _ _ _ (@ps_if _ _ _ _ _ _ _ _ (@PW.pt _ _ _ (@pw_and _ _ _ _ _ _ _ (@pt_cmpR _ _ _ _ _ _ _ _ (@op_ne _) (@pe_ix _ _ _ _ _ _ _ (@ix_list _) (@pe_ix _ _ _ _ _ _ _ (@ix_tup _) (pv 0) (@pe_int _ _ _ _) (fun _ _ => rfl)) (pv 2) (fun _ _ => rfl)) (@pe_int _ _ _ _) (nomark _)) (@pw_and1 _ _ _ _ (@pt_cmpR _ _ _ _ _ _ _ _ (@op_ne _) (@pe_ix _ _ _ _ _ _ _ (@ix_list _) (@pe_ix _ _ _ _ _ _ _ (@ix_tup _) (pv 0) (@pe_int _ _ _ _) (fun _ _ => rfl)) (pv 2) (fun _ _ => rfl)) (@pe_ix _ _ _ _ _ _ _ (@ix_list _) (pv 1) (pv 2) (fun _ _ => rfl)) (nomark _))))) (@pss_one _ _ _ (@ps_ret _ _ _ _ (@pe_bl _ _ _ _))) (@pss_nil _))) (by intro _ ; rfl)) (@pss_one _ _ _ (@ps_ret _ _ _ _ (@pe_bl _ _ _ _)))) (@pss_nil _)) (@pss_cons _ _ _ _ _ (@ps_set _ _ (3) _ _ _ _ sc__law_holds.nd rfl (Or.inl rfl) (@pe_int _ _ _ _) rfl (by first | exact .inl rfl | exact .inr rfl | assumption)) (@pss_cons _ _ _ _ _ (@ps_for _ _ _ _ _ _ _ _ PassesOwn.never rfl (@pi_list _ _ _ _ (pv 1)) (@pg_name _ _ (4) _ sc__law_holds.nd rfl (Or.inl rfl) (by first | exact .inl rfl | exact .inr rfl | assumption)) (@pss_one _ _ _ (@ps_if _ _ _ _ _ _ _ _ (@pt_cmpR _ _ _ _ _ _ _ _ (@op_eq _) (pv 4) (@pe_ix _ _ _ _ _ _ _ (@ix_tup _) (pv 0) (@pe_int _ _ _ _) (fun _ _ => rfl)) (nomark _)) (@pss_one _ _ _ (@ps_set _ _ (3) _ _ _ _ sc__law_holds.nd rfl (Or.inl rfl) (@pe_op _ _ _ _ _ _ _ _ (@op_add _) (pv 3) (@pe_int _ _ _ _)) rfl (by first | exact .inl rfl | exact .inr rfl | assumption))) (@pss_nil _))) (by intro _ ; rfl)) (@pss_one _ _ _ (@ps_ret _ _ _ _ (@pe_cmpR _ _ _ _ _ _ _ _ (@op_in_seq _) (pv 3) (@pe_ix _ _ _ _ _ _ _ (@ix_tup _) (pv 0) (@pe_int _ _ _ _) (fun _ _ => rfl)) rfl)))))), ?_⟩
    try dsimp only [cxK]
    cases hd with
    | @pl l ws h hl =>
      obtain ⟨w8, hw⟩ := ho
      refine ⟨_, rfl, q, _, 0, .str plT, rfl, rfl, SqT.of h, atI_nat (j := 0) rfl, rfl, _, rfl, ?_⟩
      rw [pl_pl]
      refine iteT ⟨8, rfl, by decide, by decide, for_range (n := 8) (fun i σ H2 => H = H2 ∧ (∃ v, σ = [some (.ref q), some (.ref m), v, none, none]) ∧ ∀ p ∈ (ws.zip ar).take i, takesA p.1 p.2 = true) ⟨rfl, ⟨none, rfl⟩, fun p hp => by simp at hp⟩ ?_ ?_⟩
      · rintro i σ H2 hi ⟨rfl, ⟨v, rfl⟩, no⟩
        have iW : i < ws.length := by omega
        have iA : i < ar.length := by omega
        have eW : atI (ws.map fun w => V.int (unO w)) (0 + (i : Int)) = some (V.int (unO ws[i])) := by rw [Int.zero_add]; exact atI_nat (by rw [List.getElem?_map, List.getElem?_eq_getElem iW]; rfl)
        have eA : atI (ar.map V.int) (0 + (i : Int)) = some (V.int ar[i]) := by rw [Int.zero_add]; exact atI_nat (by rw [List.getElem?_map, List.getElem?_eq_getElem iA]; rfl)
        have ez : (ws.zip ar)[i]? = some (ws[i], ar[i]) := by rw [List.getElem?_zip_eq_some]; exact ⟨List.getElem?_eq_getElem iW, List.getElem?_eq_getElem iA⟩
        have tk := takes_un (hw ws[i] (List.getElem_mem iW)) ar[i]
        refine ⟨_, rfl, q, _, 1, .ref l, rfl, rfl, SqT.of h, atI_nat (j := 1) rfl, _, rfl, l, _, _, _, rfl, rfl, SqL.of hl, eW, rfl, _, rfl, ?_⟩
        rw [dec_int]
        have nx : takesA ws[i] ar[i] = true → (∃ v, ([some (.ref q), some (.ref m), some (.int (0 + (i : Int))), none, none] : St) = [some (.ref q), some (.ref m), v, none, none]) ∧ ∀ p ∈ (ws.zip ar).take (i + 1), takesA p.1 p.2 = true := fun h => ⟨⟨_, rfl⟩, fun p hp => by
          rw [List.take_add_one, ez] at hp
          rcases List.mem_append.mp hp with z | z
          · exact no p z
          · have : p = (ws[i], ar[i]) := by simpa using z
            rw [this]; exact h⟩
        by_cases h8 : unO ws[i] = 8
        · rw [decide_eq_true h8] at tk ⊢
          exact iteF (iteF ⟨rfl, nx (by rw [tk]; rfl)⟩)
        · rw [decide_eq_false h8] at tk ⊢
          refine iteT ⟨_, rfl, q, _, 1, .ref l, rfl, rfl, SqT.of h, atI_nat (j := 1) rfl, _, rfl, l, _, _, _, rfl, rfl, SqL.of hl, eW, _, rfl, _, rfl, m, _, _, _, rfl, rfl, SqL.of hm, eA, rfl, _, rfl, ?_⟩
          rw [dec_int]
          by_cases he : unO ws[i] = ar[i]
          · rw [decide_eq_true he] at tk ⊢
            exact iteF ⟨rfl, nx (by rw [tk]; rfl)⟩
          · rw [decide_eq_false he] at tk ⊢
            refine iteT ?_
            have e : CondA.holds ar (.pl ws) = false := by
              show (ws.zip ar).all _ = false
              rw [List.all_eq_false]
              exact ⟨_, List.mem_of_getElem? ez, by rw [tk]; exact Bool.false_ne_true⟩
            rw [e] at k
            exact k
      · rintro σ H2 ⟨rfl, ⟨v, rfl⟩, no⟩
        have e : CondA.holds ar (.pl ws) = true := by
          show (ws.zip ar).all _ = true
          rw [List.all_eq_true]
          intro p hp
          have l8 : (ws.zip ar).length = 8 := by rw [List.length_zip]; omega
          rw [← l8, List.take_length] at no
          exact no p hp
        rw [e] at k
        exact k
    | @am l st ns h hl =>
      refine ⟨_, rfl, q, _, 0, .str amT, rfl, rfl, SqT.of h, atI_nat (j := 0) rfl, rfl, _, rfl, ?_⟩
      rw [pl_am]
      refine iteF ?_
      refine ⟨_, rfl, m, rfl, ⟨_, SqL.of hm⟩, for_list (xs := ar.map V.int) (fun i σ H2 => H = H2 ∧ ∃ v, σ = [some (.ref q), some (.ref m), none, some (.int (((ar.take i).countP (· == st) : Nat) : Int)), v]) ⟨rfl, none, rfl⟩ (fun i σ H2 _ z => z.1 ▸ SqL.of hm) ?_ ?_⟩
      · rintro i x σ H2 hx ⟨rfl, v, rfl⟩
        rw [List.getElem?_map] at hx
        obtain ⟨n, en, rfl⟩ := Option.map_eq_some_iff.mp hx
        have e : (((ar.take (i + 1)).countP (· == st) : Nat) : Int) = (((ar.take i).countP (· == st) : Nat) : Int) + (if n = st then 1 else 0) := by
          rw [List.take_add_one, en, List.countP_append]
          by_cases h : n = st <;> simp [h]
        refine ⟨_, rfl, _, rfl, q, _, 1, .int st, rfl, rfl, SqT.of h, atI_nat (j := 1) rfl, rfl, _, rfl, ?_⟩
        refine ite2 (fun hc => ?_) (fun hc => ?_)
        · have : n = st := by
            have := of_decide_eq_true hc
            injection this
          refine ⟨_, rfl, _, _, rfl, rfl, rfl, some (.int n), ?_⟩
          rw [e, if_pos this]
          rfl
        · have : ¬ n = st := fun z => hc (decide_eq_true (by rw [z]))
          refine ⟨rfl, some (.int n), ?_⟩
          rw [e, if_neg this, Int.add_zero]
          rfl
      · rintro σ H2 ⟨rfl, v, rfl⟩
        rw [List.length_map, List.take_length]
        refine ⟨_, rfl, _, rfl, q, _, 2, .ref l, rfl, rfl, SqT.of h, atI_nat (j := 2) rfl, l, _, rfl, .inl (SqL.of hl), rfl, flat_ints _, ?_⟩
        show Q (.bl (inV _ _)) H
        rw [in_ints]
        exact k
inductive SpDe (vs : List V) (H : Hp) (Q : VK) : Prop
  | mk (q m : Addr) (r : RuleA) (cell : Int) (ar : List Int) (_ : vs = [.ref q, .int cell, .ref m]) (_ : LRuAt H q r) (_ : ROkT r) (_ : H m = some (.lst (ar.map V.int))) (_ : ar.length = 8) (_ : ∀ H', Same H H' → Q (decV (decA r cell ar)) H') : SpDe vs H Q
def spDe : Sp := fun vs H Q _ => SpDe vs H Q
theorem ok_de {f : Addr} {fd : FuncData} (F : Fun K "_law_decides" "_law_decides" s__law_decides f fd) (T : Top K mg a) (C__law_holds : Cal P w K mg base CX0 1 "_law_holds" p__law_holds spHo) : FnOk P w K mg base CX0 2 f fd p__law_decides spDe := by
  refine F.ok sc__law_decides (fun vs H Q E h => ?_) (fun cdv A outer s H vs Q E hr h => ?_)
  · obtain ⟨q, m, r, cell, ar, rfl, _⟩ := h
    rfl
  · obtain ⟨q, m, r, cell, ar, rfl, hR, ho, hm, a8, k⟩ := h
    obtain ⟨cs, hq, hcs⟩ := hR.ex
    have ln : cs.length = r.length := Paired.length hcs
    have f50 := ho.few
    refine ⟨_, (@pss_cons _ _ _ _ _ (@ps_for _ _ _ _ _ _ _ _ PassesOwn.never rfl (@pi_range1 _ _ _ _ _ _ rfl T.b_range (@pa_cons _ _ _ _ _ (@pe_callB _ _ _ _ _ _ _ _ _ (@call_len_seq _) rfl T.b_len PySem.boot_len (@pa_cons _ _ _ _ _ (pv 0) (@pa_nil _) rfl) (by decide) (by decide) rfl rfl) (@pa_nil _) rfl) rfl) (@pg_name _ _ (3) _ sc__law_decides.nd rfl (Or.inl rfl) (by first | exact .inl rfl | exact .inr rfl | assumption)) (@pss_cons _ _ _ _ _ (@ps_set _ _ (4) _ _ _ _ sc__law_decides.nd rfl (Or.inl rfl) (@pe_cmpR _ _ _ _ _ _ _ _ (@op_in_seq _) (@pe_ix _ _ _ _ _ _ _ (@ix_tup _) (@pe_ix _ _ _ _ _ _ _ (@ix_list _) (pv 0) (pv 3) (fun _ _ => rfl)) (@pe_int _ _ _ _) (fun _ _ => rfl)) (@pe_lst _ _ _ _ (@pa_cons _ _ _ _ _ (pv 1) (@pa_int _ _ _ _ _ _ (@pa_nil _)) rfl)) rfl) rfl (by first | exact .inl rfl | exact .inr rfl | assumption)) (@pss_cons _ _ _ _ _ (@ps_for _ _ _ _ _ _ _ _ PassesOwn.never rfl (@pi_list _ _ _ _ (@pe_ix _ _ _ _ _ _ _ (@ix_tup _) (@pe_ix _ _ _ _ _ _ _ (@ix_list _) (pv 0) (pv 3) (fun _ _ => rfl)) (@pe_int _ _ _ _) (fun _ _ => rfl))) (@pg_name _ _ (5) _ sc__law_decides.nd rfl (Or.inl rfl) (by first | exact .inl rfl | exact .inr rfl | assumption)) (@pss_one _ _ _ (@ps_set _ _ (4) _ _ _ _ sc__law_decides.nd rfl (Or.inl rfl) (@pe_and _ _ _ _ _ _ _ (pv 4) (@pe_one _ _ _ _ _ (@pe_cal _ _ _ _ _ _ _ _ _ _ _ _ C__law_holds (rm hr) rfl pass0 (@pa_cons _ _ _ _ _ (pv 5) (@pa_cons _ _ _ _ _ (pv 2) (@pa_nil _) rfl) rfl) (by decide) rfl rfl))) rfl (by first | exact .inl rfl | exact .inr rfl | assumption))) (by intro _ ; rfl)) (@pss_one _ _ _ (@ps_if _ _ _ _ _ _ _ _ (@pt_val _ _ _ (pv 4) (by intro _ ; rfl)) (@pss_one _ _ _ (@ps_ret _ _ _ _ (pv 3))) (@pss_nil _))))) (by intro _ ; rfl)) (@pss_one _ _ _ (@ps_ret _ _ _ _ (@pe_non _ _ _)))), ?_⟩
    try dsimp only [cxK]
    refine ⟨_, rfl, q, _, rfl, .inl (SqL.of hq), _, rfl, by rw [List.length_map]; omega, by rw [List.length_map]; omega, ?_⟩
    rw [show (((cs.map V.ref).length : Nat) : Int).toNat = cs.length by rw [List.length_map, Int.toNat_natCast]]
    refine for_range (n := cs.length) (fun i σ H2 => Same H H2 ∧ (∃ u3 u4 u5 : Option V, σ = [some (.ref q), some (.int cell), some (.ref m), u3, u4, u5]) ∧ ∀ c ∈ r.take i, c.fits cell ar = false) ⟨Same.refl H, ⟨none, none, none, rfl⟩, fun c hc => by simp at hc⟩ ?_ ?_
    · rintro i σ H2 hi ⟨sm, ⟨u3, u4, u5, rfl⟩, no⟩
      have ecq : cs[i]? = some cs[i] := List.getElem?_eq_getElem hi
      obtain ⟨c, ec, hc⟩ := Paired.get hcs ecq
      have oc := ho.ok c (List.mem_of_getElem? ec)
      obtain ⟨cl, ds, h1, h2, h3⟩ := (hc.same sm).ex
      have eI : atI (cs.map V.ref) (0 + (i : Int)) = some (.ref cs[i]) := by rw [Int.zero_add]; exact atI_nat (by rw [List.getElem?_map, ecq]; rfl)
      refine ⟨_, rfl, _, rfl, q, _, _, _, rfl, rfl, SqL.of (sm _ _ hq), eI, cs[i], _, 0, .int (unO c.cell), rfl, rfl, SqT.of h1, atI_nat (j := 0) rfl, _, rfl, (by show 2 ≤ sizeLine; decide), fun t ht => ⟨t, _, rfl, .inl (SqL.of upd_same), rfl, rfl, ?_⟩⟩
      have s3 := same_upd (o := .lst [.int cell, .int 8]) ht
      have eb : inV (.int (unO c.cell)) [.int cell, .int 8] = takesA c.cell cell := by
        have := in_ints (unO c.cell) [cell, 8]
        rw [show ([cell, 8] : List Int).map V.int = [V.int cell, V.int 8] from rfl] at this
        rw [this, takes_un oc.cell]
        simp only [List.any_cons, List.any_nil, Bool.or_false]
        rw [show decide (cell = unO c.cell) = decide (unO c.cell = cell) from decide_eq_decide.mpr eq_comm, show decide (8 = unO c.cell) = decide (unO c.cell = 8) from decide_eq_decide.mpr eq_comm, Bool.or_comm]
      show (tSeq _ _) _ _ _
      rw [eb]
      generalize upd H2 t (.lst [.int cell, .int 8]) = H3 at s3 ⊢
      -- the conditions, one by one
      refine ⟨_, rfl, _, rfl, q, _, _, _, rfl, rfl, SqL.of (s3 _ _ (sm _ _ hq)), eI, cs[i], _, 1, .ref cl, rfl, rfl, SqT.of (s3 _ _ h1), atI_nat (j := 1) rfl, cl, rfl, ⟨_, SqL.of (s3 _ _ h2)⟩, ?_⟩
      refine for_list (xs := ds.map V.ref) (fun j σ H4 => H3 = H4 ∧ ∃ v, σ = [some (.ref q), some (.int cell), some (.ref m), some (.int (0 + (i : Int))), some (.bl (takesA c.cell cell && (c.conds.take j).all (CondA.holds ar))), v]) ⟨rfl, u5, by rw [List.take_zero, List.all_nil, Bool.and_true]; rfl⟩ (fun j σ H4 _ z => z.1 ▸ SqL.of (s3 _ _ h2)) ?_ ?_
      · rintro j x σ H4 hx ⟨rfl, v, rfl⟩
        rw [List.getElem?_map] at hx
        obtain ⟨dq, edq, rfl⟩ := Option.map_eq_some_iff.mp hx
        obtain ⟨d, ed, hd⟩ := Paired.get h3 edq
        refine ⟨_, rfl, ?_⟩
        refine and_end (b2 := CondA.holds ar d) (fun _ Q' q' => ⟨_, rfl, _, rfl, dq, m, d, ar, rfl, hd.same s3, oc.conds d (List.mem_of_getElem? ed), s3 _ _ (sm _ _ hm), a8, q'⟩) ?_
        refine ⟨rfl, some (.ref dq), ?_⟩
        rw [List.take_add_one, ed, List.all_append, Bool.and_assoc]
        show _ = [_, _, _, _, some (V.bl (takesA c.cell cell && ((c.conds.take j).all (CondA.holds ar) && (CondA.holds ar d && true)))), _]
        rw [Bool.and_true]
        rfl
      · rintro σ H4 ⟨rfl, v, rfl⟩
        have ld : ds.length = c.conds.length := Paired.length h3
        rw [List.length_map, ld, List.take_length]
        refine ⟨_, rfl, _, rfl, ?_⟩
        show if c.fits cell ar = true then _ else _
        cases ef : c.fits cell ar with
        | true =>
          refine iteT ⟨_, rfl, ?_⟩
          have e : decA r cell ar = some i := by
            unfold decA
            rw [List.findIdx?_eq_some_iff_getElem]
            have hi : i < r.length := (List.getElem?_eq_some_iff.mp ec).1
            refine ⟨hi, ?_, fun j hj => ?_⟩
            · rw [(List.getElem?_eq_some_iff.mp ec).2]; exact ef
            · have := no r[j] (List.mem_take_iff_getElem.mpr ⟨j, by omega, rfl⟩)
              rw [this]; exact Bool.false_ne_true
          have := k H3 (sm.trans s3)
          rw [e] at this
          show Q (.int (0 + (i : Int))) H3
          rw [Int.zero_add]
          exact this
        | false =>
          refine iteF ⟨sm.trans s3, ⟨_, _, _, rfl⟩, fun d hd => ?_⟩
          rw [List.take_add_one, ec] at hd
          rcases List.mem_append.mp hd with z | z
          · exact no d z
          · have : d = c := by simpa using z
            rw [this]; exact ef
    · rintro σ H2 ⟨sm, ⟨u3, u4, u5, rfl⟩, no⟩
      rw [ln, List.take_length] at no
      have e : decA r cell ar = none := by
        unfold decA
        rw [List.findIdx?_eq_none_iff]
        exact no
      have := k H2 sm
      rw [e] at this
      exact this
inductive SpBe (vs : List V) (H : Hp) (Q : VK) : Prop
  | mk (q m : Addr) (r : RuleA) (cell : Int) (ar : List Int) (_ : vs = [.ref q, .int cell, .ref m]) (_ : LRuAt H q r) (_ : ROkT r) (_ : H m = some (.lst (ar.map V.int))) (_ : ar.length = 8) (_ : ∀ H', Same H H' → Q (.int (becA r cell ar)) H') : SpBe vs H Q
def spBe : Sp := fun vs H Q _ => SpBe vs H Q
theorem ok_be {f : Addr} {fd : FuncData} (F : Fun K "_law_becomes" "_law_becomes" s__law_becomes f fd) (T : Top K mg a) (C__law_decides : Cal P w K mg base CX0 2 "_law_decides" p__law_decides spDe) : FnOk P w K mg base CX0 3 f fd p__law_becomes spBe := by
  refine F.ok sc__law_becomes (fun vs H Q E h => ?_) (fun cdv A outer s H vs Q E hr h => ?_)
  · obtain ⟨q, m, r, cell, ar, rfl, _⟩ := h
    rfl
  · obtain ⟨q, m, r, cell, ar, rfl, hR, ho, hm, a8, k⟩ := h
    refine ⟨_, (@pss_cons _ _ _ _ _ (@ps_set _ _ (3) _ _ _ _ sc__law_becomes.nd rfl (Or.inl rfl) (@pe_cal _ _ _ _ _ _ _ _ _ _ _ _ C__law_decides (rm hr) rfl pass0 (@pa_cons _ _ _ _ _ (pv 0) (@pa_cons _ _ _ _ _ (pv 1) (@pa_cons _ _ _ _ _ (pv 2) (@pa_nil _) rfl) rfl) rfl) (by decide) rfl rfl) rfl (by first | exact .inl rfl | exact .inr rfl | assumption)) (@pss_cons _ _ _ _ _ (@ps_if _ _ _ _ _ _ _ _ (@pt_cmpR _ _ _ _ _ _ _ _ (@op_isN _) (pv 3) (@pe_non _ _ _) (nomark _)) (@pss_one _ _ _ (@ps_ret _ _ _ _ (pv 1))) (@pss_nil _)) (@pss_one _ _ _ (@ps_ret _ _ _ _ (@pe_ix _ _ _ _ _ _ _ (@ix_tup _) (@pe_ix _ _ _ _ _ _ _ (@ix_list _) (pv 0) (pv 3) (fun _ _ => rfl)) (@pe_int _ _ _ _) (fun _ _ => rfl)))))), ?_⟩
    try dsimp only [cxK]
    refine ⟨_, rfl, _, rfl, _, rfl, q, m, r, cell, ar, rfl, hR, ho, hm, a8, fun H2 s2 => ?_⟩
    refine ⟨_, rfl, rfl, _, rfl, ?_⟩
    cases e : decA r cell ar with
    | none =>
      refine iteT ⟨_, rfl, ?_⟩
      have := k H2 s2
      rw [bec_none e] at this
      exact this
    | some i =>
      obtain ⟨c, ec, em⟩ := bec_some e
      obtain ⟨cs, hq, hcs⟩ := (hR.same s2).ex
      obtain ⟨cq, ecq⟩ : ∃ cq, cs[i]? = some cq := by
        have ln : cs.length = r.length := Paired.length hcs
        have : i < cs.length := by rw [ln]; exact (List.getElem?_eq_some_iff.mp ec).1
        exact ⟨_, List.getElem?_eq_getElem this⟩
      obtain ⟨c', ec', hc⟩ := Paired.get hcs ecq
      rw [ec] at ec'
      cases ec'
      obtain ⟨cl, ds, h1, _⟩ := hc.ex
      refine iteF ⟨_, rfl, _, rfl, q, _, _, .ref cq, rfl, rfl, SqL.of hq, atI_nat (by rw [List.getElem?_map, ecq]; rfl), cq, _, 2, .int c.makes, rfl, rfl, SqT.of h1, atI_nat (j := 2) rfl, ?_⟩
      have := k H2 s2
      rw [em] at this
      exact this
end
end J

set_option maxHeartbeats 200000
set_option Elab.async false
set_option linter.all false
set_option maxRecDepth 100000
set_option maxHeartbeats 1000000
namespace J
open PySem L2
theorem refs_ne {ds : List Addr} {vs : List Int} (h : vs ≠ []) : ds.map V.ref ≠ vs.map V.int := fun z => by
  cases vs with
  | nil => exact h rfl
  | cons v r =>
    cases ds with
    | nil => simp at z
    | cons d q => simp at z
/-- a list of references is written; conditions stand as they stood -/
theorem LCondAt.put {H : Hp} {l q : Addr} {ds : List Addr} {o : HO} {d : CondA} (hl : H l = some (.lst (ds.map V.ref))) (h : LCondAt H q d) (ok : d.ok) : LCondAt (upd H l o) q d := by
  have other : ∀ {b v}, H b = some v → v ≠ .lst (ds.map V.ref) → upd H l o b = some v := fun {b v} e n => by rw [upd_ne (ne_of e hl n)]; exact e
  cases h with
  | @am l' s ns h hl' => exact .am (other h (by intro z; cases z)) (other hl' fun z => refs_ne ok.2.1 (HO.lst.inj z).symm)
  | @pl l' ws h hl' =>
    refine .pl (other h (by intro z; cases z)) (other hl' fun z => ?_)
    have z2 := (HO.lst.inj z).symm
    rw [show (ws.map fun w => V.int (unO w)) = (ws.map unO).map V.int by rw [List.map_map]; rfl] at z2
    refine refs_ne (ds := ds) (fun q => ?_) z2
    have := congrArg List.length q
    rw [List.length_map, ok.1] at this
    cases this
theorem Paired.impMem {α β : Type} {F G : α → β → Prop} : ∀ {l : List α} {m : List β}, (∀ x y, y ∈ m → F x y → G x y) → Paired F l m → Paired G l m
  | _, _, _, .nil => .nil
  | _, _, h, .cons r t => .cons (h _ _ List.mem_cons_self r) (Paired.impMem (fun x y hy => h x y (List.mem_cons_of_mem _ hy)) t)
/-- a clause whose own list is not the one at l0 -/
def LClN (l0 : Addr) (H : Hp) (q : Addr) (c : ClauseA) : Prop := ∃ (l : Addr) (ds : List Addr), l ≠ l0 ∧ H q = some (.tup [.int (unO c.cell), .ref l, .int c.makes]) ∧ H l = some (.lst (ds.map V.ref)) ∧ Paired (LCondAt H) ds c.conds
theorem LClN.at {l0 : Addr} {H : Hp} {q : Addr} {c : ClauseA} (h : LClN l0 H q c) : LClAt H q c := by
  obtain ⟨l, ds, _, r⟩ := h
  exact ⟨l, ds, r⟩
theorem LClN.same {l0 : Addr} {H H' : Hp} {q : Addr} {c : ClauseA} (s : Same H H') (h : LClN l0 H q c) : LClN l0 H' q c := by
  obtain ⟨l, ds, n, h1, h2, h3⟩ := h
  exact ⟨l, ds, n, s _ _ h1, s _ _ h2, Paired.imp (fun _ _ z => z.same s) h3⟩
theorem LClN.put {l0 : Addr} {H : Hp} {q : Addr} {c : ClauseA} {cs : List Addr} {o : HO} (hl : H l0 = some (.lst (cs.map V.ref))) (h : LClN l0 H q c) (ok : c.ok) : LClN l0 (upd H l0 o) q c := by
  obtain ⟨l, ds, n, h1, h2, h3⟩ := h
  refine ⟨l, ds, n, ?_, ?_, Paired.impMem (fun x y hy z => z.put hl (ok.conds y hy)) h3⟩
  · rw [upd_ne (ne_of h1 hl (by intro z; cases z))]; exact h1
  · rw [upd_ne n]; exact h2
def c00 : ClauseA := ⟨some 0, [.am 0 [8]], 0⟩
theorem c00_ok : c00.ok where
  cell := ⟨by decide, by decide⟩
  makes := ⟨by decide, by decide⟩
  few := by show 1 ≤ 1000; decide
  conds := fun d hd => by
    rw [List.mem_singleton.mp hd]
    exact ⟨⟨by decide, by decide⟩, by simp, fun n hn => by rw [List.mem_singleton.mp hn]; exact ⟨by decide, by decide⟩, List.pairwise_singleton _ _⟩
theorem c00_rest (r : RuleA) : becA (c00 :: r) 0 zeros8 = 0 := by
  unfold becA
  rw [List.find?_cons]
  have : c00.fits 0 zeros8 = true := by decide
  rw [this]
  rfl
section
variable {P : Program} {w : World} {K : PySem.W.Frag} {mg : Str → Option Value} {base : Heap} {a : Ad}
inductive SpCl (vs : List V) (H : Hp) (Q : VK) : Prop
  | mk (m : Addr) (sd j : Int) (_ : vs = [.ref m, .int sd, .int j]) (_ : MnAt H m) (_ : 0 ≤ j) (_ : j ≤ 800000) (_ : ∀ (q l : Addr) (ds : List Addr) (c : ClauseA) (H' : Hp), Same H H' → H l = none → H' q = some (.tup [.int (unO c.cell), .ref l, .int c.makes]) → H' l = some (.lst (ds.map V.ref)) → Paired (LCondAt H') ds c.conds → c.ok → c.conds.length ≤ 8 → Q (.ref q) H') : SpCl vs H Q
def spCl : Sp := fun vs H Q _ => SpCl vs H Q
theorem ok_cl {f : Addr} {fd : FuncData} (F : Fun K "_law_clause_by" "_law_clause_by" s__law_clause_by f fd) (T : Top K mg a) (C__law_mix : Cal P w K mg base CX0 1 "_law_mix" p__law_mix spMix) (C__law_state_by : Cal P w K mg base CX0 1 "_law_state_by" p__law_state_by spSt) (C__law_condition_by : Cal P w K mg base CX0 2 "_law_condition_by" p__law_condition_by spCo) :
    FnOk P w K mg base CX0 3 f fd p__law_clause_by spCl := by
  refine F.ok sc__law_clause_by (fun vs H Q E h => ?_) (fun cdv A outer s H vs Q E hr h => ?_)
  · obtain ⟨m, sd, j, rfl, _⟩ := h
    rfl
  · obtain ⟨m, sd, j, rfl, ⟨mx, my, hm, hx, hy⟩, h0, h1, k⟩ := h
    let J1 : St → Hp → Prop := fun σ H2 => ∃ x : Option Int, σ = [some (.ref m), some (.int sd), some (.int j), some (.int (unO x)), none, none, none, none] ∧ wOk x ∧ H = H2
    let J2 : St → Hp → Prop := fun σ H2 => ∃ (x : Option Int) (mn v : Int) (l : Addr), σ = [some (.ref m), some (.int sd), some (.int j), some (.int (unO x)), some (.ref l), some (.int v), some (.int mn), none] ∧ wOk x ∧ 0 ≤ mn ∧ mn ≤ 8 ∧ H l = none ∧ H2 = upd H l (.lst [])
    refine ⟨_, (@pss_cons _ _ _ _ _ (@ps_set _ _ (3) _ _ _ _ sc__law_clause_by.nd rfl (Or.inl rfl) (@pe_int _ _ _ _) rfl (by first | exact .inl rfl | exact .inr rfl | assumption)) (@pss_cons _ _ _ _ _ (@ps_ifJ _ _ _ _ _ _ _ _ J1 (@pt_cmpR _ _ _ _ _ _ _ _ (@op_gt _) (@pe_op _ _ _ _ _ _ _ _ (@op_mod _) (@pe_cal _ _ _ _ _ _ _ _ _ _ _ _ C__law_mix (rm hr) rfl pass0 (@pa_cons _ _ _ _ _ (pv 1) (@pa_cons _ _ _ _ _ (pv 2) (@pa_nil _) rfl) rfl) (by decide) rfl rfl) (@pe_int _ _ _ _)) (@pe_int _ _ _ _) (nomark _)) (@pss_one _ _ _ (@ps_set _ _ (3) _ _ _ _ sc__law_clause_by.nd rfl (Or.inl rfl) (@pe_cal _ _ _ _ _ _ _ _ _ _ _ _ C__law_state_by (rm hr) rfl pass0 (@pa_cons _ _ _ _ _ (pv 0) (@pa_cons _ _ _ _ _ (@pe_cal _ _ _ _ _ _ _ _ _ _ _ _ C__law_mix (rm hr) rfl pass0 (@pa_cons _ _ _ _ _ (pv 1) (@pa_op _ _ _ _ _ _ _ _ _ _ (@op_add _) (pv 2) (@pe_int _ _ _ _) (@pa_nil _)) rfl) (by decide) rfl rfl) (@pa_nil _) rfl) rfl) (by decide) rfl rfl) rfl (by first | exact .inl rfl | exact .inr rfl | assumption))) (@pss_nil _)) (@pss_cons _ _ _ _ _ (@ps_set _ _ (4) _ _ _ _ sc__law_clause_by.nd rfl (Or.inl rfl) (@pe_lst _ _ _ _ (@pa_nil _)) rfl (by first | exact .inl rfl | exact .inr rfl | assumption)) (@pss_cons _ _ _ _ _ (@ps_set _ _ (5) _ _ _ _ sc__law_clause_by.nd rfl (Or.inl rfl) (@pe_cal _ _ _ _ _ _ _ _ _ _ _ _ C__law_mix (rm hr) rfl pass0 (@pa_cons _ _ _ _ _ (pv 1) (@pa_op _ _ _ _ _ _ _ _ _ _ (@op_add _) (pv 2) (@pe_int _ _ _ _) (@pa_nil _)) rfl) (by decide) rfl rfl) rfl (by first | exact .inl rfl | exact .inr rfl | assumption)) (@pss_cons _ _ _ _ _ (@ps_set _ _ (6) _ _ _ _ sc__law_clause_by.nd rfl (Or.inl rfl) (@pe_op _ _ _ _ _ _ _ _ (@op_mod _) (pv 5) (@pe_int _ _ _ _)) rfl (by first | exact .inl rfl | exact .inr rfl | assumption)) (@pss_cons _ _ _ _ _ (@ps_ifJ _ _ _ _ _ _ _ _ J2 (@pt_cmpR _ _ _ _ _ _ _ _ (@op_eq _) (@pe_op _ _ _ _ _ _ _ _ (@op_mod _) (@pe_op _ _ _ _ _ _ _ _ (@op_fdiv _) (pv 5) (@pe_int _ _ _ _)) (@pe_int _ _ _ _)) (@pe_int _ _ _ _) (nomark _)) (@pss_one _ _ _ (@ps_set _ _ (6) _ _ _ _ sc__law_clause_by.nd rfl (Or.inl rfl) (@pe_op _ _ _ _ _ _ _ _ (@op_add _) (@pe_int _ _ _ _) (@pe_op _ _ _ _ _ _ _ _ (@op_mod _) (@pe_op _ _ _ _ _ _ _ _ (@op_fdiv _) (pv 5) (@pe_int _ _ _ _)) (@pe_int _ _ _ _))) rfl (by first | exact .inl rfl | exact .inr rfl | assumption))) (@pss_nil _)) (@pss_cons _ _ _ _ _ (@ps_for _ _ _ _ _ _ _ _ PassesOwn.never rfl (@pi_range1 _ _ _ _ _ _ rfl T.b_range (@pa_cons _ _ _ _ _ (pv 6) (@pa_nil _) rfl) rfl) (@pg_name _ _ (7) _ sc__law_clause_by.nd rfl (Or.inl rfl) (by first | exact .inl rfl | exact .inr rfl | assumption)) (@pss_one _ _ _ (@ps_expr _ _ _ _ (@pe_bm _ _ _ _ _ _ _ _ _ _ _ _ PySem.F.plainAttrs_list PySem.F.slot_list_append PySem.F.type_list_append (@mt_append _) (pv 4) (@pa_cons _ _ _ _ _ (@pe_cal _ _ _ _ _ _ _ _ _ _ _ _ C__law_condition_by (rm hr) rfl pass0 (@pa_cons _ _ _ _ _ (pv 0) (@pa_cons _ _ _ _ _ (pv 1) (@pa_op _ _ _ _ _ _ _ _ _ _ (@op_add _) (pv 2) (@pe_op _ _ _ _ _ _ _ _ (@op_mul _) (@pe_int _ _ _ _) (@pe_op _ _ _ _ _ _ _ _ (@op_add _) (pv 7) (@pe_int _ _ _ _))) (@pa_nil _)) rfl) rfl) (by decide) rfl rfl) (@pa_nil _) rfl) rfl rfl rfl rfl rfl) rfl)) (by intro _ ; rfl)) (@pss_one _ _ _ (@ps_ret _ _ _ _ (@pe_tup _ _ _ _ _ (@pa_cons _ _ _ _ _ (pv 3) (@pa_cons _ _ _ _ _ (pv 4) (@pa_cons _ _ _ _ _ (@pe_cal _ _ _ _ _ _ _ _ _ _ _ _ C__law_state_by (rm hr) rfl pass0 (@pa_cons _ _ _ _ _ (pv 0) (@pa_cons _ _ _ _ _ (@pe_cal _ _ _ _ _ _ _ _ _ _ _ _ C__law_mix (rm hr) rfl pass0 (@pa_cons _ _ _ _ _ (pv 1) (@pa_op _ _ _ _ _ _ _ _ _ _ (@op_add _) (pv 2) (@pe_int _ _ _ _) (@pa_nil _)) rfl) (by decide) rfl rfl) (@pa_nil _) rfl) rfl) (by decide) rfl rfl) (@pa_nil _) rfl) rfl) rfl))))))))))), ?_⟩
    try dsimp only [cxK]
    refine ⟨⟨_, rfl, _, rfl, sd, j, rfl, h0, by omega, fun v hv => ⟨_, _, rfl, rfl, (by show (0 : Int) < 4; decide), _, _, rfl, rfl, _, rfl, ?_⟩⟩, ?_⟩
    · refine ite2 (fun _ => ?_) (fun _ => ?_)
      · exact ⟨_, rfl, _, rfl, _, rfl, _, _, rfl, rfl, sd, _, rfl, by omega, by omega, fun v2 hv2 => ⟨m, mx, my, v2, rfl, hm, hx, hy, fun d hd => ⟨some d, rfl, hd, rfl⟩⟩⟩
      · exact ⟨none, rfl, trivial, rfl⟩
    · rintro σ H2 ⟨x, rfl, ox, rfl⟩
      refine ⟨(by show 0 ≤ sizeLine; decide), fun l hl => ?_⟩
      refine ⟨_, rfl, _, rfl, _, _, rfl, rfl, sd, _, rfl, by omega, by omega, fun v hv => ?_⟩
      refine ⟨_, rfl, _, _, rfl, rfl, (by show (0 : Int) < 4; decide), ?_⟩
      refine ⟨⟨_, rfl, _, _, rfl, rfl, ⟨by decide, by decide⟩, _, _, rfl, rfl, (by show (0 : Int) < 6; decide), rfl, _, rfl, ?_⟩, ?_⟩
      · refine ite2 (fun _ => ?_) (fun _ => ?_)
        · exact ⟨_, rfl, _, _, rfl, rfl, ⟨by decide, by decide⟩, _, _, rfl, rfl, (by show (0 : Int) < 5; decide), _, _, rfl, rfl, x, _, v, l, rfl, ox, by omega, by omega, hl, rfl⟩
        · exact ⟨x, _, v, l, rfl, ox, by omega, by omega, hl, rfl⟩
      · clear hl ox
        rintro σ H2 ⟨x, mn, v, l, rfl, ox, mn0, mn8, hl, rfl⟩
        obtain ⟨n, rfl⟩ := Int.eq_ofNat_of_zero_le mn0
        refine ⟨_, rfl, _, rfl, by omega, by omega, ?_⟩
        rw [Int.toNat_natCast]
        refine for_range (n := n) (fun i σ H2 => ∃ (ds : List Addr) (cn : List CondA) (u7 : Option V), σ = [some (.ref m), some (.int sd), some (.int j), some (.int (unO x)), some (.ref l), some (.int v), some (.int n), u7] ∧ Same H H2 ∧ H2 l = some (.lst (ds.map V.ref)) ∧ Paired (LCondAt H2) ds cn ∧ cn.length = i ∧ ∀ d ∈ cn, d.ok)
          ⟨[], [], none, rfl, same_upd hl, upd_same, .nil, rfl, fun d hd => by simp at hd⟩ ?_ ?_
        · rintro i σ H2 hi ⟨ds, cn, u7, rfl, sm, hl2, pr, hn, oks⟩
          have ld := Paired.length pr
          refine ⟨_, rfl, .inl ⟨rfl, _, SqL.of hl2⟩, _, rfl, _, rfl, _, rfl, _, rfl, _, _, rfl, rfl, _, _, rfl, rfl, .inl ⟨by decide, by decide⟩, _, _, rfl, rfl, m, sd, _, rfl, ⟨mx, my, sm _ _ hm, hx, hy⟩, by omega, by omega, fun q d H3 s3 hd od => ?_⟩
          refine ⟨l, _, _, rfl, rfl, s3 _ _ hl2, by rw [List.length_map, ld, hn]; exact Nat.lt_of_lt_of_le hi (le_line (by omega)), ?_⟩
          refine ⟨ds ++ [q], cn ++ [d], _, rfl, fun b o e => ?_, ?_, ?_, by rw [List.length_append, hn]; rfl, fun e he => ?_⟩
          · rw [upd_ne (ne_of_none e hl)]
            exact s3 _ _ (sm _ _ e)
          · rw [upd_same, List.map_append]; rfl
          · refine Paired.snoc (Paired.impMem (fun x' y hy z => (z.same s3).put (s3 _ _ hl2) (oks y hy)) pr) (hd.put (s3 _ _ hl2) od)
          · rcases List.mem_append.mp he with z | z
            · exact oks e z
            · rw [List.mem_singleton.mp z]; exact od
        · rintro σ H2 ⟨ds, cn, u7, rfl, sm, hl2, pr, hn, oks⟩
          refine ⟨_, rfl, _, rfl, _, rfl, _, rfl, _, rfl, _, _, rfl, rfl, sd, _, rfl, by omega, by omega, fun v2 hv2 => ⟨m, mx, my, v2, rfl, sm _ _ hm, hx, hy, fun d hd => ⟨(by show 3 ≤ sizeLine; decide), fun q hq => ?_⟩⟩⟩
          have s3 := same_upd (o := .tup [.int (unO x), .ref l, .int d]) hq
          exact k q l ds ⟨x, cn, d⟩ _ (sm.trans s3) hl upd_same (s3 _ _ hl2) (Paired.imp (fun _ _ z => z.same s3) pr) ⟨ox, hd, (by show cn.length ≤ 1000; omega), oks⟩ (by show cn.length ≤ 8; omega)
inductive SpCs (K : PySem.W.Frag) (vs : List V) (H : Hp) (Q : VK) : Prop
  | mk (l : Addr) (ns : List Int) (ft mn : Int) (_ : vs = [.ref l, .int ft, .int mn]) (_ : SqL K H l (ns.map V.int)) (_ : 0 ≤ ft) (_ : 0 ≤ mn) (_ : mn ≤ 40) (_ : ∀ (q : Addr) (r : RuleA) (H' : Hp), Same H H' → LRuAt H' q r → ROkT r → SmR r → becA r 0 zeros8 = 0 → mn ≤ r.length → r.length ≤ mn + 1 → Q (.ref q) H') : SpCs K vs H Q
def spCs (K : PySem.W.Frag) : Sp := fun vs H Q _ => SpCs K vs H Q
theorem ok_cs {f : Addr} {fd : FuncData} (F : Fun K "_law_clauses_by" "_law_clauses_by" s__law_clauses_by f fd) (T : Top K mg a) (C__law_at : Cal P w K mg base CX0 1 "_law_at" p__law_at (spAt K)) (C__law_clause_by : Cal P w K mg base CX0 3 "_law_clause_by" p__law_clause_by spCl) (C__law_becomes : Cal P w K mg base CX0 3 "_law_becomes" p__law_becomes spBe) :
    FnOk P w K mg base CX0 4 f fd p__law_clauses_by (spCs K) := by
  refine F.ok sc__law_clauses_by (fun vs H Q E h => ?_) (fun cdv A outer s H vs Q E hr h => ?_)
  · obtain ⟨l, ns, ft, mn, rfl, _⟩ := h
    rfl
  · obtain ⟨l, ns, ft, mn, rfl, hS, h0, m0, m40, k⟩ := h
    refine ⟨_, (@pss_cons _ _ _ _ _ (@ps_set _ _ (3) _ _ _ _ sc__law_clauses_by.nd rfl (Or.inl rfl) (@pe_tup _ _ _ _ _ (@pa_op _ _ _ _ _ _ _ _ _ _ (@op_mod _) (@pe_cal _ _ _ _ _ _ _ _ _ _ _ _ C__law_at (rm hr) rfl pass0 (@pa_cons _ _ _ _ _ (pv 0) (@pa_cons _ _ _ _ _ (pv 1) (@pa_nil _) rfl) rfl) (by decide) rfl rfl) (@pe_int _ _ _ _) (@pa_op _ _ _ _ _ _ _ _ _ _ (@op_mod _) (@pe_cal _ _ _ _ _ _ _ _ _ _ _ _ C__law_at (rm hr) rfl pass0 (@pa_cons _ _ _ _ _ (pv 0) (@pa_op _ _ _ _ _ _ _ _ _ _ (@op_add _) (pv 1) (@pe_int _ _ _ _) (@pa_nil _)) rfl) (by decide) rfl rfl) (@pe_int _ _ _ _) (@pa_nil _)))) rfl (by first | exact .inl rfl | exact .inr rfl | assumption)) (@pss_cons _ _ _ _ _ (@ps_set _ _ (4) _ _ _ _ sc__law_clauses_by.nd rfl (Or.inl rfl) (@pe_lst _ _ _ _ (@pa_nil _)) rfl (by first | exact .inl rfl | exact .inr rfl | assumption)) (@pss_cons _ _ _ _ _ (@ps_for _ _ _ _ _ _ _ _ PassesOwn.never rfl (@pi_range1 _ _ _ _ _ _ rfl T.b_range (@pa_cons _ _ _ _ _ (pv 2) (@pa_nil _) rfl) rfl) (@pg_name _ _ (5) _ sc__law_clauses_by.nd rfl (Or.inl rfl) (by first | exact .inl rfl | exact .inr rfl | assumption)) (@pss_one _ _ _ (@ps_expr _ _ _ _ (@pe_bm _ _ _ _ _ _ _ _ _ _ _ _ PySem.F.plainAttrs_list PySem.F.slot_list_append PySem.F.type_list_append (@mt_append _) (pv 4) (@pa_cons _ _ _ _ _ (@pe_cal _ _ _ _ _ _ _ _ _ _ _ _ C__law_clause_by (rm hr) rfl pass0 (@pa_cons _ _ _ _ _ (pv 3) (@pa_cons _ _ _ _ _ (@pe_cal _ _ _ _ _ _ _ _ _ _ _ _ C__law_at (rm hr) rfl pass0 (@pa_cons _ _ _ _ _ (pv 0) (@pa_op _ _ _ _ _ _ _ _ _ _ (@op_add _) (@pe_op _ _ _ _ _ _ _ _ (@op_add _) (pv 1) (@pe_int _ _ _ _)) (pv 5) (@pa_nil _)) rfl) (by decide) rfl rfl) (@pa_op _ _ _ _ _ _ _ _ _ _ (@op_mul _) (@pe_int _ _ _ _) (pv 5) (@pa_nil _)) rfl) rfl) (by decide) rfl rfl) (@pa_nil _) rfl) rfl rfl rfl rfl rfl) rfl)) (by intro _ ; rfl)) (@pss_cons _ _ _ _ _ (@ps_if _ _ _ _ _ _ _ _ (@pt_cmpR _ _ _ _ _ _ _ _ (@op_ne _) (@pe_cal _ _ _ _ _ _ _ _ _ _ _ _ C__law_becomes (rm hr) rfl pass0 (@pa_cons _ _ _ _ _ (pv 4) (@pa_int _ _ _ _ _ _ (@pa_lst _ _ _ _ _ _ (@pa_int _ _ _ _ _ _ (@pa_int _ _ _ _ _ _ (@pa_int _ _ _ _ _ _ (@pa_int _ _ _ _ _ _ (@pa_int _ _ _ _ _ _ (@pa_int _ _ _ _ _ _ (@pa_int _ _ _ _ _ _ (@pa_int _ _ _ _ _ _ (@pa_nil _))))))))) (@pa_nil _))) rfl) (by decide) rfl rfl) (@pe_int _ _ _ _) (nomark _)) (@pss_one _ _ _ (@ps_set _ _ (4) _ _ _ _ sc__law_clauses_by.nd rfl (Or.inl rfl) (@pe_op _ _ _ _ _ _ _ _ (@op_cat _) (@pe_lst _ _ _ _ (@pa_tup _ _ _ _ _ _ _ (@pa_int _ _ _ _ _ _ (@pa_lst _ _ _ _ _ _ (@pa_tup _ _ _ _ _ _ _ (@pa_str _ _ _ _ _ _ (@pa_int _ _ _ _ _ _ (@pa_lst _ _ _ _ _ _ (@pa_int _ _ _ _ _ _ (@pa_nil _)) (@pa_nil _)))) (@pa_nil _)) (@pa_int _ _ _ _ _ _ (@pa_nil _)))) (@pa_nil _))) (pv 4)) rfl (by first | exact .inl rfl | exact .inr rfl | assumption))) (@pss_nil _)) (@pss_one _ _ _ (@ps_ret _ _ _ _ (pv 4))))))), ?_⟩
    try dsimp only [cxK]
    refine ⟨_, rfl, _, rfl, l, ns, ft, rfl, hS, h0, ?_⟩
    refine ⟨_, _, rfl, rfl, (by show (0 : Int) < 8; decide), _, rfl, ?_⟩
    refine ⟨_, rfl, _, _, rfl, rfl, l, ns, _, rfl, hS, by omega, ?_⟩
    refine ⟨_, _, rfl, rfl, (by show (0 : Int) < 8; decide), (by show 2 ≤ sizeLine; decide), fun m hm => ?_⟩
    have s1 := same_upd (o := .tup [.int (atN ns ft % 8), .int (atN ns (ft + 1) % 8)]) hm
    have hM : MnAt (upd H m (.tup [.int (atN ns ft % 8), .int (atN ns (ft + 1) % 8)])) m := ⟨_, _, upd_same, ⟨by omega, by omega⟩, ⟨by omega, by omega⟩⟩
    have s1' : Same H (upd H m (.tup [.int (atN ns ft % 8), .int (atN ns (ft + 1) % 8)])) := s1
    show (tSeq _ _) _ _ (upd H m (.tup [.int (atN ns ft % 8), .int (atN ns (ft + 1) % 8)]))
    generalize upd H m (.tup [.int (atN ns ft % 8), .int (atN ns (ft + 1) % 8)]) = H1 at s1 s1' hM ⊢
    refine ⟨(by show 0 ≤ sizeLine; decide), fun cl hcl => ?_⟩
    obtain ⟨n, rfl⟩ := Int.eq_ofNat_of_zero_le m0
    refine ⟨_, rfl, _, rfl, by omega, by omega, ?_⟩
    rw [Int.toNat_natCast]
    refine for_range (n := n) (fun i σ H2 => ∃ (cs : List Addr) (r : RuleA) (u5 : Option V), σ = [some (.ref l), some (.int ft), some (.int n), some (.ref m), some (.ref cl), u5] ∧ Same H1 H2 ∧ H2 cl = some (.lst (cs.map V.ref)) ∧ Paired (LClN cl H2) cs r ∧ r.length = i ∧ ∀ c ∈ r, c.ok ∧ c.conds.length ≤ 8)
      ⟨[], [], none, rfl, same_upd hcl, upd_same, .nil, rfl, fun d hd => by simp at hd⟩ ?_ ?_
    · rintro i σ H2 hi ⟨cs, r, u5, rfl, sm, hl2, pr, hn, oks⟩
      have ld := Paired.length pr
      have hS2 : SqL K H2 l (ns.map V.int) := (s1'.trans sm).seq hS
      refine ⟨_, rfl, .inl ⟨rfl, _, SqL.of hl2⟩, _, rfl, _, rfl, _, rfl, _, _, rfl, rfl, _, rfl, _, _, rfl, rfl, l, ns, _, rfl, hS2, by omega, _, rfl, _, _, rfl, rfl, .inl ⟨by decide, by decide⟩, m, _, _, rfl, hM.same sm, by omega, by omega, fun q l' ds c H3 s3 nl e1 e2 e3 oc oc8 => ?_⟩
      refine ⟨cl, _, _, rfl, rfl, s3 _ _ hl2, by rw [List.length_map, ld, hn]; exact Nat.lt_of_lt_of_le hi (le_line (by omega)), ?_⟩
      have nl' : l' ≠ cl := fun z => by rw [z, hl2] at nl; cases nl
      refine ⟨cs ++ [q], r ++ [c], _, rfl, fun b o e => ?_, ?_, ?_, by rw [List.length_append, hn]; rfl, fun e he => ?_⟩
      · rw [upd_ne (ne_of_none e hcl)]
        exact s3 _ _ (sm _ _ e)
      · rw [upd_same, List.map_append]; rfl
      · refine Paired.snoc (Paired.impMem (fun x' y hy z => (z.same s3).put (s3 _ _ hl2) (oks y hy).1) pr) (LClN.put (s3 _ _ hl2) ⟨l', ds, nl', e1, e2, e3⟩ oc)
      · rcases List.mem_append.mp he with z | z
        · exact oks e z
        · rw [List.mem_singleton.mp z]; exact ⟨oc, oc8⟩
    · rintro σ H2 ⟨cs, r, u5, rfl, sm, hl2, pr, hn, oks⟩
      have hR : LRuAt H2 cl r := ⟨cs, hl2, Paired.imp (fun _ _ z => z.at) pr⟩
      have sk : SmR r := ⟨by omega, fun c hc => (oks c hc).2⟩
      have rk : ROkT r := sm_okt (fun c hc => (oks c hc).1) sk
      refine ⟨_, rfl, (by show 8 ≤ sizeLine; decide), fun z8 hz8 => ?_⟩
      have s3 := same_upd (o := .lst (zeros8.map V.int)) hz8
      refine ⟨cl, z8, r, 0, zeros8, rfl, hR.same s3, rk, upd_same, rfl, fun H4 s4 => ?_⟩
      have s14 : Same H H4 := ((s1'.trans sm).trans s3).trans s4
      have hR4 := (hR.same s3).same s4
      refine ⟨rfl, _, rfl, ?_⟩
      rw [dec_int]
      by_cases hz : becA r 0 zeros8 = 0
      · rw [decide_eq_true hz]
        exact iteF ⟨_, rfl, k cl r H4 s14 hR4 rk sk hz (by omega) (by omega)⟩
      · rw [decide_eq_false hz]
        refine iteT ?_
        -- [(0, [('amount', 0, [8])], 0)] + clauses
        refine ⟨(by show 1 ≤ sizeLine; decide), fun b1 hb1 => ⟨(by show 3 ≤ sizeLine; decide), fun b2 hb2 => ⟨(by show 1 ≤ sizeLine; decide), fun b3 hb3 => ⟨(by show 3 ≤ sizeLine; decide), fun b4 hb4 => ⟨(by show 1 ≤ sizeLine; decide), fun b5 hb5 => ?_⟩⟩⟩⟩⟩
        generalize hH5 : upd (upd (upd (upd (upd H4 b1 (.lst [.int 8])) b2 (.tup [.str (Str.ofString "amount"), .int 0, .ref b1])) b3 (.lst [.ref b2])) b4 (.tup [.int 0, .ref b3, .int 0])) b5 (.lst [.ref b4]) = H5
        have s5 : Same H4 H5 := by rw [← hH5]; exact (((same_upd hb1).trans (same_upd hb2)).trans (same_upd hb3)).trans ((same_upd hb4).trans (same_upd hb5))
        have e1 : H5 b1 = some (.lst [.int 8]) := by rw [← hH5]; exact same_upd hb5 _ _ (same_upd hb4 _ _ (same_upd hb3 _ _ (same_upd hb2 _ _ upd_same)))
        have e2 : H5 b2 = some (.tup [.str (Str.ofString "amount"), .int 0, .ref b1]) := by rw [← hH5]; exact same_upd hb5 _ _ (same_upd hb4 _ _ (same_upd hb3 _ _ upd_same))
        have e3 : H5 b3 = some (.lst [.ref b2]) := by rw [← hH5]; exact same_upd hb5 _ _ (same_upd hb4 _ _ upd_same)
        have e4 : H5 b4 = some (.tup [.int 0, .ref b3, .int 0]) := by rw [← hH5]; exact same_upd hb5 _ _ upd_same
        have e5 : H5 b5 = some (.lst [.ref b4]) := by rw [← hH5]; exact upd_same
        obtain ⟨cs4, hcl4, pr4⟩ := (hR4.same s5).ex
        have ld4 := Paired.length pr4
        refine ⟨_, rfl, b5, cl, _, _, rfl, rfl, e5, hcl4, le_line (by simp only [List.length_cons, List.length_nil, List.length_map]; omega), fun q hq => ?_⟩
        have s6 := same_upd (o := .lst ([V.ref b4] ++ cs4.map V.ref)) hq
        have c0 : LClAt H5 b4 c00 := ⟨b3, [b2], e4, e3, .cons (.am (ns := [8]) e2 e1) .nil⟩
        have sk2 : SmR (c00 :: r) := ⟨by rw [List.length_cons]; omega, fun c hc => by
          rcases List.mem_cons.mp hc with z | z
          · rw [z]; show 1 ≤ 8; decide
          · exact (oks c z).2⟩
        have ok2 : ∀ c ∈ c00 :: r, c.ok := fun c hc => by
          rcases List.mem_cons.mp hc with z | z
          · rw [z]; exact c00_ok
          · exact (oks c z).1
        exact ⟨_, rfl, k q (c00 :: r) _ ((s14.trans s5).trans s6) ⟨b4 :: cs4, upd_same, .cons (c0.same s6) (Paired.imp (fun _ _ z => z.same s6) pr4)⟩ (sm_okt ok2 sk2) sk2 (c00_rest r) (by rw [List.length_cons]; omega) (by rw [List.length_cons]; omega)⟩
end
end J

set_option maxHeartbeats 200000
set_option Elab.async false
set_option linter.all false
set_option maxRecDepth 100000
set_option maxHeartbeats 4000000
/-! What tells no rule: words. -/
namespace J
open PySem L2
def StR (w : Str) (d : Int) : Prop := stOk d ∧ w = sgD d
def WaR (w : Str) (x : Option Int) : Prop := wOk x ∧ w = wS x
structure NuR (w : Str) (ns : List Int) : Prop where
  ne : ns ≠ []
  rg : ∀ n ∈ ns, 0 ≤ n ∧ n ≤ 8
  up : ns.Pairwise (· < ·)
  eq : w = digsT ns
def CoR (w : Str) (d : CondA) : Prop := d.ok ∧ w = condT d
theorem one_sign {w : Str} (h : w.length = 1) : ∃ c, w = ⟨#[c]⟩ := by
  rw [Nu.len] at h
  match e : w.cps.toList, h with
  | [c], _ => exact ⟨c, Nu.ext (by rw [e])⟩
theorem sign_st {c : Nat} (h : ∀ d, ¬ StR ⟨#[c]⟩ d) : c ∉ figs8.cps.toList := fun m => by
  have e : figs8.cps.toList = [48, 49, 50, 51, 52, 53, 54, 55] := by decide +kernel
  rw [e] at m
  have : 48 ≤ c ∧ c ≤ 55 := by
    simp only [List.mem_cons, List.not_mem_nil, or_false] at m
    omega
  refine h ((c : Int) - 48) ⟨⟨by omega, by omega⟩, ?_⟩
  unfold sgD
  rw [show 48 + ((c : Int) - 48).toNat = c by omega]
section
variable {P : Program} {w : World} {K : PySem.W.Frag} {mg : Str → Option Value} {base : Heap} {a : Ad}
inductive SpRSn (a : Ad) (vs : List V) (H : Hp) (E : XK) : Prop
  | mk (z : Str) (_ : vs = [.str z]) (_ : z.length ≤ 6000) (_ : ∀ d, ¬ StR z d) (_ : E (.ref a.x_NoRule) none H) : SpRSn a vs H E
def spRSn (a : Ad) : Sp := fun vs H _ E => SpRSn a vs H E
def spRSb (a : Ad) : Sp := fun vs H Q E => spRS vs H Q E ∨ spRSn a vs H Q E
theorem ok_rsn {f : Addr} {fd : FuncData} (F : Fun K "read_state" "read_state" s_read_state f fd) (T : Top K mg a) : FnOk P w K mg base (CXE P w) 1 f fd p_read_state (spRSn a) := by
  refine F.okE sc_read_state (fun vs H Q E h => ?_) (fun cdv A outer s H vs Q E hr h => ?_)
  · obtain ⟨z, rfl, _⟩ := h
    rfl
  · obtain ⟨z, rfl, lz, no, ke⟩ := h
    refine ⟨_, (@pss_cons _ _ _ _ _ (@ps_if _ _ _ _ _ _ _ _ (@PW.pt _ _ _ (@pw_or _ _ _ _ _ _ _ (@pt_cmpR _ _ _ _ _ _ _ _ (@op_ne _) (@pe_callB _ _ _ _ _ _ _ _ _ (@call_len_str _) rfl T.b_len PySem.boot_len (@pa_cons _ _ _ _ _ (pv 0) (@pa_nil _) rfl) (by decide) (by decide) rfl rfl) (@pe_int _ _ _ _) (nomark _)) (@pw_or1 _ _ _ _ (@pt_cmpR _ _ _ _ _ _ _ _ (@op_notin_str _) (pv 0) (@pe_gstr _ _ _ _ rfl T.k_STATE_FIGURES (by decide)) rfl)))) (@pss_one _ _ _ (@ps_raise _ _ _ _ _ _ _ _ _ _ raisesE rfl rfl T.mx_NoRule T.ec_NoRule (@pa_str _ _ _ _ _ _ (@pa_nil _)) (by decide) rfl rfl)) (@pss_nil _)) (@pss_one _ _ _ (@ps_ret _ _ _ _ (@pe_callTy _ _ _ _ _ _ _ _ _ (@call_int_text _) rfl T.b_int PyProof.Rows.boot_int (@pa_cons _ _ _ _ _ (pv 0) (@pa_nil _) rfl) (by decide) (by decide) rfl rfl)))), ?_⟩
    try dsimp only [cxK]
    refine ⟨_, rfl, _, rfl, Nat.le_trans lz (by decide), rfl, _, rfl, ?_⟩
    by_cases l1 : z.length = 1
    · rw [l1]
      refine iteNS rfl ⟨_, rfl, _, _, rfl, rfl, _, rfl, ?_⟩
      obtain ⟨c, rfl⟩ := one_sign l1
      rw [StrLaws.found_one, decide_eq_false (sign_st no)]
      exact iteT ⟨by show 1 ≤ 100; decide, ke⟩
    · rw [decide_eq_false (by intro e; injection e with e; omega)]
      exact iteT (iteT ⟨by show 1 ≤ 100; decide, ke⟩)
theorem ok_rsb {f : Addr} {fd : FuncData} (F : Fun K "read_state" "read_state" s_read_state f fd) (T : Top K mg a) : FnOk P w K mg base (CXE P w) 1 f fd p_read_state (spRSb a) := (ok_rs F T).up.or (ok_rsn F T)
inductive SpRWn (a : Ad) (vs : List V) (H : Hp) (E : XK) : Prop
  | mk (z : Str) (_ : vs = [.str z]) (_ : z.length ≤ 6000) (_ : ∀ x, ¬ WaR z x) (_ : E (.ref a.x_NoRule) none H) : SpRWn a vs H E
def spRWn (a : Ad) : Sp := fun vs H _ E => SpRWn a vs H E
def spRWb (a : Ad) : Sp := fun vs H Q E => spRW vs H Q E ∨ spRWn a vs H Q E
theorem ok_rwn {f : Addr} {fd : FuncData} (F : Fun K "read_wanted" "read_wanted" s_read_wanted f fd) (T : Top K mg a) (C_read_state : Cal P w K mg base (CXE P w) 1 "read_state" p_read_state (spRSb a)) : FnOk P w K mg base (CXE P w) 2 f fd p_read_wanted (spRWn a) := by
  refine F.okE sc_read_wanted (fun vs H Q E h => ?_) (fun cdv A outer s H vs Q E hr h => ?_)
  · obtain ⟨z, rfl, _⟩ := h
    rfl
  · obtain ⟨z, rfl, lz, no, ke⟩ := h
    refine ⟨_, (@pss_cons _ _ _ _ _ (@ps_if _ _ _ _ _ _ _ _ (@pt_cmpR _ _ _ _ _ _ _ _ (@op_eq _) (pv 0) (@pe_gstr _ _ _ _ rfl T.k_ANY_SIGN (by decide)) (nomark _)) (@pss_one _ _ _ (@ps_ret _ _ _ _ (@pe_non _ _ _))) (@pss_nil _)) (@pss_one _ _ _ (@ps_ret _ _ _ _ (@pe_cal _ _ _ _ _ _ _ _ _ _ _ _ C_read_state (rm hr) rfl passE (@pa_cons _ _ _ _ _ (pv 0) (@pa_nil _) rfl) (by decide) rfl rfl)))), ?_⟩
    try dsimp only [cxK]
    refine ⟨_, rfl, rfl, _, rfl, ?_⟩
    rw [decide_eq_false (by
      intro e
      injection e with e
      exact no none ⟨trivial, e.trans (by decide +kernel)⟩)]
    exact iteF ⟨_, rfl, .inr ⟨z, rfl, lz, fun d hd => no (some d) hd, ke⟩⟩
theorem ok_rwb {f : Addr} {fd : FuncData} (F : Fun K "read_wanted" "read_wanted" s_read_wanted f fd) (T : Top K mg a) (C_0 : Cal P w K mg base CX0 1 "read_state" p_read_state spRS) (C_1 : Cal P w K mg base (CXE P w) 1 "read_state" p_read_state (spRSb a)) : FnOk P w K mg base (CXE P w) 2 f fd p_read_wanted (spRWb a) := (ok_rw F T C_0).up.or (ok_rwn F T C_1)
inductive SpRNn (a : Ad) (vs : List V) (H : Hp) (E : XK) : Prop
  | mk (z : Str) (_ : vs = [.str z]) (_ : z.length ≤ 6000) (_ : ∀ ns, ¬ NuR z ns) (_ : ∀ H', Same H H' → E (.ref a.x_NoRule) none H') : SpRNn a vs H E
def spRNn (a : Ad) : Sp := fun vs H _ E => SpRNn a vs H E
def spRNb (a : Ad) : Sp := fun vs H Q E => spRN vs H Q E ∨ spRNn a vs H Q E
theorem ok_rnn {f : Addr} {fd : FuncData} (F : Fun K "read_numbers" "read_numbers" s_read_numbers f fd) (T : Top K mg a) : FnOk P w K mg base (CXE P w) 1 f fd p_read_numbers (spRNn a) := by
  refine F.okE sc_read_numbers (fun vs H Q E h => ?_) (fun cdv A outer s H vs Q E hr h => ?_)
  · obtain ⟨z, rfl, _⟩ := h
    rfl
  · obtain ⟨z, rfl, lz, no, ke⟩ := h
    refine ⟨_, (@pss_cons _ _ _ _ _ (@ps_if _ _ _ _ _ _ _ _ (@pt_cmpR _ _ _ _ _ _ _ _ (@op_eq _) (@pe_callB _ _ _ _ _ _ _ _ _ (@call_len_str _) rfl T.b_len PySem.boot_len (@pa_cons _ _ _ _ _ (pv 0) (@pa_nil _) rfl) (by decide) (by decide) rfl rfl) (@pe_int _ _ _ _) (nomark _)) (@pss_one _ _ _ (@ps_raise _ _ _ _ _ _ _ _ _ _ raisesE rfl rfl T.mx_NoRule T.ec_NoRule (@pa_str _ _ _ _ _ _ (@pa_nil _)) (by decide) rfl rfl)) (@pss_nil _)) (@pss_cons _ _ _ _ _ (@ps_set _ _ (1) _ _ _ _ sc_read_numbers.nd rfl (Or.inl rfl) (@pe_lst _ _ _ _ (@pa_nil _)) rfl (by first | exact .inl rfl | exact .inr rfl | assumption)) (@pss_cons _ _ _ _ _ (@ps_for _ _ _ _ _ _ _ _ PassesOwn.leaving rfl (@pi_str _ _ _ _ (pv 0)) (@pg_name _ _ (2) _ sc_read_numbers.nd rfl (Or.inl rfl) (by first | exact .inl rfl | exact .inr rfl | assumption)) (@pss_cons _ _ _ _ _ (@ps_if _ _ _ _ _ _ _ _ (@pt_cmpR _ _ _ _ _ _ _ _ (@op_notin_str _) (pv 2) (@pe_gstr _ _ _ _ rfl T.k_AMOUNT_FIGURES (by decide)) rfl) (@pss_one _ _ _ (@ps_raise _ _ _ _ _ _ _ _ _ _ raisesE rfl rfl T.mx_NoRule T.ec_NoRule (@pa_str _ _ _ _ _ _ (@pa_nil _)) (by decide) rfl rfl)) (@pss_nil _)) (@pss_cons _ _ _ _ _ (@ps_if _ _ _ _ _ _ _ _ (@PW.pt _ _ _ (@pw_and _ _ _ _ _ _ _ (@pt_cmpR _ _ _ _ _ _ _ _ (@op_gt _) (@pe_callB _ _ _ _ _ _ _ _ _ (@call_len_seq _) rfl T.b_len PySem.boot_len (@pa_cons _ _ _ _ _ (pv 1) (@pa_nil _) rfl) (by decide) (by decide) rfl rfl) (@pe_int _ _ _ _) (nomark _)) (@pw_and1 _ _ _ _ (@pt_cmpR _ _ _ _ _ _ _ _ (@op_le _) (@pe_callTy _ _ _ _ _ _ _ _ _ (@call_int_text _) rfl T.b_int PyProof.Rows.boot_int (@pa_cons _ _ _ _ _ (pv 2) (@pa_nil _) rfl) (by decide) (by decide) rfl rfl) (@pe_ix _ _ _ _ _ _ _ (@ix_list _) (pv 1) (@pe_un _ _ _ _ _ _ (@un_neg _) (@pe_int _ _ _ _)) (fun _ _ => rfl)) (nomark _))))) (@pss_one _ _ _ (@ps_raise _ _ _ _ _ _ _ _ _ _ raisesE rfl rfl T.mx_NoRule T.ec_NoRule (@pa_str _ _ _ _ _ _ (@pa_nil _)) (by decide) rfl rfl)) (@pss_nil _)) (@pss_one _ _ _ (@ps_expr _ _ _ _ (@pe_bm _ _ _ _ _ _ _ _ _ _ _ _ PySem.F.plainAttrs_list PySem.F.slot_list_append PySem.F.type_list_append (@mt_append _) (pv 1) (@pa_cons _ _ _ _ _ (@pe_callTy _ _ _ _ _ _ _ _ _ (@call_int_text _) rfl T.b_int PyProof.Rows.boot_int (@pa_cons _ _ _ _ _ (pv 2) (@pa_nil _) rfl) (by decide) (by decide) rfl rfl) (@pa_nil _) rfl) rfl rfl rfl rfl rfl) rfl)))) (by intro _ ; rfl)) (@pss_one _ _ _ (@ps_ret _ _ _ _ (@pe_callTy _ _ _ _ _ _ _ _ _ (@call_tuple_of _) rfl T.b_tuple PyProof.Rows.boot_tuple (@pa_cons _ _ _ _ _ (pv 1) (@pa_nil _) rfl) (by decide) (by decide) rfl rfl)))))), ?_⟩
    try dsimp only [cxK]
    refine ⟨_, rfl, _, rfl, Nat.le_trans lz (by decide), rfl, _, rfl, ?_⟩
    by_cases l0 : z.length = 0
    · rw [l0]
      exact iteT ⟨by show 1 ≤ 100; decide, ke H (Same.refl H)⟩
    rw [decide_eq_false (by intro e; injection e with e; omega)]
    refine iteF ⟨(by show 0 ≤ sizeLine; decide), fun l hl0 => ?_⟩
    refine ⟨_, rfl, _, rfl, ?_⟩
    refine for_str (fun i σ H2 => ∃ (v : Option V) (ns : List Int), σ = [some (.str z), some (.ref l), v] ∧ H2 = upd H l (.lst (ns.map V.int)) ∧ z.cps.toList.take i = (ns.map fun n => 48 + n.toNat) ∧ (∀ n ∈ ns, 0 ≤ n ∧ n ≤ 8) ∧ ns.Pairwise (· < ·)) ⟨none, [], rfl, rfl, rfl, fun n hn => by simp at hn, .nil⟩ ?_ ?_
    · rintro i ch σ H2 hch ⟨v, ns, rfl, rfl, et, rg, up⟩
      refine ⟨_, rfl, _, _, rfl, rfl, _, rfl, ?_⟩
      rw [StrLaws.found_one]
      have e9 : figs9.cps.toList = [48, 49, 50, 51, 52, 53, 54, 55, 56] := by decide +kernel
      by_cases m : ch ∈ figs9.cps.toList
      · rw [decide_eq_true m]
        rw [e9] at m
        obtain ⟨d, d0, d8, rfl⟩ : ∃ d : Int, 0 ≤ d ∧ d ≤ 8 ∧ ch = 48 + d.toNat := by
          have : 48 ≤ ch ∧ ch ≤ 56 := by
            simp only [List.mem_cons, List.not_mem_nil, or_false] at m
            omega
          exact ⟨(ch : Int) - 48, by omega, by omega, by omega⟩
        obtain ⟨f1, _⟩ := am_facts d0 d8
        have hch' : z.cps.toList[i]? = some (48 + d.toNat) := by simpa using hch
        have ln : ns.length ≤ 6000 := by
          have := congrArg List.length et
          rw [List.length_take, List.length_map, ← Nu.len] at this
          omega
        refine iteF ⟨_, rfl, l, _, rfl, .inl (SqL.of upd_same), _, _, rfl, rfl, _, rfl, ?_⟩
        have nx : (∀ m ∈ ns, m < d) → ∃ (v : Option V) (ns' : List Int), ([some (V.str z), some (.ref l), some (.str ⟨#[48 + d.toNat]⟩)] : St) = [some (.str z), some (.ref l), v] ∧ upd (upd H l (.lst (ns.map V.int))) l (.lst (ns.map V.int ++ [V.int d])) = upd H l (.lst (ns'.map V.int)) ∧ z.cps.toList.take (i + 1) = (ns'.map fun n => 48 + n.toNat) ∧ (∀ n ∈ ns', 0 ≤ n ∧ n ≤ 8) ∧ ns'.Pairwise (· < ·) := fun lt => by
          refine ⟨_, ns ++ [d], rfl, by rw [upd_upd, List.map_append]; rfl, by rw [List.take_add_one, hch', et, List.map_append]; rfl, fun n hn => ?_, List.pairwise_append.mpr ⟨up, List.pairwise_singleton _ _, fun x hx y hy => by rw [List.mem_singleton.mp hy]; exact lt x hx⟩⟩
          rcases List.mem_append.mp hn with q | q
          · exact rg n q
          · rw [List.mem_singleton.mp q]; exact ⟨d0, d8⟩
        have lnl : (ns.map V.int).length < sizeLine := by rw [List.length_map]; exact Nat.lt_of_le_of_lt ln (by decide)
        cases ns with
        | nil => exact iteF ⟨_, rfl, .inl ⟨rfl, _, SqL.of upd_same⟩, _, rfl, _, d, rfl, f1, (by show 1 ≤ 640; decide), l, _, _, rfl, rfl, upd_same, lnl, nx fun m hm => by simp at hm⟩
        | cons n0 nr =>
          rw [decide_eq_true (by simp only [List.length_map, List.length_cons]; omega : (0 : Int) < ((((n0 :: nr).map V.int).length : Nat) : Int))]
          obtain ⟨hd, lst, eL⟩ : ∃ hd lst, n0 :: nr = hd ++ [lst] := ⟨_, _, (List.dropLast_concat_getLast (by simp : n0 :: nr ≠ [])).symm⟩
          rw [eL] at nx lnl up ⊢
          have at1 : atI ((hd ++ [lst]).map V.int) (-1) = some (V.int lst) := by
            rw [List.map_append]
            unfold atI ixN
            rw [List.length_append, List.length_map, if_neg (by decide), if_pos (by simp only [List.length_map, List.length_cons, List.length_nil]; omega)]
            show (hd.map V.int ++ [V.int lst])[((-1 : Int) + ((hd.length + 1 : Nat) : Int)).toNat]? = _
            rw [show ((-1 : Int) + ((hd.length + 1 : Nat) : Int)).toNat = hd.length by omega, List.getElem?_append_right (by simp)]
            simp
          refine iteT ⟨_, rfl, _, d, rfl, f1, (by show 1 ≤ 640; decide), _, rfl, _, rfl, l, _, _, _, rfl, rfl, SqL.of upd_same, at1, _, _, rfl, rfl, _, rfl, ?_⟩
          by_cases le : d ≤ lst
          · rw [decide_eq_true le]
            exact iteT ⟨by show 1 ≤ 100; decide, ke _ (same_upd hl0)⟩
          · rw [decide_eq_false le]
            refine iteF ⟨_, rfl, .inl ⟨rfl, _, SqL.of upd_same⟩, _, rfl, _, d, rfl, f1, (by show 1 ≤ 640; decide), l, _, _, rfl, rfl, upd_same, lnl, nx fun m hm => ?_⟩
            rcases List.mem_append.mp hm with q | q
            · have := (List.pairwise_append.mp up).2.2 m q lst (List.mem_singleton.mpr rfl)
              omega
            · rw [List.mem_singleton.mp q]; omega
      · rw [decide_eq_false m]
        exact iteT ⟨by show 1 ≤ 100; decide, ke _ (same_upd hl0)⟩
    · rintro σ H2 ⟨v, ns, rfl, rfl, et, rg, up⟩
      exfalso
      have e : z.cps.toList = ns.map fun n => 48 + n.toNat := by
        rw [← et, List.take_of_length_le (by simp)]
      refine no ns ⟨fun e0 => ?_, rg, up, Nu.ext (by rw [e]; rfl)⟩
      rw [e0] at e
      rw [Nu.len, e] at l0
      exact l0 rfl
theorem ok_rnb {f : Addr} {fd : FuncData} (F : Fun K "read_numbers" "read_numbers" s_read_numbers f fd) (T : Top K mg a) : FnOk P w K mg base (CXE P w) 1 f fd p_read_numbers (spRNb a) := (ok_rn F T).up.or (ok_rnn F T)
theorem eq_parts {z : Str} (h : 61 ∈ z.cps.toList) : ∃ x y : Str, z = x ++ ⟨#[61]⟩ ++ y ∧ 61 ∉ x.cps.toList := by
  have key : ∀ l : List Nat, 61 ∈ l → ∃ p q, l = p ++ 61 :: q ∧ 61 ∉ p := by
    intro l
    induction l with
    | nil => intro m; simp at m
    | cons c r ih =>
      intro m
      by_cases e : c = 61
      · exact ⟨[], r, by rw [e]; rfl, by simp⟩
      · obtain ⟨p, q, e1, e2⟩ := ih (by
          rcases List.mem_cons.mp m with q | q
          · exact absurd q.symm e
          · exact q)
        exact ⟨c :: p, q, by rw [e1]; rfl, fun y => by
          rcases List.mem_cons.mp y with q | q
          · exact e q.symm
          · exact e2 q⟩
  obtain ⟨p, q, e1, e2⟩ := key _ h
  refine ⟨⟨p.toArray⟩, ⟨q.toArray⟩, Nu.ext ?_, e2⟩
  rw [Tx.cps_app, Tx.cps_app, e1]
  simp
inductive SpRAn (a : Ad) (vs : List V) (H : Hp) (E : XK) : Prop
  | mk (z : Str) (_ : vs = [.str z]) (_ : z.length ≤ 6000) (_ : 61 ∈ z.cps.toList) (_ : ∀ d, ¬ CoR z d) (_ : ∀ H', Same H H' → E (.ref a.x_NoRule) none H') : SpRAn a vs H E
def spRAn (a : Ad) : Sp := fun vs H _ E => SpRAn a vs H E
def spRAb (a : Ad) : Sp := fun vs H Q E => spRAm a vs H Q E ∨ spRAn a vs H Q E
theorem ok_ran {f : Addr} {fd : FuncData} (F : Fun K "read_amounts" "read_amounts" s_read_amounts f fd) (T : Top K mg a) (C_read_state : Cal P w K mg base (CXE P w) 1 "read_state" p_read_state (spRSb a)) (C_read_numbers : Cal P w K mg base (CXE P w) 1 "read_numbers" p_read_numbers (spRNb a)) (C_Amounts : CalC P w K mg base CX0 1 "Amounts" a.c_Amounts p_Amounts_init (spAmInit a)) : FnOk P w K mg base (CXE P w) 3 f fd p_read_amounts (spRAn a) := by
  refine F.okE sc_read_amounts (fun vs H Q E h => ?_) (fun cdv A outer s H vs Q E hr h => ?_)
  · obtain ⟨z, rfl, _⟩ := h
    rfl
  · obtain ⟨z, rfl, lz, m61, no, ke⟩ := h
    obtain ⟨x, y, rfl, nx⟩ := eq_parts m61
    have e61 : Str.ofString "=" = (⟨#[61]⟩ : Str) := by decide +kernel
    have ep : Txt.partition (x ++ ⟨#[61]⟩ ++ y) (Str.ofString "=") = (x, ⟨#[61]⟩, y) := by rw [e61]; exact Tx.part_at 61 x y nx
    have lxy : x.length ≤ 6000 ∧ y.length ≤ 6000 := by rw [Tx.app_len, Tx.app_len] at lz; omega
    refine ⟨_, (@pss_cons _ _ _ _ _ (@ps_set _ _ (1) _ _ _ _ sc_read_amounts.nd rfl (Or.inl rfl) (@pe_bm _ _ _ _ _ _ _ _ _ _ _ _ PySem.F.plainAttrs_str PySem.F.slot_str_partition PySem.F.type_str_partition (@mt_partition _) (pv 0) (@pa_str _ _ _ _ _ _ (@pa_nil _)) rfl rfl rfl rfl rfl) rfl (by first | exact .inl rfl | exact .inr rfl | assumption)) (@pss_one _ _ _ (@ps_ret _ _ _ _ (@pe_calC _ _ _ _ _ _ _ _ _ _ _ _ _ C_Amounts (rm hr) rfl pass0 (@pa_cons _ _ _ _ _ (@pe_cal _ _ _ _ _ _ _ _ _ _ _ _ C_read_state (rm hr) rfl passE (@pa_cons _ _ _ _ _ (@pe_ix _ _ _ _ _ _ _ (@ix_tup _) (pv 1) (@pe_int _ _ _ _) (fun _ _ => rfl)) (@pa_nil _) rfl) (by decide) rfl rfl) (@pa_cons _ _ _ _ _ (@pe_cal _ _ _ _ _ _ _ _ _ _ _ _ C_read_numbers (rm hr) rfl passE (@pa_cons _ _ _ _ _ (@pe_ix _ _ _ _ _ _ _ (@ix_tup _) (pv 1) (@pe_int _ _ _ _) (fun _ _ => rfl)) (@pa_nil _) rfl) (by decide) rfl rfl) (@pa_nil _) rfl) rfl) (by decide) rfl rfl)))), ?_⟩
    try dsimp only [cxK]
    refine ⟨_, rfl, rfl, _, _, rfl, rfl, (by decide +kernel), (by omega), fun t ht => ?_⟩
    rw [ep]
    refine ⟨_, rfl, t, _, 0, _, rfl, rfl, SqT.of upd_same, rfl, ?_⟩
    by_cases hx : ∃ d, StR x d
    · obtain ⟨d, hd, rfl⟩ := hx
      refine .inl ⟨d, rfl, hd, _, rfl, t, _, 2, _, rfl, rfl, SqT.of upd_same, rfl, .inr ⟨y, rfl, lxy.2, fun ns hn => no (.am d ns) ⟨⟨hd, hn.ne, hn.rg, hn.up⟩, ?_⟩, fun H' s' => ke H' ((same_upd ht).trans s')⟩⟩
      rw [hn.eq]
      rfl
    · exact .inr ⟨x, rfl, lxy.1, fun d hd => hx ⟨d, hd⟩, ke _ (same_upd ht)⟩
theorem ok_rab {f : Addr} {fd : FuncData} (F : Fun K "read_amounts" "read_amounts" s_read_amounts f fd) (T : Top K mg a) (C_0 : Cal P w K mg base CX0 1 "read_state" p_read_state spRS) (C_1 : Cal P w K mg base CX0 1 "read_numbers" p_read_numbers spRN) (C_2 : Cal P w K mg base (CXE P w) 1 "read_state" p_read_state (spRSb a)) (C_3 : Cal P w K mg base (CXE P w) 1 "read_numbers" p_read_numbers (spRNb a)) (C_Amounts : CalC P w K mg base CX0 1 "Amounts" a.c_Amounts p_Amounts_init (spAmInit a)) : FnOk P w K mg base (CXE P w) 3 f fd p_read_amounts (spRAb a) := (ok_ram F T C_0 C_1 C_Amounts).up.or (ok_ran F T C_2 C_3 C_Amounts)
inductive SpRPn (a : Ad) (vs : List V) (H : Hp) (E : XK) : Prop
  | mk (z : Str) (_ : vs = [.str z]) (_ : z.length ≤ 6000) (_ : ∀ ws, ¬ CoR z (.pl ws)) (_ : ∀ H', Same H H' → E (.ref a.x_NoRule) none H') : SpRPn a vs H E
def spRPn (a : Ad) : Sp := fun vs H _ E => SpRPn a vs H E
def spRPb (a : Ad) : Sp := fun vs H Q E => spRPl a vs H Q E ∨ spRPn a vs H Q E
theorem ok_rpn {f : Addr} {fd : FuncData} (F : Fun K "read_places" "read_places" s_read_places f fd) (T : Top K mg a) (C_read_wanted : Cal P w K mg base (CXE P w) 2 "read_wanted" p_read_wanted (spRWb a)) (C_Places : CalC P w K mg base CX0 1 "Places" a.c_Places p_Places_init (spPlInit a)) : FnOk P w K mg base (CXE P w) 3 f fd p_read_places (spRPn a) := by
  refine F.okE sc_read_places (fun vs H Q E h => ?_) (fun cdv A outer s H vs Q E hr h => ?_)
  · obtain ⟨z, rfl, _⟩ := h
    rfl
  · obtain ⟨z, rfl, lz, no, ke⟩ := h
    refine ⟨_, (@pss_cons _ _ _ _ _ (@ps_if _ _ _ _ _ _ _ _ (@pt_cmpR _ _ _ _ _ _ _ _ (@op_ne _) (@pe_callB _ _ _ _ _ _ _ _ _ (@call_len_str _) rfl T.b_len PySem.boot_len (@pa_cons _ _ _ _ _ (pv 0) (@pa_nil _) rfl) (by decide) (by decide) rfl rfl) (@pe_gint _ _ _ _ rfl T.k_NEIGHBOURS (by decide)) (nomark _)) (@pss_one _ _ _ (@ps_raise _ _ _ _ _ _ _ _ _ _ raisesE rfl rfl T.mx_NoRule T.ec_NoRule (@pa_str _ _ _ _ _ _ (@pa_nil _)) (by decide) rfl rfl)) (@pss_nil _)) (@pss_one _ _ _ (@ps_ret _ _ _ _ (@pe_calC _ _ _ _ _ _ _ _ _ _ _ _ _ C_Places (rm hr) rfl pass0 (@pa_cons _ _ _ _ _ (@pe_callTy _ _ _ _ _ _ _ _ _ (@call_tuple_of _) rfl T.b_tuple PyProof.Rows.boot_tuple (@pa_cons _ _ _ _ _ (@pe_compE _ _ _ _ _ _ _ _ _ _ _ _ _ _ _ _ _ _ _ _ _ _ _ _ _ _ _ _ (@CScope.of _ ((defScope s_read_places)) (n_read_places) _ (["sign"]) (1) ([]) rfl rfl (by decide +kernel)) (@pi_str _ _ _ _ (pv 0)) (fun _ _ _ => (@pgc_name _ _ _ _ _ _ _ _ (0) (by decide +kernel) rfl rfl)) (fun _ _ _ => (@pts_nil _)) (fun _ _ _ _ pass => (@pe_cal _ _ _ _ _ _ _ _ _ _ _ _ C_read_wanted (rm hr) rfl pass (@pa_cons _ _ _ _ _ (pv 0) (@pa_nil _) rfl) (by decide) rfl rfl)) (by intro _ ; rfl)) (@pa_nil _) rfl) (by decide) (by decide) rfl rfl) (@pa_nil _) rfl) (by decide) rfl rfl)))), ?_⟩
    try dsimp only [cxK]
    refine ⟨_, rfl, _, rfl, Nat.le_trans lz (by decide), rfl, _, rfl, ?_⟩
    by_cases l8 : z.length = 8
    · rw [l8]
      refine iteNS rfl ⟨_, rfl, _, rfl, ?_⟩
      refine blk_str (fun i acc H2 => H2 = H ∧ ∃ ws : List (Option Int), acc = ws.map optV ∧ z.cps.toList.take i = ws.map wC ∧ ∀ x ∈ ws, wOk x) ⟨rfl, [], rfl, rfl, fun x hx => by simp at hx⟩ ?_ ?_
      · rintro i ch acc H2 hch ⟨rfl, ws, rfl, et, oks⟩
        have lw : ws.length ≤ 8 := by
          have := congrArg List.length et
          rw [List.length_take, List.length_map, ← Nu.len] at this
          omega
        refine ⟨⟨[some (.str ⟨#[ch]⟩)], rfl, rfl⟩, by rw [List.length_map]; exact Nat.lt_of_le_of_lt lw (by decide), ?_⟩
        refine tyes ⟨_, rfl, ?_⟩
        by_cases hx : ∃ x, WaR ⟨#[ch]⟩ x
        · obtain ⟨x, ox, ex⟩ := hx
          refine .inl ⟨x, by rw [ex]; rfl, ox, rfl, ws ++ [x], by rw [List.map_append]; rfl, ?_, fun y hy => ?_⟩
          · have ec : ch = wC x := by
              have := congrArg (fun q : Str => q.cps.toList) ex
              simpa [wS] using this
            rw [List.take_add_one, hch, et, List.map_append, ec]
            rfl
          · rcases List.mem_append.mp hy with q | q
            · exact oks y q
            · rw [List.mem_singleton.mp q]; exact ox
        · exact .inr ⟨_, rfl, by show 1 ≤ 6000; decide, fun x hx' => hx ⟨x, hx'⟩, ke _ (Same.refl _)⟩
      · rintro acc H2 ⟨rfl, ws, rfl, et, oks⟩
        exfalso
        rw [List.take_length] at et
        refine no ws ⟨⟨?_, oks⟩, Nu.ext (by rw [et]; rfl)⟩
        have := congrArg List.length et
        rw [List.length_map, ← Nu.len, l8] at this
        exact this.symm
    · rw [decide_eq_false (by intro e; injection e with e; omega)]
      exact iteT ⟨by show 1 ≤ 100; decide, ke H (Same.refl H)⟩
theorem ok_rpb {f : Addr} {fd : FuncData} (F : Fun K "read_places" "read_places" s_read_places f fd) (T : Top K mg a) (C_0 : Cal P w K mg base CX0 2 "read_wanted" p_read_wanted spRW) (C_1 : Cal P w K mg base (CXE P w) 2 "read_wanted" p_read_wanted (spRWb a)) (C_Places : CalC P w K mg base CX0 1 "Places" a.c_Places p_Places_init (spPlInit a)) : FnOk P w K mg base (CXE P w) 3 f fd p_read_places (spRPb a) := (ok_rpl F T C_0 C_Places).up.or (ok_rpn F T C_1 C_Places)
inductive SpRCn (a : Ad) (vs : List V) (H : Hp) (E : XK) : Prop
  | mk (z : Str) (_ : vs = [.str z]) (_ : z.length ≤ 6000) (_ : ∀ d, ¬ CoR z d) (_ : ∀ H', Same H H' → E (.ref a.x_NoRule) none H') : SpRCn a vs H E
def spRCn (a : Ad) : Sp := fun vs H _ E => SpRCn a vs H E
def spRCb (a : Ad) : Sp := fun vs H Q E => spRCond a vs H Q E ∨ spRCn a vs H Q E
theorem ok_rcn {f : Addr} {fd : FuncData} (F : Fun K "read_condition" "read_condition" s_read_condition f fd) (T : Top K mg a) (C_read_amounts : Cal P w K mg base (CXE P w) 3 "read_amounts" p_read_amounts (spRAb a)) (C_read_places : Cal P w K mg base (CXE P w) 3 "read_places" p_read_places (spRPb a)) : FnOk P w K mg base (CXE P w) 4 f fd p_read_condition (spRCn a) := by
  refine F.okE sc_read_condition (fun vs H Q E h => ?_) (fun cdv A outer s H vs Q E hr h => ?_)
  · obtain ⟨z, rfl, _⟩ := h
    rfl
  · obtain ⟨z, rfl, lz, no, ke⟩ := h
    refine ⟨_, (@pss_cons _ _ _ _ _ (@ps_if _ _ _ _ _ _ _ _ (@pt_cmpR _ _ _ _ _ _ _ _ (@op_in_str _) (@pe_str _ _ _ _) (pv 0) rfl) (@pss_one _ _ _ (@ps_ret _ _ _ _ (@pe_cal _ _ _ _ _ _ _ _ _ _ _ _ C_read_amounts (rm hr) rfl passE (@pa_cons _ _ _ _ _ (pv 0) (@pa_nil _) rfl) (by decide) rfl rfl))) (@pss_nil _)) (@pss_one _ _ _ (@ps_ret _ _ _ _ (@pe_cal _ _ _ _ _ _ _ _ _ _ _ _ C_read_places (rm hr) rfl passE (@pa_cons _ _ _ _ _ (pv 0) (@pa_nil _) rfl) (by decide) rfl rfl)))), ?_⟩
    try dsimp only [cxK]
    refine ⟨_, rfl, _, _, rfl, rfl, _, rfl, ?_⟩
    rw [eq_in]
    by_cases m : 61 ∈ z.cps.toList
    · rw [decide_eq_true m]
      exact iteT ⟨_, rfl, .inr ⟨z, rfl, lz, m, no, ke⟩⟩
    · rw [decide_eq_false m]
      exact iteF ⟨_, rfl, .inr ⟨z, rfl, lz, fun ws => no (.pl ws), ke⟩⟩
theorem ok_rcb {f : Addr} {fd : FuncData} (F : Fun K "read_condition" "read_condition" s_read_condition f fd) (T : Top K mg a) (C_0 : Cal P w K mg base CX0 3 "read_amounts" p_read_amounts (spRAm a)) (C_1 : Cal P w K mg base CX0 3 "read_places" p_read_places (spRPl a)) (C_2 : Cal P w K mg base (CXE P w) 3 "read_amounts" p_read_amounts (spRAb a)) (C_3 : Cal P w K mg base (CXE P w) 3 "read_places" p_read_places (spRPb a)) : FnOk P w K mg base (CXE P w) 4 f fd p_read_condition (spRCb a) := (ok_rcond F T C_0 C_1).up.or (ok_rcn F T C_2 C_3)
end
end J

set_option maxHeartbeats 200000
set_option Elab.async false
set_option linter.all false
set_option maxRecDepth 100000
set_option maxHeartbeats 4000000
/-! What tells no rule: clauses, rules. -/
namespace J
open PySem L2
def ClR (z : Str) (c : ClauseA) : Prop := c.ok ∧ z = clauseT c
def RuR (z : Str) (r : RuleA) : Prop := ROkT r ∧ z = ruleT r
theorem jl_ge (sep : List Nat) : ∀ (ts : List (List Nat)) (t : List Nat), t ∈ ts → t.length ≤ (Tx.jl sep ts).length
  | [], t, h => by simp at h
  | [x], t, h => by rw [List.mem_singleton.mp h]; exact Nat.le_refl _
  | x :: y :: r, t, h => by
    show t.length ≤ (x ++ sep ++ Tx.jl sep (y :: r)).length
    rw [List.length_append, List.length_append]
    rcases List.mem_cons.mp h with q | q
    · rw [q]; omega
    · have := jl_ge sep (y :: r) t q
      omega
theorem part_le {z sep : Str} {p : Str} (h : p ∈ Txt.split z sep) : p.length ≤ z.length := by
  have e := congrArg (fun q : Str => q.cps.toList) (StrLaws.join_split z sep)
  rw [Tx.cps_join] at e
  have := jl_ge sep.cps.toList _ p.cps.toList (List.mem_map_of_mem (f := fun t : Str => t.cps.toList) h)
  rw [e, ← Nu.len, ← Nu.len] at this
  exact this
theorem two_ends {α : Type} : ∀ l : List α, 2 ≤ l.length → ∃ x r y, l = x :: (r ++ [y])
  | x :: s, h => by
    have : s ≠ [] := fun e => by rw [e] at h; simp at h
    exact ⟨x, s.dropLast, s.getLast this, by rw [List.dropLast_concat_getLast]⟩
section
variable {P : Program} {w : World} {K : PySem.W.Frag} {mg : Str → Option Value} {base : Heap} {a : Ad}
inductive SpCln (a : Ad) (vs : List V) (H : Hp) (E : XK) : Prop
  | mk (z : Str) (_ : vs = [.str z]) (_ : z.length ≤ 900) (_ : ∀ c, ¬ ClR z c) (_ : ∀ H', Same H H' → E (.ref a.x_NoRule) none H') : SpCln a vs H E
def spCln (a : Ad) : Sp := fun vs H _ E => SpCln a vs H E
def spCb (a : Ad) : Sp := fun vs H Q E => spRC a vs H Q E ∨ spCln a vs H Q E
theorem ok_cln {f : Addr} {fd : FuncData} (F : Fun K "read_clause" "read_clause" s_read_clause f fd) (T : Top K mg a) (C_read_state : Cal P w K mg base (CXE P w) 1 "read_state" p_read_state (spRSb a)) (C_read_wanted : Cal P w K mg base (CXE P w) 2 "read_wanted" p_read_wanted (spRWb a)) (C_read_condition : Cal P w K mg base (CXE P w) 4 "read_condition" p_read_condition (spRCb a)) (C_Clause : CalC P w K mg base CX0 1 "Clause" a.c_Clause p_Clause_init (spClInit a)) : FnOk P w K mg base (CXE P w) 5 f fd p_read_clause (spCln a) := by
  refine F.okE sc_read_clause (fun vs H Q E h => ?_) (fun cdv A outer s H vs Q E hr h => ?_)
  · obtain ⟨z, rfl, _⟩ := h
    rfl
  · obtain ⟨z, rfl, lz, no, ke⟩ := h
    refine ⟨_, (@pss_cons _ _ _ _ _ (@ps_if _ _ _ _ _ _ _ _ (@pt_not _ _ _ _ (@pt_val _ _ _ (@pe_callB _ _ _ _ _ _ _ _ _ (@call_isi _) rfl T.b_isinstance PyProof.Rows.boot_isinstance (@pa_cons _ _ _ _ _ (pv 0) (@pa_cons _ _ _ _ _ (@pe_bltn _ _ ((.ty "str")) _ _ rfl T.b_str PyProof.Rows.boot_str rfl (by decide) (by decide)) (@pa_nil _) rfl) rfl) (by decide) (by decide) rfl rfl) (by intro _ ; rfl))) (@pss_one _ _ _ (@ps_raise _ _ _ _ _ _ _ _ _ _ raisesE rfl rfl T.mx_NoRule T.ec_NoRule (@pa_str _ _ _ _ _ _ (@pa_nil _)) (by decide) rfl rfl)) (@pss_nil _)) (@pss_cons _ _ _ _ _ (@ps_set _ _ (1) _ _ _ _ sc_read_clause.nd rfl (Or.inl rfl) (@pe_bm _ _ _ _ _ _ _ _ _ _ _ _ PySem.F.plainAttrs_str PySem.F.slot_str_split PySem.F.type_str_split (@mt_split _) (pv 0) (@pa_str _ _ _ _ _ _ (@pa_nil _)) rfl rfl rfl rfl rfl) rfl (by first | exact .inl rfl | exact .inr rfl | assumption)) (@pss_cons _ _ _ _ _ (@ps_if _ _ _ _ _ _ _ _ (@pt_cmpR _ _ _ _ _ _ _ _ (@op_lt _) (@pe_callB _ _ _ _ _ _ _ _ _ (@call_len_seq _) rfl T.b_len PySem.boot_len (@pa_cons _ _ _ _ _ (pv 1) (@pa_nil _) rfl) (by decide) (by decide) rfl rfl) (@pe_int _ _ _ _) (nomark _)) (@pss_one _ _ _ (@ps_raise _ _ _ _ _ _ _ _ _ _ raisesE rfl rfl T.mx_NoRule T.ec_NoRule (@pa_str _ _ _ _ _ _ (@pa_nil _)) (by decide) rfl rfl)) (@pss_nil _)) (@pss_cons _ _ _ _ _ (@ps_set _ _ (2) _ _ _ _ sc_read_clause.nd rfl (Or.inl rfl) (@pe_cal _ _ _ _ _ _ _ _ _ _ _ _ C_read_wanted (rm hr) rfl passE (@pa_cons _ _ _ _ _ (@pe_ix _ _ _ _ _ _ _ (@ix_list _) (pv 1) (@pe_int _ _ _ _) (fun _ _ => rfl)) (@pa_nil _) rfl) (by decide) rfl rfl) rfl (by first | exact .inl rfl | exact .inr rfl | assumption)) (@pss_cons _ _ _ _ _ (@ps_set _ _ (3) _ _ _ _ sc_read_clause.nd rfl (Or.inl rfl) (@pe_callTy _ _ _ _ _ _ _ _ _ (@call_tuple_of _) rfl T.b_tuple PyProof.Rows.boot_tuple (@pa_cons _ _ _ _ _ (@pe_compE _ _ _ _ _ _ _ _ _ _ _ _ _ _ _ _ _ _ _ _ _ _ _ _ _ _ _ _ (@CScope.of _ ((defScope s_read_clause)) (n_read_clause) _ (["word"]) (1) ([]) rfl rfl (by decide +kernel)) (@pi_list _ _ _ _ (@pe_slice _ _ _ _ _ _ _ _ _ _ (@sl_list _) (pv 1) (@po_some _ _ _ (@pe_int _ _ _ _)) (@po_some _ _ _ (@pe_un _ _ _ _ _ _ (@un_neg _) (@pe_int _ _ _ _))))) (fun _ _ _ => (@pgc_name _ _ _ _ _ _ _ _ (0) (by decide +kernel) rfl rfl)) (fun _ _ _ => (@pts_nil _)) (fun _ _ _ _ pass => (@pe_cal _ _ _ _ _ _ _ _ _ _ _ _ C_read_condition (rm hr) rfl pass (@pa_cons _ _ _ _ _ (pv 0) (@pa_nil _) rfl) (by decide) rfl rfl)) (by intro _ ; rfl)) (@pa_nil _) rfl) (by decide) (by decide) rfl rfl) rfl (by first | exact .inl rfl | exact .inr rfl | assumption)) (@pss_one _ _ _ (@ps_ret _ _ _ _ (@pe_calC _ _ _ _ _ _ _ _ _ _ _ _ _ C_Clause (rm hr) rfl pass0 (@pa_cons _ _ _ _ _ (pv 2) (@pa_cons _ _ _ _ _ (pv 3) (@pa_cons _ _ _ _ _ (@pe_cal _ _ _ _ _ _ _ _ _ _ _ _ C_read_state (rm hr) rfl passE (@pa_cons _ _ _ _ _ (@pe_ix _ _ _ _ _ _ _ (@ix_list _) (pv 1) (@pe_un _ _ _ _ _ _ (@un_neg _) (@pe_int _ _ _ _)) (fun _ _ => rfl)) (@pa_nil _) rfl) (by decide) rfl rfl) (@pa_nil _) rfl) rfl) rfl) (by decide) rfl rfl)))))))), ?_⟩
    try dsimp only [cxK]
    refine ⟨_, rfl, _, _, _, .type "str", true, rfl, rfl, .of (.str _), str_isi K, true, rfl, ?_⟩
    refine iteF ⟨_, rfl, rfl, _, _, rfl, rfl, (by decide +kernel), (by omega), fun l hl => ?_⟩
    have sle : (Txt.split z (Str.ofString " ")).length ≤ z.length + 2 := PyProof.Rows.split_le z _
    have jn := StrLaws.join_split z (Str.ofString " ")
    have ple : ∀ p ∈ Txt.split z (Str.ofString " "), p.length ≤ z.length := fun p hp => part_le hp
    generalize Txt.split z (Str.ofString " ") = W at sle jn ple ⊢
    refine ⟨_, rfl, l, _, rfl, .inl (SqL.of upd_same), _, _, rfl, rfl, _, rfl, ?_⟩
    by_cases w2 : W.length < 2
    · rw [decide_eq_true (by rw [List.length_map]; omega)]
      exact iteT ⟨by show 1 ≤ 100; decide, ke _ (same_upd hl)⟩
    rw [decide_eq_false (by rw [List.length_map]; omega)]
    obtain ⟨x, r, y, rfl⟩ := two_ends W (by omega)
    have lr : r.length ≤ 1000 := by
      rw [List.length_cons, List.length_append] at sle
      omega
    have eW : ((x :: (r ++ [y])).map V.str) = V.str x :: (r.map V.str ++ [V.str y]) := by rw [List.map_cons, List.map_append]; rfl
    rw [eW]
    refine iteF ⟨_, rfl, l, _, 0, .str x, rfl, rfl, SqL.of upd_same, atI_nat (j := 0) rfl, ?_⟩
    by_cases hx : ∃ o, WaR x o
    rotate_left
    · exact .inr ⟨x, rfl, Nat.le_trans (ple x (by simp)) (by omega), fun o ho => hx ⟨o, ho⟩, ke _ (same_upd hl)⟩
    obtain ⟨o, oo, rfl⟩ := hx
    refine .inl ⟨o, rfl, oo, ?_⟩
    refine ⟨_, rfl, _, rfl, _, rfl, _, rfl, l, _, rfl, SqL.of upd_same, fun q hq => ⟨q, rfl, ⟨_, SqL.of upd_same⟩, ?_⟩⟩
    rw [cut_mid]
    have nlq : l ≠ q := fun e => by rw [← e, upd_same] at hq; cases hq
    have s0 : Same H (upd (upd H l (.lst (V.str (wS o) :: (r.map V.str ++ [V.str y])))) q (.lst (r.map V.str))) := (same_upd hl).trans (same_upd hq)
    have hq1 : upd (upd H l (.lst (V.str (wS o) :: (r.map V.str ++ [V.str y])))) q (.lst (r.map V.str)) q = some (.lst (r.map V.str)) := upd_same
    have hl1 : upd (upd H l (.lst (V.str (wS o) :: (r.map V.str ++ [V.str y])))) q (.lst (r.map V.str)) l = some (.lst (V.str (wS o) :: (r.map V.str ++ [V.str y]))) := by rw [upd_ne nlq]; exact upd_same
    generalize upd (upd H l (.lst (V.str (wS o) :: (r.map V.str ++ [V.str y])))) q (.lst (r.map V.str)) = H1 at s0 hq1 hl1 ⊢
    refine blk_list (xs := r.map V.str) (fun i acc H2 => ∃ (ps : List Addr) (ds : List CondA), acc = ps.map V.ref ∧ Same H1 H2 ∧ ps.length = i ∧ r.take i = ds.map condT ∧ ∀ d ∈ ds, d.ok) ⟨[], [], rfl, Same.refl H1, rfl, rfl, fun d hd => by simp at hd⟩ (fun i acc H2 _ ⟨ps, ds, _, sm, _⟩ => SqL.of (sm _ _ hq1)) ?_ ?_
    · rintro i v acc H2 hv ⟨ps, ds, rfl, sm, lp, et, oks⟩
      rw [List.getElem?_map] at hv
      obtain ⟨u, eu, rfl⟩ := Option.map_eq_some_iff.mp hv
      have hi : i < r.length := (List.getElem?_eq_some_iff.mp eu).1
      refine ⟨⟨[some (.str u)], rfl, rfl⟩, by rw [List.length_map, lp]; exact Nat.lt_of_lt_of_le hi (Nat.le_trans lr (by decide)), ?_⟩
      refine tyes ⟨_, rfl, ?_⟩
      by_cases hu : ∃ d, CoR u d
      · obtain ⟨d, od, rfl⟩ := hu
        refine .inl ⟨d, rfl, od, fun p H3 s3 hp => ⟨ps ++ [p], ds ++ [d], by rw [List.map_append]; rfl, sm.trans s3, by rw [List.length_append, lp]; rfl, by rw [List.take_add_one, eu, et, List.map_append]; rfl, fun e he => ?_⟩⟩
        rcases List.mem_append.mp he with q' | q'
        · exact oks e q'
        · rw [List.mem_singleton.mp q']; exact od
      · exact .inr ⟨u, rfl, Nat.le_trans (ple u (by simp [List.mem_of_getElem? eu])) (by omega), fun d hd => hu ⟨d, hd⟩, fun H3 s3 => ke H3 ((s0.trans sm).trans s3)⟩
    · rintro acc H2 ⟨ps, ds, rfl, sm, lp, et, oks⟩ r' nr
      rw [List.length_map, List.take_length] at et
      refine ⟨r', _, rfl, .inl ⟨SqL.of upd_same, fun t ht => ?_⟩⟩
      have s3 : Same H1 (upd (upd H2 r' (.lst (ps.map V.ref))) t (.tup (ps.map V.ref))) := (sm.trans (same_upd nr)).trans (same_upd ht)
      generalize upd (upd H2 r' (.lst (ps.map V.ref))) t (.tup (ps.map V.ref)) = H3 at s3 ⊢
      refine ⟨_, rfl, _, rfl, _, rfl, _, rfl, l, _, _, _, rfl, rfl, SqL.of (s3 _ _ hl1), at_last _ _ _, .inr ⟨y, rfl, Nat.le_trans (ple y (by simp)) (by omega), fun d hd => ?_, ke _ (s0.trans s3)⟩⟩
      obtain ⟨od, rfl⟩ := hd
      refine no ⟨o, ds, d⟩ ⟨⟨oo, od, ?_, oks⟩, ?_⟩
      · have := congrArg List.length et
        rw [List.length_map] at this
        show ds.length ≤ 1000
        omega
      · rw [← jn, et, show Str.ofString " " = (⟨#[32]⟩ : Str) by decide +kernel]
        rfl
theorem ok_cb {f : Addr} {fd : FuncData} (F : Fun K "read_clause" "read_clause" s_read_clause f fd) (T : Top K mg a) (C_0 : Cal P w K mg base CX0 1 "read_state" p_read_state spRS) (C_1 : Cal P w K mg base CX0 2 "read_wanted" p_read_wanted spRW) (C_2 : Cal P w K mg base CX0 4 "read_condition" p_read_condition (spRCond a)) (C_3 : Cal P w K mg base (CXE P w) 1 "read_state" p_read_state (spRSb a)) (C_4 : Cal P w K mg base (CXE P w) 2 "read_wanted" p_read_wanted (spRWb a)) (C_5 : Cal P w K mg base (CXE P w) 4 "read_condition" p_read_condition (spRCb a)) (C_Clause : CalC P w K mg base CX0 1 "Clause" a.c_Clause p_Clause_init (spClInit a)) : FnOk P w K mg base (CXE P w) 5 f fd p_read_clause (spCb a) := (ok_rc F T C_0 C_1 C_2 C_Clause).up.or (ok_cln F T C_3 C_4 C_5 C_Clause)
/-! ### rules -/
inductive SpCTn (vs : List V) (H : Hp) (Q : VK) : Prop
  | mk (z : Str) (_ : vs = [.str z]) (_ : z.length ≤ 900) (_ : z.length ≠ 0) (_ : ∀ (l : Addr) (H' : Hp), Same H H' → H' l = some (.lst ((Txt.split z markT).map V.str)) → Q (.ref l) H') : SpCTn vs H Q
def spCTn : Sp := fun vs H Q _ => SpCTn vs H Q
theorem ok_ctn {f : Addr} {fd : FuncData} (F : Fun K "clause_texts" "clause_texts" s_clause_texts f fd) (T : Top K mg a) : FnOk P w K mg base CX0 1 f fd p_clause_texts spCTn := by
  refine F.ok sc_clause_texts (fun vs H Q E h => ?_) (fun cdv A outer s H vs Q E hr h => ?_)
  · obtain ⟨z, rfl, _⟩ := h
    rfl
  · obtain ⟨z, rfl, lz, l0, k⟩ := h
    refine ⟨_, (@pss_cons _ _ _ _ _ (@ps_if _ _ _ _ _ _ _ _ (@pt_cmpR _ _ _ _ _ _ _ _ (@op_eq _) (pv 0) (@pe_str _ _ _ _) (nomark _)) (@pss_one _ _ _ (@ps_ret _ _ _ _ (@pe_lst _ _ _ _ (@pa_nil _)))) (@pss_nil _)) (@pss_one _ _ _ (@ps_ret _ _ _ _ (@pe_bm _ _ _ _ _ _ _ _ _ _ _ _ PySem.F.plainAttrs_str PySem.F.slot_str_split PySem.F.type_str_split (@mt_split _) (pv 0) (@pa_cons _ _ _ _ _ (@pe_gstr _ _ _ _ rfl T.k_CLAUSE_MARK (by decide)) (@pa_nil _) rfl) rfl rfl rfl rfl rfl)))), ?_⟩
    try dsimp only [cxK]
    refine ⟨_, rfl, rfl, _, rfl, ?_⟩
    rw [decide_eq_false (by
      intro e
      injection e with e
      rw [e] at l0
      exact l0 (by decide +kernel))]
    refine iteF ⟨_, rfl, rfl, _, _, rfl, rfl, (by decide +kernel), (by omega), fun l hl => ?_⟩
    have em : Str.ofString "; " = markT := by decide +kernel
    rw [em]
    exact k l _ (same_upd hl) upd_same
inductive SpRIn (a : Ad) (vs : List V) (H : Hp) (E : XK) : Prop
  | mk (p dx : Addr) (z : Str) (_ : vs = [.ref p, .str z]) (_ : H p = some (.ins a.c_Rule dx [])) (_ : z.length ≤ 900) (_ : ∀ r, ¬ RuR z r) (_ : ∀ H', (∀ b o, H b = some o → b ≠ p → H' b = some o) → E (.ref a.x_NoRule) none H') : SpRIn a vs H E
def spRIn (a : Ad) : Sp := fun vs H _ E => SpRIn a vs H E
def spRIb (a : Ad) : Sp := fun vs H Q E => spRI a vs H Q E ∨ spRIn a vs H Q E
theorem ok_rin {f : Addr} {fd : FuncData} (F : Fun K "__init__" "Rule.__init__" s_Rule_init f fd) (T : Top K mg a) (C_clause_texts : Cal P w K mg base CX0 1 "clause_texts" p_clause_texts spCTn) (C_read_clause : Cal P w K mg base (CXE P w) 5 "read_clause" p_read_clause (spCb a)) : FnOk P w K mg base (CXE P w) 6 f fd p_Rule_init (spRIn a) := by
  refine F.okE sc_Rule_init (fun vs H Q E h => ?_) (fun cdv A outer s H vs Q E hr h => ?_)
  · obtain ⟨p, dx, z, rfl, _⟩ := h
    rfl
  · obtain ⟨p, dx, z, rfl, hp, lz, no, ke⟩ := h
    refine ⟨_, (@pss_cons _ _ _ _ _ (@ps_fld _ _ _ _ _ _ _ _ (pv 0) (pv 1) rfl) (@pss_one _ _ _ (@ps_fld _ _ _ _ _ _ _ _ (pv 0) (@pe_callTy _ _ _ _ _ _ _ _ _ (@call_tuple_of _) rfl T.b_tuple PyProof.Rows.boot_tuple (@pa_cons _ _ _ _ _ (@pe_compE _ _ _ _ _ _ _ _ _ _ _ _ _ _ _ _ _ _ _ _ _ _ _ _ _ _ _ _ (@CScope.of _ ((defScope s_Rule_init)) (n_Rule_init) _ (["part"]) (1) ([]) rfl rfl (by decide +kernel)) (@pi_list _ _ _ _ (@pe_cal _ _ _ _ _ _ _ _ _ _ _ _ C_clause_texts (rm hr) rfl pass0 (@pa_cons _ _ _ _ _ (pv 1) (@pa_nil _) rfl) (by decide) rfl rfl)) (fun _ _ _ => (@pgc_name _ _ _ _ _ _ _ _ (0) (by decide +kernel) rfl rfl)) (fun _ _ _ => (@pts_nil _)) (fun _ _ _ _ pass => (@pe_cal _ _ _ _ _ _ _ _ _ _ _ _ C_read_clause (rm hr) rfl pass (@pa_cons _ _ _ _ _ (pv 0) (@pa_nil _) rfl) (by decide) rfl rfl)) (by intro _ ; rfl)) (@pa_nil _) rfl) (by decide) (by decide) rfl rfl) rfl))), ?_⟩
    try dsimp only [cxK]
    refine ⟨_, rfl, _, rfl, p, _, dx, [], rfl, hp, T.cl_Rule, T.na_Rule_text, (by show 0 < 1000; decide), ?_⟩
    have k1 : ∀ b o, H b = some o → b ≠ p → upd H p (.ins a.c_Rule dx (putF "text" (.str z) [])) b = some o := fun b o e n => by rw [upd_ne n]; exact e
    generalize upd H p (.ins a.c_Rule dx (putF "text" (.str z) [])) = H1 at k1 ⊢
    have l0 : z.length ≠ 0 := fun e => no [] ⟨⟨by show 0 ≤ 1000; decide, fun c hc => by simp at hc, by show (ruleT []).length ≤ 60000; decide +kernel⟩, Nu.ext (by
      rw [Nu.len] at e
      rw [List.length_eq_zero_iff.mp e]
      rfl)⟩
    refine ⟨_, rfl, z, rfl, lz, l0, fun l H2 s2 hl => ⟨l, rfl, ⟨_, SqL.of hl⟩, ?_⟩⟩
    have sle : (Txt.split z markT).length ≤ z.length + 2 := PyProof.Rows.split_le z _
    have jn := StrLaws.join_split z markT
    have ple : ∀ q ∈ Txt.split z markT, q.length ≤ z.length := fun q hq => part_le hq
    generalize Txt.split z markT = W at sle jn ple hl ⊢
    refine blk_list (xs := W.map V.str) (fun i acc H3 => ∃ (ps : List Addr) (r : RuleA), acc = ps.map V.ref ∧ Same H2 H3 ∧ ps.length = i ∧ W.take i = r.map clauseT ∧ ∀ c ∈ r, c.ok) ⟨[], [], rfl, Same.refl H2, rfl, rfl, fun d hd => by simp at hd⟩ (fun i acc H3 _ ⟨ps, r, _, sm, _⟩ => SqL.of (sm _ _ hl)) ?_ ?_
    · rintro i v acc H3 hv ⟨ps, r, rfl, sm, lp, et, oks⟩
      rw [List.getElem?_map] at hv
      obtain ⟨u, eu, rfl⟩ := Option.map_eq_some_iff.mp hv
      have hi : i < W.length := (List.getElem?_eq_some_iff.mp eu).1
      refine ⟨⟨[some (.str u)], rfl, rfl⟩, by rw [List.length_map, lp]; exact Nat.lt_of_lt_of_le hi (Nat.le_trans sle (Nat.le_trans (Nat.add_le_add_right lz 2) (by decide))), ?_⟩
      refine tyes ⟨_, rfl, ?_⟩
      by_cases hu : ∃ c, ClR u c
      · obtain ⟨c, oc, rfl⟩ := hu
        refine .inl ⟨c, rfl, oc, fun q H4 s4 hq => ⟨ps ++ [q], r ++ [c], by rw [List.map_append]; rfl, sm.trans s4, by rw [List.length_append, lp]; rfl, by rw [List.take_add_one, eu, et, List.map_append]; rfl, fun e he => ?_⟩⟩
        rcases List.mem_append.mp he with q' | q'
        · exact oks e q'
        · rw [List.mem_singleton.mp q']; exact oc
      · exact .inr ⟨u, rfl, Nat.le_trans (ple u (List.mem_of_getElem? eu)) lz, fun c hc => hu ⟨c, hc⟩, fun H4 s4 => ke H4 fun b o e n => s4 _ _ (sm _ _ (s2 _ _ (k1 b o e n)))⟩
    · rintro acc H3 ⟨ps, r, rfl, sm, lp, et, oks⟩ q nq
      exfalso
      rw [List.length_map, List.take_length] at et
      have ez : z = ruleT r := by rw [← jn, et]; rfl
      refine no r ⟨⟨?_, oks, by rw [← ez]; omega⟩, ez⟩
      have := congrArg List.length et
      rw [List.length_map] at this
      omega
theorem ok_rib {f : Addr} {fd : FuncData} (F : Fun K "__init__" "Rule.__init__" s_Rule_init f fd) (T : Top K mg a) (C_0 : Cal P w K mg base CX0 1 "clause_texts" p_clause_texts spCT) (C_1 : Cal P w K mg base CX0 5 "read_clause" p_read_clause (spRC a)) (C_2 : Cal P w K mg base CX0 1 "clause_texts" p_clause_texts spCTn) (C_3 : Cal P w K mg base (CXE P w) 5 "read_clause" p_read_clause (spCb a)) : FnOk P w K mg base (CXE P w) 6 f fd p_Rule_init (spRIb a) := (ok_ri F T C_0 C_1).up.or (ok_rin F T C_2 C_3)
/-- a thing read as a rule: a rule, one by which something comes of nothing, no rule, no text -/
inductive SpRRn (K : PySem.W.Frag) (a : Ad) (vs : List V) (H : Hp) (E : XK) : Prop
  | no (z : Str) (_ : vs = [.str z]) (_ : z.length ≤ 900) (_ : ∀ r, ¬ RuR z r) (_ : ∀ H', Same H H' → E (.ref a.x_NoRule) none H') : SpRRn K a vs H E
  | rest (r : RuleA) (_ : vs = [.str (ruleT r)]) (_ : ROkT r) (_ : becA r 0 zeros8 ≠ 0) (_ : ∀ H', Same H H' → E (.ref a.x_Restless) none H') : SpRRn K a vs H E
  | thing (v : V) (t : Value) (_ : vs = [v]) (_ : TyX K H v t) (_ : PySem.W.kitOne K t (.type "str") = some false) (_ : E (.ref a.x_NoRule) none H) : SpRRn K a vs H E
def spRRn (K : PySem.W.Frag) (a : Ad) : Sp := fun vs H _ E => SpRRn K a vs H E
def spRRb (K : PySem.W.Frag) (a : Ad) : Sp := fun vs H Q E => spRR a vs H Q E ∨ spRRn K a vs H Q E
theorem ok_rrn {f : Addr} {fd : FuncData} (F : Fun K "read_rule" "read_rule" s_read_rule f fd) (T : Top K mg a) (C_Rule : CalC P w K mg base (CXE P w) 6 "Rule" a.c_Rule p_Rule_init (spRIb a)) (C_becomes : Cal P w K mg base CX0 5 "becomes" p_becomes (spBec a)) : FnOk P w K mg base (CXE P w) 8 f fd p_read_rule (spRRn K a) := by
  refine F.okE sc_read_rule (fun vs H Q E h => ?_) (fun cdv A outer s H vs Q E hr h => ?_)
  · rcases h with ⟨z, rfl, _⟩ | ⟨r, rfl, _⟩ | ⟨v, t, rfl, _⟩ <;> rfl
  · refine ⟨_, (@pss_cons _ _ _ _ _ (@ps_if _ _ _ _ _ _ _ _ (@pt_not _ _ _ _ (@pt_val _ _ _ (@pe_callB _ _ _ _ _ _ _ _ _ (@call_isi _) rfl T.b_isinstance PyProof.Rows.boot_isinstance (@pa_cons _ _ _ _ _ (pv 0) (@pa_cons _ _ _ _ _ (@pe_bltn _ _ ((.ty "str")) _ _ rfl T.b_str PyProof.Rows.boot_str rfl (by decide) (by decide)) (@pa_nil _) rfl) rfl) (by decide) (by decide) rfl rfl) (by intro _ ; rfl))) (@pss_one _ _ _ (@ps_raise _ _ _ _ _ _ _ _ _ _ raisesE rfl rfl T.mx_NoRule T.ec_NoRule (@pa_str _ _ _ _ _ _ (@pa_nil _)) (by decide) rfl rfl)) (@pss_nil _)) (@pss_cons _ _ _ _ _ (@ps_set _ _ (1) _ _ _ _ sc_read_rule.nd rfl (Or.inl rfl) (@pe_calC _ _ _ _ _ _ _ _ _ _ _ _ _ C_Rule (rm hr) rfl passE (@pa_cons _ _ _ _ _ (pv 0) (@pa_nil _) rfl) (by decide) rfl rfl) rfl (by first | exact .inl rfl | exact .inr rfl | assumption)) (@pss_cons _ _ _ _ _ (@ps_if _ _ _ _ _ _ _ _ (@pt_cmpR _ _ _ _ _ _ _ _ (@op_ne _) (@pe_cal _ _ _ _ _ _ _ _ _ _ _ _ C_becomes (rm hr) rfl pass0 (@pa_cons _ _ _ _ _ (pv 1) (@pa_int _ _ _ _ _ _ (@pa_op _ _ _ _ _ _ _ _ _ _ (@op_rep _) (@pe_lst _ _ _ _ (@pa_int _ _ _ _ _ _ (@pa_nil _))) (@pe_gint _ _ _ _ rfl T.k_NEIGHBOURS (by decide)) (@pa_nil _))) rfl) (by decide) rfl rfl) (@pe_int _ _ _ _) (nomark _)) (@pss_one _ _ _ (@ps_raise _ _ _ _ _ _ _ _ _ _ raisesE rfl rfl T.mx_Restless T.ec_Restless (@pa_str _ _ _ _ _ _ (@pa_nil _)) (by decide) rfl rfl)) (@pss_nil _)) (@pss_one _ _ _ (@ps_ret _ _ _ _ (pv 1)))))), ?_⟩
    rcases h with ⟨z, rfl, lz, no, ke⟩ | ⟨r, rfl, ho, hz, ke⟩ | ⟨v, t, rfl, ty, kt, ke⟩
    · refine ⟨_, rfl, _, _, _, .type "str", true, rfl, rfl, .of (.str _), str_isi K, true, rfl, ?_⟩
      refine iteF ⟨_, rfl, ?_⟩
      intro x dx nx ndx nex
      refine .inr ⟨x, dx, z, rfl, upd_same, lz, no, fun H2 kp => ke H2 fun b o e => kp b o (by rw [upd_ne (ne_of_none e nx), upd_ne (ne_of_none e ndx)]; exact e) (ne_of_none e nx)⟩
    · refine ⟨_, rfl, _, _, _, .type "str", true, rfl, rfl, .of (.str _), str_isi K, true, rfl, ?_⟩
      refine iteF ⟨_, rfl, ?_⟩
      intro x dx nx ndx nex
      refine .inl ⟨x, dx, r, rfl, upd_same, ho, fun H2 kp hR => ⟨rfl, ?_⟩⟩
      have s2 : Same H H2 := fun b o e => kp b o (by rw [upd_ne (ne_of_none e nx), upd_ne (ne_of_none e ndx)]; exact e) (ne_of_none e nx)
      refine ⟨_, rfl, (by show 1 ≤ sizeLine; decide), fun l hl => ?_⟩
      refine ⟨l, 8, _, rfl, rfl, upd_same, (by decide), (by decide), (by decide), fun m hm => ?_⟩
      have s3 := (s2.trans (same_upd (o := .lst [.int 0]) hl)).trans (same_upd (o := .lst (zeros8.map V.int)) hm)
      have s23 := (same_upd (o := .lst [.int 0]) hl).trans (same_upd (o := .lst (zeros8.map V.int)) hm)
      refine ⟨x, m, _, r, 0, zeros8, rfl, hR.same s23, ho.rok, upd_same, fun H4 s4 => ?_⟩
      refine ⟨rfl, _, rfl, ?_⟩
      rw [decide_eq_false (by intro e; injection e with e; exact hz e)]
      exact iteT ⟨by show 1 ≤ 100; decide, ke H4 (s3.trans s4)⟩
    · exact ⟨_, rfl, _, _, _, t, false, rfl, rfl, ty, kt, false, rfl, iteT ⟨by show 1 ≤ 100; decide, ke⟩⟩
theorem ok_rrb {f : Addr} {fd : FuncData} (F : Fun K "read_rule" "read_rule" s_read_rule f fd) (T : Top K mg a) (C_0 : CalC P w K mg base CX0 6 "Rule" a.c_Rule p_Rule_init (spRI a)) (C_1 : CalC P w K mg base (CXE P w) 6 "Rule" a.c_Rule p_Rule_init (spRIb a)) (C_becomes : Cal P w K mg base CX0 5 "becomes" p_becomes (spBec a)) : FnOk P w K mg base (CXE P w) 8 f fd p_read_rule (spRRb K a) := (ok_rr F T C_0 C_becomes).up.or (ok_rrn F T C_1 C_becomes)
end
end J

set_option maxHeartbeats 200000
set_option Elab.async false
set_option linter.all false
set_option maxRecDepth 100000
set_option maxHeartbeats 4000000
/-! The law's own reader. -/
namespace J
open PySem L2
theorem find_no {S : Str} {c : Nat} (h : c ∉ S.cps.toList) : Txt.find S ⟨#[c]⟩ = -1 := by
  have e := StrLaws.found_one S c
  rw [decide_eq_false h] at e
  unfold Txt.find
  cases q : Builtin.Str.occurrences S ⟨#[c]⟩ 0 S.length 1 with
  | nil => rfl
  | cons x r => rw [q] at e; cases e
theorem find_st {d : Int} (h : stOk d) : Txt.find (Str.ofString "01234567") (sgD d) = d := by
  rcases eight h with rfl | rfl | rfl | rfl | rfl | rfl | rfl | rfl <;> decide +kernel
theorem find_wa {x : Option Int} (h : wOk x) : Txt.find (Str.ofString "01234567*") (wS x) = unO x := by
  cases x with
  | none => decide +kernel
  | some d =>
    have h : stOk d := h
    rcases eight h with rfl | rfl | rfl | rfl | rfl | rfl | rfl | rfl <;> decide +kernel
theorem find_am {d : Int} (h0 : 0 ≤ d) (h1 : d ≤ 8) : Txt.find (Str.ofString "012345678") ⟨#[48 + d.toNat]⟩ = d := by
  rcases nine h0 h1 with rfl | rfl | rfl | rfl | rfl | rfl | rfl | rfl | rfl <;> decide +kernel
theorem sign_wa {c : Nat} (h : ∀ x, ¬ WaR ⟨#[c]⟩ x) : c ∉ (Str.ofString "01234567*").cps.toList := fun m => by
  have e : (Str.ofString "01234567*").cps.toList = [48, 49, 50, 51, 52, 53, 54, 55, 42] := by decide +kernel
  rw [e] at m
  by_cases q : c = 42
  · subst q
    exact h none ⟨trivial, rfl⟩
  · have : 48 ≤ c ∧ c ≤ 55 := by
      simp only [List.mem_cons, List.not_mem_nil, or_false] at m
      omega
    refine h (some ((c : Int) - 48)) ⟨⟨by omega, by omega⟩, ?_⟩
    show (⟨#[c]⟩ : Str) = ⟨#[48 + ((c : Int) - 48).toNat]⟩
    rw [show 48 + ((c : Int) - 48).toNat = c by omega]
theorem cut12 (x : Str) : (Txt.slice x (some 1) (some 2)).cps.toList = (x.cps.toList.drop 1).take 1 := by
  by_cases h : 2 ≤ x.length
  · rw [beq_iff_eq.mp (PyProof.Rows.slice_closes (x := x) (i := 1) (j := 2) ⟨by decide, by decide, by rw [← Nu.len]; omega⟩)]
    rfl
  · have z := Txt.slice_le x (some 1) (some 2)
    have e : x.cps.toList.drop 1 = [] := List.drop_eq_nil_of_le (by rw [← Nu.len]; omega)
    rw [e]
    obtain ⟨⟨l⟩⟩ := x
    match l, h with
    | [], _ => rfl
    | [c], _ =>
      unfold Txt.slice
      rw [show (⟨⟨[c]⟩⟩ : Str).length = 1 from rfl, show Builtin.Str.strSliceIndices (some 1) (some 2) 1 1 = [] by decide]
      rfl
    | c :: d :: r, h => exact absurd (show 2 ≤ (c :: d :: r).length by simp) h
theorem eq_at (z : Str) : decide (V.str (Txt.slice z (some 1) (some 2)) = V.str (Str.ofString "=")) = decide (z.cps.toList[1]? = some 61) := by
  have e61 : Str.ofString "=" = (⟨#[61]⟩ : Str) := by decide +kernel
  rw [e61]
  refine decide_eq_decide.mpr ⟨fun e => ?_, fun e => ?_⟩
  · injection e with e
    have e2 := congrArg (fun q : Str => q.cps.toList) e
    rw [cut12] at e2
    match l : z.cps.toList, e2 with
    | [], e2 => cases e2
    | [c], e2 => cases e2
    | c :: d :: r, e2 =>
      injection e2 with e3
      show some d = _
      rw [e3]
  · congr 1
    refine Nu.ext ?_
    rw [cut12]
    match l : z.cps.toList, e with
    | [], e => cases e
    | [c], e => cases e
    | c :: d :: r, e =>
      injection e with e3
      rw [show d = 61 from e3]
      rfl
def fnd (ch : Nat) : Int := Txt.find (Str.ofString "012345678") ⟨#[ch]⟩
theorem fnd_am {d : Int} (h0 : 0 ≤ d) (h1 : d ≤ 8) : fnd (48 + d.toNat) = d := find_am h0 h1
theorem fnd_or (ch : Nat) : fnd ch = -1 ∨ ∃ d : Int, 0 ≤ d ∧ d ≤ 8 ∧ ch = 48 + d.toNat ∧ fnd ch = d := by
  by_cases m : ch ∈ (Str.ofString "012345678").cps.toList
  · have e9 : (Str.ofString "012345678").cps.toList = [48, 49, 50, 51, 52, 53, 54, 55, 56] := by decide +kernel
    rw [e9] at m
    have : 48 ≤ ch ∧ ch ≤ 56 := by
      simp only [List.mem_cons, List.not_mem_nil, or_false] at m
      omega
    have e : ch = 48 + ((ch : Int) - 48).toNat := by omega
    refine .inr ⟨(ch : Int) - 48, by omega, by omega, e, ?_⟩
    have := fnd_am (d := (ch : Int) - 48) (by omega) (by omega)
    rw [← e] at this
    exact this
  · exact .inl (find_no m)
theorem fnd_all {ns : List Int} (rg : ∀ n ∈ ns, 0 ≤ n ∧ n ≤ 8) : (ns.map fun n => 48 + n.toNat).map fnd = ns := by
  induction ns with
  | nil => rfl
  | cons n r ih =>
    rw [List.map_cons, List.map_cons, ih fun x hx => rg x (List.mem_cons_of_mem _ hx), fnd_am (rg n (by simp)).1 (rg n (by simp)).2]
theorem fnd_back {r : List Nat} (h : ∀ n ∈ r.map fnd, 0 ≤ n) : r = ((r.map fnd).map fun n => 48 + n.toNat) ∧ ∀ n ∈ r.map fnd, 0 ≤ n ∧ n ≤ 8 := by
  induction r with
  | nil => exact ⟨rfl, fun n hn => by simp at hn⟩
  | cons c r ih =>
    obtain ⟨i1, i2⟩ := ih fun n hn => h n (List.mem_cons_of_mem _ hn)
    have hc := h (fnd c) (by simp)
    rcases fnd_or c with q | ⟨d, d0, d8, e, f⟩
    · omega
    · refine ⟨?_, fun n hn => ?_⟩
      · rw [List.map_cons, List.map_cons, ← i1, f, ← e]
      · rcases List.mem_cons.mp hn with q | q
        · rw [q, f]; exact ⟨d0, d8⟩
        · exact i2 n q
theorem co_am {z : Str} {c : Nat} {r : List Nat} {d : CondA} (e : z.cps.toList = c :: 61 :: r) (h : CoR z d) : ∃ s ns, d = .am s ns ∧ StR ⟨#[c]⟩ s ∧ r.map fnd = ns ∧ ns ≠ [] ∧ (∀ n ∈ ns, 0 ≤ n ∧ n ≤ 8) ∧ ns.Pairwise (· < ·) := by
  obtain ⟨ok, rfl⟩ := h
  cases d with
  | am s ns =>
    obtain ⟨os, ne, rg, up⟩ := ok
    have e2 : (condT (.am s ns)).cps.toList = (48 + s.toNat) :: 61 :: ns.map fun n => 48 + n.toNat := by
      show (sgD s ++ ⟨#[61]⟩ ++ digsT ns).cps.toList = _
      rw [Tx.cps_app, Tx.cps_app]
      simp [sgD, digsT]
    rw [e2] at e
    injection e with e3 e4
    injection e4 with _ e5
    exact ⟨s, ns, rfl, ⟨os, by rw [← e3]; rfl⟩, by rw [← e5]; exact fnd_all rg, ne, rg, up⟩
  | pl ws =>
    exfalso
    have m : 61 ∈ ws.map wC := by
      have : (condT (.pl ws)).cps.toList = ws.map wC := rfl
      rw [← this, e]
      simp
    obtain ⟨x, hx, ex⟩ := List.mem_map.mp m
    exact (wC_ne (ok.2 x hx)).1 ex
def nw (ch : Nat) : Int := Txt.find (Str.ofString "01234567*") ⟨#[ch]⟩
theorem nw_or (ch : Nat) : nw ch = -1 ∧ (∀ x, ¬ WaR ⟨#[ch]⟩ x) ∨ ∃ x, WaR ⟨#[ch]⟩ x ∧ nw ch = unO x ∧ ch = wC x := by
  by_cases m : ∃ x, WaR ⟨#[ch]⟩ x
  · obtain ⟨x, ox, ex⟩ := m
    refine .inr ⟨x, ⟨ox, ex⟩, ?_, ?_⟩
    · unfold nw
      rw [ex]
      exact find_wa ox
    · have := congrArg (fun q : Str => q.cps.toList) ex
      simpa [wS] using this
  · exact .inl ⟨find_no (sign_wa fun x hx => m ⟨x, hx⟩), fun x hx => m ⟨x, hx⟩⟩
theorem unO_ge {x : Option Int} (h : wOk x) : 0 ≤ unO x := by
  cases x with
  | none => decide
  | some d => exact (show stOk d from h).1
theorem nw_back {r : List Nat} (h : ∀ n ∈ r.map nw, 0 ≤ n) : ∃ ws : List (Option Int), r = ws.map wC ∧ r.map nw = ws.map unO ∧ ∀ x ∈ ws, wOk x := by
  induction r with
  | nil => exact ⟨[], rfl, rfl, fun x hx => by simp at hx⟩
  | cons c r ih =>
    obtain ⟨ws, i1, i2, i3⟩ := ih fun n hn => h n (List.mem_cons_of_mem _ hn)
    have hc := h (nw c) (by simp)
    rcases nw_or c with ⟨q, _⟩ | ⟨x, ⟨ox, _⟩, e1, e2⟩
    · omega
    · exact ⟨x :: ws, by rw [List.map_cons, ← i1, e2], by rw [List.map_cons, List.map_cons, e1, i2], fun y hy => by
        rcases List.mem_cons.mp hy with q | q
        · rw [q]; exact ox
        · exact i3 y q⟩
theorem nw_all {ws : List (Option Int)} (h : ∀ x ∈ ws, wOk x) : ∀ n ∈ (ws.map wC).map nw, 0 ≤ n := fun n hn => by
  obtain ⟨c, hc, rfl⟩ := List.mem_map.mp hn
  obtain ⟨x, hx, rfl⟩ := List.mem_map.mp hc
  have : nw (wC x) = unO x := find_wa (h x hx)
  rw [this]
  exact unO_ge (h x hx)
theorem co_pl {z : Str} {d : CondA} (n : ¬ z.cps.toList[1]? = some 61) (h : CoR z d) : z.length = 8 ∧ ∀ n ∈ z.cps.toList.map nw, 0 ≤ n := by
  obtain ⟨ok, rfl⟩ := h
  cases d with
  | am s ns =>
    exfalso
    refine n ?_
    show (sgD s ++ ⟨#[61]⟩ ++ digsT ns).cps.toList[1]? = _
    rw [Tx.cps_app, Tx.cps_app]
    simp [sgD]
  | pl ws =>
    refine ⟨?_, nw_all ok.2⟩
    rw [Nu.len]
    show (ws.map wC).length = 8
    rw [List.length_map]
    exact ok.1
theorem up_snoc {ns : List Int} {i : Nat} {n : Int} (e : ns[i]? = some n) (up : (ns.take i).Pairwise (· < ·)) (h : ∀ j m, i = j + 1 → ns[j]? = some m → m < n) : (ns.take (i + 1)).Pairwise (· < ·) := by
  rw [List.take_add_one, e]
  refine List.pairwise_append.mpr ⟨up, List.pairwise_singleton _ _, fun x hx y hy => ?_⟩
  rw [show y = n by simpa using hy]
  cases i with
  | zero => simp at hx
  | succ j =>
    have hj : j < ns.length := by have := (List.getElem?_eq_some_iff.mp e).1; omega
    have em : ns[j]? = some ns[j] := List.getElem?_eq_getElem hj
    have lt := h j _ rfl em
    rw [List.take_add_one, em] at hx up
    rcases List.mem_append.mp hx with q | q
    · have := (List.pairwise_append.mp up).2.2 x q ns[j] (by simp)
      omega
    · rw [show x = ns[j] by simpa using q]; exact lt
section
variable {P : Program} {w : World} {K : PySem.W.Frag} {mg : Str → Option Value} {base : Heap} {a : Ad}
inductive SpLn (vs : List V) (H : Hp) (Q : VK) : Prop
  | st (z : Str) (_ : vs = [.str z, .str (Str.ofString "01234567")]) (_ : z.length ≤ 6000) (_ : ∀ d, StR z d → Q (.int d) H) (_ : (∀ d, ¬ StR z d) → Q (.int (-1)) H) : SpLn vs H Q
  | wa (z : Str) (_ : vs = [.str z, .str (Str.ofString "01234567*")]) (_ : z.length ≤ 6000) (_ : ∀ x, WaR z x → Q (.int (unO x)) H) (_ : (∀ x, ¬ WaR z x) → Q (.int (-1)) H) : SpLn vs H Q
def spLn : Sp := fun vs H Q _ => SpLn vs H Q
theorem ok_ln {f : Addr} {fd : FuncData} (F : Fun K "_law_number" "_law_number" s__law_number f fd) (T : Top K mg a) : FnOk P w K mg base CX0 1 f fd p__law_number spLn := by
  refine F.ok sc__law_number (fun vs H Q E h => ?_) (fun cdv A outer s H vs Q E hr h => ?_)
  · rcases h with ⟨z, rfl, _⟩ | ⟨z, rfl, _⟩ <;> rfl
  · refine ⟨_, (@pss_cons _ _ _ _ _ (@ps_if _ _ _ _ _ _ _ _ (@pt_cmpR _ _ _ _ _ _ _ _ (@op_ne _) (@pe_callB _ _ _ _ _ _ _ _ _ (@call_len_str _) rfl T.b_len PySem.boot_len (@pa_cons _ _ _ _ _ (pv 0) (@pa_nil _) rfl) (by decide) (by decide) rfl rfl) (@pe_int _ _ _ _) (nomark _)) (@pss_one _ _ _ (@ps_ret _ _ _ _ (@pe_un _ _ _ _ _ _ (@un_neg _) (@pe_int _ _ _ _)))) (@pss_nil _)) (@pss_one _ _ _ (@ps_ret _ _ _ _ (@pe_bm _ _ _ _ _ _ _ _ _ _ _ _ PySem.F.plainAttrs_str PySem.F.slot_str_find PySem.F.type_str_find (@mt_find _) (pv 1) (@pa_cons _ _ _ _ _ (pv 0) (@pa_nil _) rfl) rfl rfl rfl rfl rfl)))), ?_⟩
    rcases h with ⟨z, rfl, lz, k1, k2⟩ | ⟨z, rfl, lz, k1, k2⟩
    · refine ⟨_, rfl, _, rfl, Nat.le_trans lz (by decide), rfl, _, rfl, ?_⟩
      by_cases l1 : z.length = 1
      · rw [l1]
        refine iteNS rfl ⟨_, rfl, rfl, _, rfl, _, _, rfl, rfl, ?_⟩
        by_cases hd : ∃ d, StR z d
        · obtain ⟨d, od, rfl⟩ := hd
          rw [find_st od]
          exact k1 d ⟨od, rfl⟩
        · obtain ⟨c, rfl⟩ := one_sign l1
          rw [find_no (sign_st fun d q => hd ⟨d, q⟩)]
          exact k2 fun d q => hd ⟨d, q⟩
      · rw [decide_eq_false (by intro e; injection e with e; omega)]
        exact iteT ⟨_, rfl, k2 fun d q => l1 (by rw [q.2]; rfl)⟩
    · refine ⟨_, rfl, _, rfl, Nat.le_trans lz (by decide), rfl, _, rfl, ?_⟩
      by_cases l1 : z.length = 1
      · rw [l1]
        refine iteNS rfl ⟨_, rfl, rfl, _, rfl, _, _, rfl, rfl, ?_⟩
        by_cases hd : ∃ d, WaR z d
        · obtain ⟨d, od, rfl⟩ := hd
          rw [find_wa od]
          exact k1 d ⟨od, rfl⟩
        · obtain ⟨c, rfl⟩ := one_sign l1
          rw [find_no (sign_wa fun d q => hd ⟨d, q⟩)]
          exact k2 fun d q => hd ⟨d, q⟩
      · rw [decide_eq_false (by intro e; injection e with e; omega)]
        exact iteT ⟨_, rfl, k2 fun d q => l1 (by rw [q.2]; rfl)⟩
inductive SpLc (vs : List V) (H : Hp) (Q : VK) : Prop
  | mk (z : Str) (_ : vs = [.str z]) (_ : z.length ≤ 900) (_ : ∀ d, CoR z d → ∀ q H', Same H H' → LCondAt H' q d → Q (.ref q) H') (_ : (∀ d, ¬ CoR z d) → ∀ H', Same H H' → Q .non H') : SpLc vs H Q
def spLc : Sp := fun vs H Q _ => SpLc vs H Q
theorem ok_lc {f : Addr} {fd : FuncData} (F : Fun K "_law_condition_read" "_law_condition_read" s__law_condition_read f fd) (T : Top K mg a) (C__law_number : Cal P w K mg base CX0 1 "_law_number" p__law_number spLn) : FnOk P w K mg base CX0 2 f fd p__law_condition_read spLc := by
  refine F.ok sc__law_condition_read (fun vs H Q E h => ?_) (fun cdv A outer s H vs Q E hr h => ?_)
  · obtain ⟨z, rfl, _⟩ := h
    rfl
  · obtain ⟨z, rfl, lz, k1, k2⟩ := h
    refine ⟨_, (@pss_cons _ _ _ _ _ (@ps_if _ _ _ _ _ _ _ _ (@pt_cmpR _ _ _ _ _ _ _ _ (@op_eq _) (@pe_slice _ _ _ _ _ _ _ _ _ _ (@sl_str _) (pv 0) (@po_some _ _ _ (@pe_int _ _ _ _)) (@po_some _ _ _ (@pe_int _ _ _ _))) (@pe_str _ _ _ _) (nomark _)) (@pss_cons _ _ _ _ _ (@ps_setComp _ _ _ _ _ _ _ _ _ _ _ _ _ _ (1) _ _ _ rfl sc__law_condition_read.nd rfl rfl (@CScope.of _ ((defScope s__law_condition_read)) (n__law_condition_read) _ (["_law_sign"]) (1) ([]) rfl rfl (by decide +kernel)) (@pi_str _ _ _ _ (@pe_slice _ _ _ _ _ _ _ _ _ _ (@sl_str _) (pv 0) (@po_some _ _ _ (@pe_int _ _ _ _)) (@po_none _))) (fun _ _ _ => (@pgc_name _ _ _ _ _ _ _ _ (0) (by decide +kernel) rfl rfl)) (fun _ _ _ => (@pts_nil _)) (fun _ _ _ => (@pe_bmK _ (K) _ _ _ _ _ _ _ _ _ _ _ rfl PySem.F.plainAttrs_str PySem.F.slot_str_find PySem.F.type_str_find (@mt_find _) (@pe_str _ _ _ _) (@pa_cons _ _ _ _ _ (pv 0) (@pa_nil _) rfl) rfl rfl rfl rfl rfl)) rfl (by intro _ ; rfl)) (@pss_cons _ _ _ _ _ (@ps_for _ _ _ _ _ _ _ _ PassesOwn.never rfl (@pi_range1 _ _ _ _ _ _ rfl T.b_range (@pa_cons _ _ _ _ _ (@pe_callB _ _ _ _ _ _ _ _ _ (@call_len_seq _) rfl T.b_len PySem.boot_len (@pa_cons _ _ _ _ _ (pv 1) (@pa_nil _) rfl) (by decide) (by decide) rfl rfl) (@pa_nil _) rfl) rfl) (@pg_name _ _ (2) _ sc__law_condition_read.nd rfl (Or.inl rfl) (by first | exact .inl rfl | exact .inr rfl | assumption)) (@pss_one _ _ _ (@ps_if _ _ _ _ _ _ _ _ (@PW.pt _ _ _ (@pw_or _ _ _ _ _ _ _ (@pt_cmpR _ _ _ _ _ _ _ _ (@op_lt _) (@pe_ix _ _ _ _ _ _ _ (@ix_list _) (pv 1) (pv 2) (fun _ _ => rfl)) (@pe_int _ _ _ _) (nomark _)) (@pw_or1 _ _ _ _ (@PW.pt _ _ _ (@pw_and _ _ _ _ _ _ _ (@pt_cmpR _ _ _ _ _ _ _ _ (@op_gt _) (pv 2) (@pe_int _ _ _ _) (nomark _)) (@pw_and1 _ _ _ _ (@pt_cmpR _ _ _ _ _ _ _ _ (@op_le _) (@pe_ix _ _ _ _ _ _ _ (@ix_list _) (pv 1) (pv 2) (fun _ _ => rfl)) (@pe_ix _ _ _ _ _ _ _ (@ix_list _) (pv 1) (@pe_op _ _ _ _ _ _ _ _ (@op_sub _) (pv 2) (@pe_int _ _ _ _)) (fun _ _ => rfl)) (nomark _)))))))) (@pss_one _ _ _ (@ps_ret _ _ _ _ (@pe_non _ _ _))) (@pss_nil _))) (by intro _ ; rfl)) (@pss_cons _ _ _ _ _ (@ps_if _ _ _ _ _ _ _ _ (@PW.pt _ _ _ (@pw_or _ _ _ _ _ _ _ (@pt_cmpR _ _ _ _ _ _ _ _ (@op_eq_nil _ hr.units) (pv 1) (@pe_lst _ _ _ _ (@pa_nil _)) (nomark _)) (@pw_or1 _ _ _ _ (@pt_cmpR _ _ _ _ _ _ _ _ (@op_lt _) (@pe_cal _ _ _ _ _ _ _ _ _ _ _ _ C__law_number (rm hr) rfl pass0 (@pa_cons _ _ _ _ _ (@pe_ix _ _ _ _ _ _ _ (@ix_str _) (pv 0) (@pe_int _ _ _ _) (fun _ _ => rfl)) (@pa_str _ _ _ _ _ _ (@pa_nil _)) rfl) (by decide) rfl rfl) (@pe_int _ _ _ _) (nomark _))))) (@pss_one _ _ _ (@ps_ret _ _ _ _ (@pe_non _ _ _))) (@pss_nil _)) (@pss_one _ _ _ (@ps_ret _ _ _ _ (@pe_tup _ _ _ _ _ (@pa_str _ _ _ _ _ _ (@pa_cons _ _ _ _ _ (@pe_cal _ _ _ _ _ _ _ _ _ _ _ _ C__law_number (rm hr) rfl pass0 (@pa_cons _ _ _ _ _ (@pe_ix _ _ _ _ _ _ _ (@ix_str _) (pv 0) (@pe_int _ _ _ _) (fun _ _ => rfl)) (@pa_str _ _ _ _ _ _ (@pa_nil _)) rfl) (by decide) rfl rfl) (@pa_cons _ _ _ _ _ (pv 1) (@pa_nil _) rfl) rfl)))))))) (@pss_nil _)) (@pss_cons _ _ _ _ _ (@ps_setComp _ _ _ _ _ _ _ _ _ _ _ _ _ _ (3) _ _ _ rfl sc__law_condition_read.nd rfl rfl (@CScope.of _ ((defScope s__law_condition_read)) (n__law_condition_read) _ (["_law_sign"]) (1) ([]) rfl rfl (by decide +kernel)) (@pi_str _ _ _ _ (pv 0)) (fun _ _ _ => (@pgc_name _ _ _ _ _ _ _ _ (0) (by decide +kernel) rfl rfl)) (fun _ _ _ => (@pts_nil _)) (fun _ _ _ => (@pe_cal _ _ _ _ _ _ _ _ _ _ _ _ C__law_number (rm hr) rfl pass0 (@pa_cons _ _ _ _ _ (pv 0) (@pa_str _ _ _ _ _ _ (@pa_nil _)) rfl) (by decide) rfl rfl)) rfl (by intro _ ; rfl)) (@pss_cons _ _ _ _ _ (@ps_if _ _ _ _ _ _ _ _ (@PW.pt _ _ _ (@pw_or _ _ _ _ _ _ _ (@pt_cmpR _ _ _ _ _ _ _ _ (@op_ne _) (@pe_callB _ _ _ _ _ _ _ _ _ (@call_len_seq _) rfl T.b_len PySem.boot_len (@pa_cons _ _ _ _ _ (pv 3) (@pa_nil _) rfl) (by decide) (by decide) rfl rfl) (@pe_int _ _ _ _) (nomark _)) (@pw_or1 _ _ _ _ (@pt_cmpR _ _ _ _ _ _ _ _ (@op_lt _) (@pe_callB _ _ _ _ _ _ _ _ _ (@call_minL _ rfl) rfl T.b_min PyProof.Rows.boot_min (@pa_cons _ _ _ _ _ (pv 3) (@pa_nil _) rfl) (by decide) (by decide) rfl rfl) (@pe_int _ _ _ _) (nomark _))))) (@pss_one _ _ _ (@ps_ret _ _ _ _ (@pe_non _ _ _))) (@pss_nil _)) (@pss_one _ _ _ (@ps_ret _ _ _ _ (@pe_tup _ _ _ _ _ (@pa_str _ _ _ _ _ _ (@pa_cons _ _ _ _ _ (pv 3) (@pa_nil _) rfl)))))))), ?_⟩
    try dsimp only [cxK]
    refine ⟨_, rfl, _, rfl, _, rfl, z, rfl, Nat.le_trans lz (by decide), rfl, _, rfl, ?_⟩
    rw [eq_at]
    by_cases h61 : z.cps.toList[1]? = some 61
    · rw [decide_eq_true h61]
      obtain ⟨c, r, ez⟩ : ∃ c r, z.cps.toList = c :: 61 :: r := by
        match l : z.cps.toList, h61 with
        | [], e => cases e
        | [c], e => cases e
        | c :: d :: r, e => injection e with e3; exact ⟨c, r, by rw [show d = 61 from e3]⟩
      have lr : r.length ≤ 900 := by
        rw [Nu.len, ez] at lz
        simp only [List.length_cons] at lz
        omega
      refine iteT ⟨_, rfl, _, rfl, z, rfl, Nat.le_trans lz (by decide), _, rfl, ?_⟩
      have er : (Txt.slice z (some 2) none).cps.toList = r := by rw [Nu.cutFrom z 2 (by decide), ez]; rfl
      refine blk_str (fun i acc H2 => H = H2 ∧ acc = ((r.take i).map fnd).map V.int) ⟨rfl, rfl⟩ ?_ ?_
      · rintro i ch acc H2 hch ⟨rfl, rfl⟩
        rw [er] at hch
        refine ⟨⟨[some (.str ⟨#[ch]⟩)], rfl, rfl⟩, by
          rw [List.length_map, List.length_map, List.length_take]
          exact Nat.lt_of_le_of_lt (Nat.le_trans (Nat.min_le_right _ _) lr) (by decide), ?_⟩
        refine tyes ⟨rfl, _, rfl, _, _, rfl, rfl, rfl, ?_⟩
        rw [List.take_add_one, hch, List.map_append, List.map_append]
        rfl
      rintro acc H2 ⟨rfl, rfl⟩ l hl
      rw [er, List.take_length]
      have bk := fun h => fnd_back (r := r) h
      have co := fun (d : CondA) (hd : CoR z d) => co_am ez hd
      have ln : (r.map fnd).length ≤ 900 := by rw [List.length_map]; exact lr
      generalize r.map fnd = ns at bk co ln ⊢
      have s1 := same_upd (o := .lst (ns.map V.int)) hl
      have hL : upd H l (.lst (ns.map V.int)) l = some (.lst (ns.map V.int)) := upd_same
      refine ⟨_, rfl, l, _, rfl, .inl (SqL.of hL), _, rfl, by omega, by rw [List.length_map]; omega, ?_⟩
      rw [Int.toNat_natCast, List.length_map]
      have hit : ∀ (j : Nat) (m : Int), ns[j]? = some m → atI (ns.map V.int) (j : Int) = some (V.int m) := fun j m e => atI_nat (by rw [List.getElem?_map, e]; rfl)
      have rd : ∀ {i j : Nat} {m n : Int}, ns[i]? = some n → i = j + 1 → ns[j]? = some m → ns.Pairwise (· < ·) → m < n := fun en e em up => by
        obtain ⟨h1, q1⟩ := List.getElem?_eq_some_iff.mp en
        obtain ⟨h2, q2⟩ := List.getElem?_eq_some_iff.mp em
        have := List.pairwise_iff_getElem.mp up _ _ h2 h1 (by omega)
        rw [q1, q2] at this
        exact this
      refine for_range (n := ns.length) (fun i σ H2 => (∃ v : Option V, σ = [some (.str z), some (.ref l), v, none]) ∧ upd H l (.lst (ns.map V.int)) = H2 ∧ (∀ n ∈ ns.take i, 0 ≤ n) ∧ (ns.take i).Pairwise (· < ·)) ⟨⟨none, rfl⟩, rfl, fun n hn => by simp at hn, .nil⟩ ?_ ?_
      · rintro i σ H2 hi ⟨⟨v, rfl⟩, rfl, ge, up⟩
        obtain ⟨n, en⟩ : ∃ n, ns[i]? = some n := ⟨_, List.getElem?_eq_getElem hi⟩
        refine ⟨_, rfl, _, rfl, l, _, _, _, rfl, rfl, SqL.of hL, by rw [Int.zero_add]; exact hit i n en, _, _, rfl, rfl, _, rfl, ?_⟩
        by_cases n0 : n < 0
        · rw [decide_eq_true n0]
          refine iteT (iteT (k2 (fun d hd => ?_) _ s1))
          obtain ⟨s, ns', rfl, _, rfl, _, rg, _⟩ := co d hd
          have := (rg n (List.mem_of_getElem? en)).1
          omega
        rw [decide_eq_false n0]
        have ge2 : ∀ x ∈ ns.take (i + 1), 0 ≤ x := fun x hx => by
          rw [List.take_add_one, en] at hx
          rcases List.mem_append.mp hx with q | q
          · exact ge x q
          · rw [show x = n by simpa using q]; omega
        refine iteF ⟨_, rfl, _, _, rfl, rfl, _, rfl, ?_⟩
        cases i with
        | zero =>
          refine iteF (iteF ⟨⟨_, rfl⟩, rfl, ge2, up_snoc en up fun j m e => by omega⟩)
        | succ j =>
          obtain ⟨m, em⟩ : ∃ m, ns[j]? = some m := ⟨_, List.getElem?_eq_getElem (by omega)⟩
          rw [decide_eq_true (by omega)]
          refine iteT ⟨_, rfl, _, rfl, l, _, _, _, rfl, rfl, SqL.of hL, by rw [Int.zero_add]; exact hit (j + 1) n en, _, rfl, _, rfl, _, _, rfl, rfl, l, _, _, _, rfl, rfl, SqL.of hL, by rw [show (0 : Int) + ((j + 1 : Nat) : Int) - 1 = (j : Int) by omega]; exact hit j m em, _, _, rfl, rfl, _, rfl, ?_⟩
          by_cases le : n ≤ m
          · rw [decide_eq_true le]
            refine iteT (k2 (fun d hd => ?_) _ s1)
            obtain ⟨s, ns', rfl, _, rfl, _, _, up'⟩ := co d hd
            have := rd en rfl em up'
            omega
          · rw [decide_eq_false le]
            refine iteF ⟨⟨_, rfl⟩, rfl, ge2, up_snoc en up fun j' m' e em' => ?_⟩
            injection e with e
            subst e
            rw [em] at em'
            injection em' with e
            omega
      · rintro σ H2 ⟨⟨v, rfl⟩, rfl, ge, up⟩
        rw [List.take_length] at ge up
        refine ⟨_, rfl, (by show 0 ≤ sizeLine; decide), fun e0 he0 => ⟨l, e0, _, rfl, rfl, SqL.of (same_upd he0 _ _ hL), SqL.of upd_same, _, rfl, ?_⟩⟩
        have s2 := s1.trans (same_upd (o := .lst []) he0)
        have hL2 := same_upd (o := .lst []) he0 _ _ hL
        show if _ then _ else _
        generalize upd (upd H l (.lst (ns.map V.int))) e0 (.lst []) = H2 at s2 hL2 ⊢
        rw [List.length_map]
        by_cases n0 : ns.length = 0
        · rw [decide_eq_true n0]
          refine iteT (iteT (k2 (fun d hd => ?_) _ s2))
          obtain ⟨s, ns', rfl, _, rfl, ne, _⟩ := co d hd
          exact ne (List.length_eq_zero_iff.mp n0)
        rw [decide_eq_false n0]
        have at0 : atI z.cps.toList 0 = some c := by rw [ez]; exact atI_nat (j := 0) rfl
        have lz' : z.length ≤ sizeLine := Nat.le_trans lz (by decide)
        refine iteF ⟨_, rfl, z, 0, c, rfl, rfl, lz', at0, .st ⟨#[c]⟩ rfl (by show 1 ≤ 6000; decide) (fun d hd => ⟨_, _, rfl, rfl, _, rfl, ?_⟩) (fun no => ⟨_, _, rfl, rfl, _, rfl, iteT (k2 (fun d hd => ?_) _ s2)⟩)⟩
        · rw [decide_eq_false (by have := hd.1.1; omega)]
          refine iteF ⟨_, rfl, z, 0, c, rfl, rfl, lz', at0, .st ⟨#[c]⟩ rfl (by show 1 ≤ 6000; decide) (fun d2 hd2 => ⟨_, rfl, (by show 3 ≤ sizeLine; decide), fun q hq => ?_⟩) (fun no => absurd hd (no d))⟩
          have s3 := same_upd (o := .tup [.str (Str.ofString "amount"), .int d2, .ref l]) hq
          obtain ⟨b1, b2⟩ := bk ge
          refine k1 (.am d2 ns) ⟨⟨hd2.1, fun e => n0 (by rw [e]; rfl), b2, up⟩, Nu.ext ?_⟩ q _ (s2.trans s3) (.am upd_same (s3 _ _ hL2))
          show _ = (sgD d2 ++ ⟨#[61]⟩ ++ digsT ns).cps.toList
          rw [ez, Tx.cps_app, Tx.cps_app, ← hd2.2]
          show _ = [c] ++ [61] ++ (ns.map fun n => 48 + n.toNat)
          rw [← b1]
          rfl
        · obtain ⟨s, _, rfl, q, _⟩ := co d hd
          exact no s q
    · rw [decide_eq_false h61]
      refine iteF ⟨_, rfl, _, rfl, ?_⟩
      have st : ∀ {i ch : Nat} {v : Int}, z.cps.toList[i]? = some ch → nw ch = v → ((z.cps.toList.take i).map nw).map V.int ++ [V.int v] = ((z.cps.toList.take (i + 1)).map nw).map V.int := fun hch e => by
        rw [List.take_add_one, hch, List.map_append, List.map_append, ← e]
        rfl
      refine blk_str (fun i acc H2 => H = H2 ∧ acc = ((z.cps.toList.take i).map nw).map V.int) ⟨rfl, rfl⟩ ?_ ?_
      · rintro i ch acc H2 hch ⟨rfl, rfl⟩
        refine ⟨⟨[some (.str ⟨#[ch]⟩)], rfl, rfl⟩, by
          rw [List.length_map, List.length_map, List.length_take, ← Nu.len]
          exact Nat.lt_of_le_of_lt (Nat.le_trans (Nat.min_le_right _ _) lz) (by decide), ?_⟩
        refine tyes ⟨_, rfl, .wa ⟨#[ch]⟩ rfl (by show 1 ≤ 6000; decide) (fun x hx => ⟨rfl, st hch ?_⟩) fun no => ⟨rfl, st hch ?_⟩⟩
        · unfold nw
          rw [hx.2]
          exact find_wa hx.1
        · exact find_no (sign_wa no)
      rintro acc H2 ⟨rfl, rfl⟩ l hl
      rw [List.take_length]
      have s1 := same_upd (o := .lst ((z.cps.toList.map nw).map V.int)) hl
      have hL : upd H l (.lst ((z.cps.toList.map nw).map V.int)) l = some (.lst ((z.cps.toList.map nw).map V.int)) := upd_same
      refine ⟨_, rfl, l, _, rfl, .inl (SqL.of hL), rfl, _, rfl, ?_⟩
      rw [List.length_map, List.length_map, ← Nu.len]
      by_cases l8 : z.length = 8
      · rw [l8]
        refine iteNS rfl ⟨_, rfl, l, z.cps.toList.map nw, rfl, SqL.of hL, fun e => ?_, fun m hm le => ⟨_, _, rfl, rfl, _, rfl, ?_⟩⟩
        · have := congrArg List.length e
          rw [List.length_map, ← Nu.len, l8] at this
          cases this
        by_cases m0 : m < 0
        · rw [decide_eq_true m0]
          refine iteT (k2 (fun d hd => ?_) _ s1)
          have := (co_pl h61 hd).2 m hm
          omega
        · rw [decide_eq_false m0]
          refine iteF ⟨_, rfl, (by show 2 ≤ sizeLine; decide), fun q hq => ?_⟩
          obtain ⟨ws, e1, e2, oks⟩ := nw_back (r := z.cps.toList) (fun n hn => by have := le n hn; omega)
          have s3 := same_upd (o := .tup [.str (Str.ofString "places"), .ref l]) hq
          refine k1 (.pl ws) ⟨⟨?_, oks⟩, Nu.ext e1⟩ q _ (s1.trans s3) (.pl upd_same ((s3 _ _ hL).trans (by rw [e2, List.map_map]; rfl)))
          have := congrArg List.length e1
          rw [List.length_map, ← Nu.len, l8] at this
          exact this.symm
      · rw [decide_eq_false (by intro e; injection e with e; omega)]
        exact iteT (iteT (k2 (fun d hd => l8 (co_pl h61 hd).1) _ s1))
end
end J

set_option maxHeartbeats 200000
set_option Elab.async false
set_option linter.all false
set_option maxRecDepth 100000
set_option maxHeartbeats 4000000
/-! The law's own reader: clauses. -/
namespace J
open PySem L2
theorem mid_of (W : List Str) : ∃ M : List Str, cutV (W.map V.str) (some 1) (some (-1)) = M.map V.str ∧ (∀ u ∈ M, u ∈ W) ∧ M.length ≤ W.length ∧ (2 ≤ W.length → ∃ x y, W = x :: (M ++ [y])) := by
  by_cases h : 2 ≤ W.length
  · obtain ⟨x, r, y, rfl⟩ := two_ends W h
    refine ⟨r, ?_, fun u hu => by simp [hu], by simp; omega, fun _ => ⟨x, y, rfl⟩⟩
    rw [List.map_cons, List.map_append]
    exact cut_mid _ _ _
  · match W, h with
    | [], _ => exact ⟨[], rfl, fun u hu => by simp at hu, by simp, fun q => absurd q (by simp)⟩
    | [x], _ => exact ⟨[], rfl, fun u hu => by simp at hu, by simp, fun q => absurd q (by simp)⟩
    | x :: y :: r, h => exact absurd (by simp) h
theorem no_ru {z p : Str} (l0 : z.length ≠ 0) (hp : p ∈ Txt.split z markT) (no : ∀ c, ¬ ClR p c) : ∀ r, ¬ RuR z r := fun r ⟨ok, e⟩ => by
  subst e
  by_cases hr0 : r = []
  · subst hr0
    exact l0 (by decide +kernel)
  · have e : Txt.split (ruleT r) markT = r.map clauseT := Tx.split_join2 _ (by simpa using hr0) fun t ht => by
      obtain ⟨c, hc, rfl⟩ := List.mem_map.mp ht
      exact clause_free (ok.ok c hc)
    rw [e] at hp
    obtain ⟨c, hc, rfl⟩ := List.mem_map.mp hp
    exact no c ⟨ok.ok c hc, rfl⟩
/-- what stands for a word that was read -/
def CR (H : Hp) (u : Str) (v : V) : Prop := (v = .non ∧ ∀ d, ¬ CoR u d) ∨ ∃ p d, v = .ref p ∧ CoR u d ∧ LCondAt H p d
theorem CR.same {H H' : Hp} {u : Str} {v : V} (s : Same H H') (h : CR H u v) : CR H' u v := by
  rcases h with h | ⟨p, d, e, c, l⟩
  · exact .inl h
  · exact .inr ⟨p, d, e, c, l.same s⟩
theorem CR.nt {H : Hp} {u : Str} {v : V} (h : CR H u v) : NoT H v := by
  rcases h with ⟨e, _⟩ | ⟨p, d, e, c, l⟩
  · exact .inl e
  · cases l with
    | am h _ => exact .inr ⟨p, _, e, h⟩
    | pl h _ => exact .inr ⟨p, _, e, h⟩
theorem cr_nt {H : Hp} : ∀ {M : List Str} {acc : List V}, Paired (CR H) M acc → ∀ v ∈ acc, NoT H v
  | _, _, .nil, v, h => by simp at h
  | _, _, .cons r t, v, h => by
    rcases List.mem_cons.mp h with q | q
    · rw [q]; exact r.nt
    · exact cr_nt t v q
theorem cr_some {H : Hp} : ∀ {M : List Str} {acc : List V}, Paired (CR H) M acc → acc.any nonV = true → ∃ u ∈ M, ∀ d, ¬ CoR u d
  | _, _, .nil, h => by simp at h
  | u :: M, v :: acc, .cons r t, h => by
    rw [List.any_cons, Bool.or_eq_true] at h
    rcases h with q | q
    · rcases r with ⟨_, no⟩ | ⟨p, d, e, _⟩
      · exact ⟨u, by simp, no⟩
      · rw [e] at q; cases q
    · obtain ⟨u', hu, no⟩ := cr_some t q
      exact ⟨u', List.mem_cons_of_mem _ hu, no⟩
theorem cr_all {H : Hp} : ∀ {M : List Str} {acc : List V}, Paired (CR H) M acc → acc.any nonV = false → ∃ (ds : List Addr) (cn : List CondA), acc = ds.map V.ref ∧ M = cn.map condT ∧ Paired (LCondAt H) ds cn ∧ ∀ d ∈ cn, d.ok
  | _, _, .nil, h => ⟨[], [], rfl, rfl, .nil, fun d hd => by simp at hd⟩
  | u :: M, v :: acc, .cons r t, h => by
    rw [List.any_cons, Bool.or_eq_false_iff] at h
    obtain ⟨ds, cn, e1, e2, pr, ok⟩ := cr_all t h.2
    rcases r with ⟨e, _⟩ | ⟨p, d, e, ⟨od, ed⟩, l⟩
    · rw [e] at h; cases h.1
    · exact ⟨p :: ds, d :: cn, by rw [e, e1]; rfl, by rw [ed, e2]; rfl, .cons l pr, fun x hx => by
        rcases List.mem_cons.mp hx with q | q
        · rw [q]; exact od
        · exact ok x q⟩
theorem Paired.snoc' {α β : Type} {F : α → β → Prop} {l : List α} {m : List β} {x : α} {y : β} (h : Paired F l m) (r : F x y) : Paired F (l ++ [x]) (m ++ [y]) := Paired.snoc h r
theorem dec_neg {d : Int} (h : 0 ≤ d) : decide (d < 0) = false := decide_eq_false (by omega)
section
variable {P : Program} {w : World} {K : PySem.W.Frag} {mg : Str → Option Value} {base : Heap} {a : Ad}
inductive SpLs (vs : List V) (H : Hp) (Q : VK) : Prop
  | mk (z : Str) (_ : vs = [.str z]) (_ : z.length ≤ 900) (_ : ∀ r, RuR z r → ∀ q H', Same H H' → LRuAt H' q r → Q (.ref q) H') (_ : (∀ r, ¬ RuR z r) → ∀ H', Same H H' → Q .non H') : SpLs vs H Q
def spLs : Sp := fun vs H Q _ => SpLs vs H Q
theorem ok_ls {f : Addr} {fd : FuncData} (F : Fun K "_law_clauses_read" "_law_clauses_read" s__law_clauses_read f fd) (T : Top K mg a) (C__law_number : Cal P w K mg base CX0 1 "_law_number" p__law_number spLn) (C__law_condition_read : Cal P w K mg base CX0 2 "_law_condition_read" p__law_condition_read spLc) : FnOk P w K mg base CX0 3 f fd p__law_clauses_read spLs := by
  refine F.ok sc__law_clauses_read (fun vs H Q E h => ?_) (fun cdv A outer s H vs Q E hr h => ?_)
  · obtain ⟨z, rfl, _⟩ := h
    rfl
  · obtain ⟨z, rfl, lz, k1, k2⟩ := h
    refine ⟨_, (@pss_cons _ _ _ _ _ (@ps_if _ _ _ _ _ _ _ _ (@pt_cmpR _ _ _ _ _ _ _ _ (@op_eq _) (pv 0) (@pe_str _ _ _ _) (nomark _)) (@pss_one _ _ _ (@ps_ret _ _ _ _ (@pe_lst _ _ _ _ (@pa_nil _)))) (@pss_nil _)) (@pss_cons _ _ _ _ _ (@ps_set _ _ (1) _ _ _ _ sc__law_clauses_read.nd rfl (Or.inl rfl) (@pe_lst _ _ _ _ (@pa_nil _)) rfl (by first | exact .inl rfl | exact .inr rfl | assumption)) (@pss_cons _ _ _ _ _ (@ps_for _ _ _ _ _ _ _ _ PassesOwn.never rfl (@pi_list _ _ _ _ (@pe_bm _ _ _ _ _ _ _ _ _ _ _ _ PySem.F.plainAttrs_str PySem.F.slot_str_split PySem.F.type_str_split (@mt_split _) (pv 0) (@pa_str _ _ _ _ _ _ (@pa_nil _)) rfl rfl rfl rfl rfl)) (@pg_name _ _ (2) _ sc__law_clauses_read.nd rfl (Or.inl rfl) (by first | exact .inl rfl | exact .inr rfl | assumption)) (@pss_cons _ _ _ _ _ (@ps_set _ _ (3) _ _ _ _ sc__law_clauses_read.nd rfl (Or.inl rfl) (@pe_bm _ _ _ _ _ _ _ _ _ _ _ _ PySem.F.plainAttrs_str PySem.F.slot_str_split PySem.F.type_str_split (@mt_split _) (pv 2) (@pa_str _ _ _ _ _ _ (@pa_nil _)) rfl rfl rfl rfl rfl) rfl (by first | exact .inl rfl | exact .inr rfl | assumption)) (@pss_cons _ _ _ _ _ (@ps_setComp _ _ _ _ _ _ _ _ _ _ _ _ _ _ (4) _ _ _ rfl sc__law_clauses_read.nd rfl rfl (@CScope.of _ ((defScope s__law_clauses_read)) (n__law_clauses_read) _ (["_law_word_here"]) (1) ([]) rfl rfl (by decide +kernel)) (@pi_list _ _ _ _ (@pe_slice _ _ _ _ _ _ _ _ _ _ (@sl_list _) (pv 3) (@po_some _ _ _ (@pe_int _ _ _ _)) (@po_some _ _ _ (@pe_un _ _ _ _ _ _ (@un_neg _) (@pe_int _ _ _ _))))) (fun _ _ _ => (@pgc_name _ _ _ _ _ _ _ _ (0) (by decide +kernel) rfl rfl)) (fun _ _ _ => (@pts_nil _)) (fun _ _ _ => (@pe_cal _ _ _ _ _ _ _ _ _ _ _ _ C__law_condition_read (rm hr) rfl pass0 (@pa_cons _ _ _ _ _ (pv 0) (@pa_nil _) rfl) (by decide) rfl rfl)) rfl (by intro _ ; rfl)) (@pss_cons _ _ _ _ _ (@ps_if _ _ _ _ _ _ _ _ (@PW.pt _ _ _ (@pw_or _ _ _ _ _ _ _ (@pt_cmpR _ _ _ _ _ _ _ _ (@op_lt _) (@pe_callB _ _ _ _ _ _ _ _ _ (@call_len_seq _) rfl T.b_len PySem.boot_len (@pa_cons _ _ _ _ _ (pv 3) (@pa_nil _) rfl) (by decide) (by decide) rfl rfl) (@pe_int _ _ _ _) (nomark _)) (@pw_or _ _ _ _ _ _ _ (@pt_cmpR _ _ _ _ _ _ _ _ (@op_in_non _ hr.units) (@pe_non _ _ _) (pv 4) rfl) (@pw_or1 _ _ _ _ (@pt_cmpR _ _ _ _ _ _ _ _ (@op_lt _) (@pe_cal _ _ _ _ _ _ _ _ _ _ _ _ C__law_number (rm hr) rfl pass0 (@pa_cons _ _ _ _ _ (@pe_ix _ _ _ _ _ _ _ (@ix_list _) (pv 3) (@pe_int _ _ _ _) (fun _ _ => rfl)) (@pa_str _ _ _ _ _ _ (@pa_nil _)) rfl) (by decide) rfl rfl) (@pe_int _ _ _ _) (nomark _)))))) (@pss_one _ _ _ (@ps_ret _ _ _ _ (@pe_non _ _ _))) (@pss_nil _)) (@pss_cons _ _ _ _ _ (@ps_if _ _ _ _ _ _ _ _ (@pt_cmpR _ _ _ _ _ _ _ _ (@op_lt _) (@pe_cal _ _ _ _ _ _ _ _ _ _ _ _ C__law_number (rm hr) rfl pass0 (@pa_cons _ _ _ _ _ (@pe_ix _ _ _ _ _ _ _ (@ix_list _) (pv 3) (@pe_un _ _ _ _ _ _ (@un_neg _) (@pe_int _ _ _ _)) (fun _ _ => rfl)) (@pa_str _ _ _ _ _ _ (@pa_nil _)) rfl) (by decide) rfl rfl) (@pe_int _ _ _ _) (nomark _)) (@pss_one _ _ _ (@ps_ret _ _ _ _ (@pe_non _ _ _))) (@pss_nil _)) (@pss_one _ _ _ (@ps_expr _ _ _ _ (@pe_bm _ _ _ _ _ _ _ _ _ _ _ _ PySem.F.plainAttrs_list PySem.F.slot_list_append PySem.F.type_list_append (@mt_append _) (pv 1) (@pa_tup _ _ _ _ _ _ _ (@pa_cons _ _ _ _ _ (@pe_cal _ _ _ _ _ _ _ _ _ _ _ _ C__law_number (rm hr) rfl pass0 (@pa_cons _ _ _ _ _ (@pe_ix _ _ _ _ _ _ _ (@ix_list _) (pv 3) (@pe_int _ _ _ _) (fun _ _ => rfl)) (@pa_str _ _ _ _ _ _ (@pa_nil _)) rfl) (by decide) rfl rfl) (@pa_cons _ _ _ _ _ (pv 4) (@pa_cons _ _ _ _ _ (@pe_callTy _ _ _ _ _ _ _ _ _ (@call_int_text _) rfl T.b_int PyProof.Rows.boot_int (@pa_cons _ _ _ _ _ (@pe_ix _ _ _ _ _ _ _ (@ix_list _) (pv 3) (@pe_un _ _ _ _ _ _ (@un_neg _) (@pe_int _ _ _ _)) (fun _ _ => rfl)) (@pa_nil _) rfl) (by decide) (by decide) rfl rfl) (@pa_nil _) rfl) rfl) rfl) (@pa_nil _)) rfl rfl rfl rfl rfl) rfl)))))) (by intro _ ; rfl)) (@pss_one _ _ _ (@ps_ret _ _ _ _ (pv 1)))))), ?_⟩
    try dsimp only [cxK]
    refine ⟨_, rfl, rfl, _, rfl, ?_⟩
    by_cases l0 : z.length = 0
    · have ez : z = Str.ofString "" := Nu.ext (by
        rw [Nu.len] at l0
        rw [List.length_eq_zero_iff.mp l0]
        decide +kernel)
      rw [ez, decide_eq_true rfl]
      refine iteT ⟨(by show 0 ≤ sizeLine; decide), fun l hl => k1 [] ⟨⟨by show 0 ≤ 1000; decide, fun c hc => by simp at hc, by show (ruleT []).length ≤ 60000; decide +kernel⟩, ?_⟩ l _ (same_upd hl) ⟨[], upd_same, .nil⟩⟩
      rw [ez]
      decide +kernel
    rw [decide_eq_false (by
      intro e
      injection e with e
      rw [e] at l0
      exact l0 (by decide +kernel))]
    refine iteF ⟨(by show 0 ≤ sizeLine; decide), fun cl hcl => ?_⟩
    refine ⟨_, rfl, rfl, _, _, rfl, rfl, (by decide +kernel), (by omega), fun b hb => ?_⟩
    rw [show Str.ofString "; " = markT by decide +kernel]
    have sle : (Txt.split z markT).length ≤ z.length + 2 := PyProof.Rows.split_le z _
    have jn := StrLaws.join_split z markT
    have ple : ∀ q ∈ Txt.split z markT, q.length ≤ z.length := fun q hq => part_le hq
    have nr : ∀ q ∈ Txt.split z markT, (∀ c, ¬ ClR q c) → ∀ r, ¬ RuR z r := fun q hq no => no_ru l0 hq no
    generalize Txt.split z markT = W at sle jn ple nr ⊢
    have hcl1 : upd (upd H cl (.lst [])) b (.lst (W.map V.str)) cl = some (.lst []) := same_upd hb _ _ upd_same
    have s1 : Same H (upd (upd H cl (.lst [])) b (.lst (W.map V.str))) := (same_upd hcl).trans (same_upd hb)
    have nbc : b ≠ cl := fun e => by rw [e, upd_same] at hb; cases hb
    refine ⟨b, rfl, ⟨_, SqL.of upd_same⟩, ?_⟩
    refine for_list (xs := W.map V.str) (fun i σ H2 => ∃ (cs : List Addr) (r : RuleA) (u2 u3 u4 : Option V), σ = [some (.str z), some (.ref cl), u2, u3, u4] ∧ Same H H2 ∧ H2 b = some (.lst (W.map V.str)) ∧ H2 cl = some (.lst (cs.map V.ref)) ∧ Paired (LClN cl H2) cs r ∧ cs.length = i ∧ W.take i = r.map clauseT ∧ ∀ c ∈ r, c.ok)
      ⟨[], [], none, none, none, rfl, s1, upd_same, hcl1, .nil, rfl, rfl, fun c hc => by simp at hc⟩ (fun i σ H2 _ ⟨cs, r, u2, u3, u4, _, _, hb2, _⟩ => SqL.of hb2) ?_ ?_
    · rintro i v σ H2 hv ⟨cs, r, u2, u3, u4, rfl, sm, hb2, hcl2, pr, lc, et, oks⟩
      rw [List.getElem?_map] at hv
      obtain ⟨u, eu, rfl⟩ := Option.map_eq_some_iff.mp hv
      have hi : i < W.length := (List.getElem?_eq_some_iff.mp eu).1
      have mu := List.mem_of_getElem? eu
      have lu := ple u mu
      have no := nr u mu
      refine ⟨_, rfl, rfl, _, _, rfl, rfl, (by decide +kernel), (by omega), fun l hl => ?_⟩
      have sle2 : (Txt.split u (Str.ofString " ")).length ≤ u.length + 2 := PyProof.Rows.split_le u _
      have jn2 := StrLaws.join_split u (Str.ofString " ")
      have ple2 : ∀ p ∈ Txt.split u (Str.ofString " "), p.length ≤ u.length := fun p hp => part_le hp
      have cs2 : ∀ c, ClR u c → Txt.split u (Str.ofString " ") = wS c.cell :: (c.conds.map condT ++ [sgD c.makes]) := fun c hc => by rw [hc.2]; exact clause_split hc.1
      generalize Txt.split u (Str.ofString " ") = W2 at sle2 jn2 ple2 cs2 ⊢
      obtain ⟨M, eM, mM, lM, wM⟩ := mid_of W2
      refine ⟨_, rfl, _, rfl, _, rfl, _, rfl, l, _, rfl, SqL.of upd_same, fun q hq => ⟨q, rfl, ⟨_, SqL.of upd_same⟩, ?_⟩⟩
      rw [eM]
      have s2 : Same H2 (upd (upd H2 l (.lst (W2.map V.str))) q (.lst (M.map V.str))) := (same_upd hl).trans (same_upd hq)
      have hl3 : upd (upd H2 l (.lst (W2.map V.str))) q (.lst (M.map V.str)) l = some (.lst (W2.map V.str)) := same_upd hq _ _ upd_same
      have hq3 : upd (upd H2 l (.lst (W2.map V.str))) q (.lst (M.map V.str)) q = some (.lst (M.map V.str)) := upd_same
      generalize upd (upd H2 l (.lst (W2.map V.str))) q (.lst (M.map V.str)) = H3 at s2 hl3 hq3 ⊢
      refine blk_list (xs := M.map V.str) (fun i acc H4 => Same H3 H4 ∧ Paired (CR H4) (M.take i) acc ∧ acc.length = i) ⟨Same.refl H3, .nil, rfl⟩ (fun i acc H4 _ ⟨sm, _⟩ => SqL.of (sm _ _ hq3)) ?_ ?_
      · rintro i v acc H4 hv ⟨s4, pr4, la⟩
        rw [List.getElem?_map] at hv
        obtain ⟨y, ey, rfl⟩ := Option.map_eq_some_iff.mp hv
        have hi : i < M.length := (List.getElem?_eq_some_iff.mp ey).1
        have ly := ple2 y (mM y (List.mem_of_getElem? ey))
        refine ⟨⟨[some (.str y)], rfl, rfl⟩, by rw [la]; exact Nat.lt_of_lt_of_le hi (Nat.le_trans lM (Nat.le_trans sle2 (Nat.le_trans (Nat.add_le_add_right (Nat.le_trans lu lz) 2) (by decide)))), ?_⟩
        have nx : ∀ (v : V) (H5 : Hp), Same H4 H5 → CR H5 y v → Same H3 H5 ∧ Paired (CR H5) (M.take (i + 1)) (acc ++ [v]) ∧ (acc ++ [v]).length = i + 1 := fun v H5 s5 hv => ⟨s4.trans s5, by
          rw [List.take_add_one, ey]
          exact Paired.snoc' (Paired.imp (fun _ _ z => z.same s5) pr4) hv, by rw [List.length_append, la]; rfl⟩
        exact tyes ⟨_, rfl, y, rfl, by omega, fun d hd p H5 s5 hp => nx _ H5 s5 (.inr ⟨p, d, rfl, hd, hp⟩), fun no H5 s5 => nx _ H5 s5 (.inl ⟨rfl, no⟩)⟩
      · rintro acc H4 ⟨s4, pr4, la⟩ t nt
        rw [List.length_map, List.take_length] at pr4
        have s5 := same_upd (o := .lst acc) nt
        have ht5 : upd H4 t (.lst acc) t = some (.lst acc) := upd_same
        have hl5 := s5 _ _ (s4 _ _ hl3)
        have pr5 := Paired.imp (fun _ _ z => CR.same s5 z) pr4
        have nt2 : t ≠ cl := fun e => by
          rw [e, s4 _ _ (s2 _ _ hcl2)] at nt
          cases nt
        have s25 := (s2.trans s4).trans s5
        show (tSeq _ _) _ _ _
        generalize upd H4 t (.lst acc) = H5 at s5 ht5 hl5 pr5 s25 ⊢
        clear pr4 s5 s4 nt hq3 hl3 s2 hq hl
        have sH5 := sm.trans s25
        refine ⟨_, rfl, l, _, rfl, .inl (SqL.of hl5), _, _, rfl, rfl, _, rfl, ?_⟩
        by_cases w2 : W2.length < 2
        · rw [decide_eq_true (by rw [List.length_map]; omega)]
          refine iteT (iteT (k2 (no fun c hc => ?_) _ sH5))
          rw [cs2 c hc] at w2
          simp at w2
          omega
        rw [decide_eq_false (by rw [List.length_map]; omega)]
        refine iteF ⟨_, rfl, t, _, rfl, rfl, SqL.of ht5, cr_nt pr5, _, rfl, ?_⟩
        obtain ⟨x, y, rfl⟩ := wM (by omega)
        have eW : ((x :: (M ++ [y])).map V.str) = V.str x :: (M.map V.str ++ [V.str y]) := by rw [List.map_cons, List.map_append]; rfl
        rw [eW] at hl5
        have clx : ∀ c, ClR u c → x = wS c.cell ∧ M = c.conds.map condT ∧ y = sgD c.makes := fun c hc => by
          have e := cs2 c hc
          injection e with e1 e2
          have e3 := List.append_inj' e2 rfl
          exact ⟨e1, e3.1, by simpa using e3.2⟩
        cases an : acc.any nonV with
        | true =>
          refine iteT (iteT (k2 (no fun c hc => ?_) _ sH5))
          obtain ⟨w', hw, nw'⟩ := cr_some pr5 an
          rw [(clx c hc).2.1] at hw
          obtain ⟨d, hd, rfl⟩ := List.mem_map.mp hw
          exact nw' d ⟨hc.1.conds d hd, rfl⟩
        | false =>
          obtain ⟨ds, cn, rfl, rfl, prc, okc⟩ := cr_all pr5 an
          have at0 : ∀ L : List V, atI (V.str x :: L) 0 = some (V.str x) := fun L => atI_nat (j := 0) rfl
          have lx : x.length ≤ 6000 := by have := ple2 x (by simp); omega
          have ly : y.length ≤ 6000 := by have := ple2 y (by simp); omega
          refine iteF ⟨_, rfl, l, _, 0, .str x, rfl, rfl, SqL.of hl5, at0 _, .wa x rfl lx (fun o ho => ⟨_, _, rfl, rfl, _, rfl, ?_⟩) (fun nox => ⟨_, _, rfl, rfl, _, rfl, iteT (k2 (no fun c hc => nox c.cell ⟨hc.1.cell, (clx c hc).1⟩) _ sH5)⟩)⟩
          rw [dec_neg (unO_ge ho.1)]
          refine iteF ⟨_, rfl, _, rfl, l, _, _, _, rfl, rfl, SqL.of hl5, at_last _ _ _, .st y rfl ly (fun d hd => ⟨_, _, rfl, rfl, _, rfl, ?_⟩) (fun noy => ⟨_, _, rfl, rfl, _, rfl, iteT (k2 (no fun c hc => noy c.makes ⟨hc.1.makes, (clx c hc).2.2⟩) _ sH5)⟩)⟩
          rw [dec_neg hd.1.1]
          refine iteF ⟨_, rfl, .inl ⟨rfl, _, SqL.of (s25 _ _ hcl2)⟩, _, rfl, l, _, 0, .str x, rfl, rfl, SqL.of hl5, at0 _, .wa x rfl lx (fun o2 ho2 => ⟨_, rfl, _, rfl, _, rfl, l, _, _, _, rfl, rfl, SqL.of hl5, at_last _ _ _, y, d, rfl, by rw [hd.2]; exact (st_facts hd.1).1, by rw [hd.2]; show 1 ≤ 640; decide, (by show 3 ≤ sizeLine; decide), fun q hq => ?_⟩) (fun nox => absurd ho (nox o))⟩
          have s6 := same_upd (o := .tup [.int (unO o2), .ref t, .int d]) hq
          have oc : ClauseA.ok ⟨o2, cn, d⟩ := ⟨ho2.1, hd.1, by
            rw [List.length_map] at lM
            show cn.length ≤ 1000
            omega, okc⟩
          refine ⟨cl, _, _, rfl, rfl, s6 _ _ (s25 _ _ hcl2), by rw [List.length_map, lc]; exact Nat.lt_of_lt_of_le hi (Nat.le_trans sle (Nat.le_trans (Nat.add_le_add_right lz 2) (by decide))), ?_⟩
          have hc6 := s6 _ _ (s25 _ _ hcl2)
          have sf := s25.trans s6
          refine ⟨cs ++ [q], r ++ [⟨o2, cn, d⟩], _, _, _, rfl, fun b' o' e' => ?_, ?_, ?_, ?_, by rw [List.length_append, lc]; rfl, ?_, fun c hc => ?_⟩
          · rw [upd_ne (ne_of_none e' hcl)]
            exact s6 _ _ (sH5 _ _ e')
          · rw [upd_ne nbc]
            exact sf _ _ hb2
          · rw [upd_same, List.map_append]; rfl
          · exact Paired.snoc' (Paired.impMem (fun x' y' hy' z => (z.same sf).put hc6 (oks y' hy')) pr) (LClN.put hc6 ⟨t, ds, nt2, upd_same, s6 _ _ ht5, Paired.imp (fun _ _ z => z.same s6) prc⟩ oc)
          · rw [List.take_add_one, eu, et, List.map_append]
            congr 1
            show [u] = [clauseT ⟨o2, cn, d⟩]
            rw [← jn2, ho2.2, hd.2, show Str.ofString " " = (⟨#[32]⟩ : Str) by decide +kernel]
            rfl
          · rcases List.mem_append.mp hc with z | z
            · exact oks c z
            · rw [List.mem_singleton.mp z]; exact oc
    · rintro σ H2 ⟨cs, r, u2, u3, u4, rfl, sm, hb2, hcl2, pr, lc, et, oks⟩
      rw [List.length_map, List.take_length] at et
      have ez : z = ruleT r := by rw [← jn, et]; rfl
      refine ⟨_, rfl, k1 r ⟨⟨?_, oks, by rw [← ez]; omega⟩, ez⟩ cl H2 sm ⟨cs, hcl2, Paired.imp (fun _ _ z => z.at) pr⟩⟩
      have := congrArg List.length et
      rw [List.length_map] at this
      omega
end
end J

set_option maxHeartbeats 200000
set_option Elab.async false
set_option linter.all false
set_option maxRecDepth 100000
set_option maxHeartbeats 4000000
/-! Texts that are spoiled: only how long they are. -/
namespace J
open PySem L2
theorem at_ex {α : Type} {l : List α} {i : Int} (h0 : 0 ≤ i) (h1 : i < l.length) : ∃ c, atI l i = some c ∧ c ∈ l := by
  obtain ⟨n, rfl⟩ := Int.eq_ofNat_of_zero_le h0
  have h : n < l.length := by omega
  exact ⟨l[n], atI_nat (List.getElem?_eq_getElem h), List.getElem_mem h⟩
def lenS (m : Nat) : V → Bool
  | .str x => decide (x.length ≤ m)
  | _ => false
theorem lenS_all {m : Nat} {L : List V} (h : L.all (lenS m) = true) : ∀ v ∈ L, ∃ x : Str, v = .str x ∧ x.length ≤ m := fun v hv => by
  have := List.all_eq_true.mp h v hv
  cases v <;> first | exact ⟨_, rfl, of_decide_eq_true this⟩ | cases this
theorem pickS {K : PySem.W.Frag} {H : Hp} {q : Addr} {L : List V} {i : Int} {Q : VK} {m : Nat} (h : H q = some (.lst L)) (ok : ∀ v ∈ L, ∃ x : Str, v = .str x ∧ x.length ≤ m) (h0 : 0 ≤ i) (h1 : i < L.length) (k : ∀ x : Str, x.length ≤ m → Q (.str x) H) : rIxL K (.ref q) (.int i) H Q := by
  obtain ⟨v, hv, mv⟩ := at_ex h0 h1
  obtain ⟨x, rfl, lx⟩ := ok v mv
  exact ⟨q, L, i, _, rfl, rfl, SqL.of h, hv, k x lx⟩
theorem one7 {e : Int} (h1 : 1 ≤ e) (h7 : e ≤ 7) : e.natAbs.log2 < 1920 ∧ (Str.ofString (toString e)).length = 1 := by
  have : e = 1 ∨ e = 2 ∨ e = 3 ∨ e = 4 ∨ e = 5 ∨ e = 6 ∨ e = 7 := by omega
  rcases this with rfl | rfl | rfl | rfl | rfl | rfl | rfl <;> exact ⟨by decide +kernel, by decide +kernel⟩
theorem from_len (z : Str) {j : Int} (h0 : 0 ≤ j) : (Txt.slice z (some j) none).length = z.length - j.toNat := by
  rw [Nu.len, Nu.cutFrom z j h0, List.length_drop, ← Nu.len]
theorem both_len (z : Str) {j i : Int} (h0 : 0 ≤ j) (h1 : j ≤ z.length) (h2 : j ≤ i) : (Txt.slice z none (some j)).length + (Txt.slice z (some i) none).length ≤ z.length := by
  rw [from_len z (by omega), Nu.cutTo z h0 h1]
  omega
section
variable {P : Program} {w : World} {K : PySem.W.Frag} {mg : Str → Option Value} {base : Heap} {a : Ad}
inductive SpSg (vs : List V) (H : Hp) (Q : VK) : Prop
  | mk (c : Int) (_ : vs = [.int c]) (_ : ∀ x : Str, x.length = 1 → Q (.str x) H) : SpSg vs H Q
def spSg : Sp := fun vs H Q _ => SpSg vs H Q
theorem ok_sg {f : Addr} {fd : FuncData} (F : Fun K "_law_sign_by" "_law_sign_by" s__law_sign_by f fd) (T : Top K mg a) : FnOk P w K mg base CX0 1 f fd p__law_sign_by spSg := by
  refine F.ok sc__law_sign_by (fun vs H Q E h => ?_) (fun cdv A outer s H vs Q E hr h => ?_)
  · obtain ⟨c, rfl, _⟩ := h
    rfl
  · obtain ⟨c, rfl, k⟩ := h
    refine ⟨_, (@pss_cons _ _ _ _ _ (@ps_set _ _ (1) _ _ _ _ sc__law_sign_by.nd rfl (Or.inl rfl) (@pe_op _ _ _ _ _ _ _ _ (@op_add_str _) (@pe_str _ _ _ _) (@pe_str _ _ _ _)) rfl (by first | exact .inl rfl | exact .inr rfl | assumption)) (@pss_cons _ _ _ _ _ (@ps_set _ _ (1) _ _ _ _ sc__law_sign_by.nd rfl (Or.inl rfl) (@pe_op _ _ _ _ _ _ _ _ (@op_add_str _) (pv 1) (@pe_str _ _ _ _)) rfl (by first | exact .inl rfl | exact .inr rfl | assumption)) (@pss_cons _ _ _ _ _ (@ps_if _ _ _ _ _ _ _ _ (@pt_cmpR _ _ _ _ _ _ _ _ (@op_eq _) (@pe_op _ _ _ _ _ _ _ _ (@op_mod _) (pv 0) (@pe_int _ _ _ _)) (@pe_int _ _ _ _) (nomark _)) (@pss_one _ _ _ (@ps_ret _ _ _ _ (@pe_ix _ _ _ _ _ _ _ (@ix_str _) (pv 1) (@pe_op _ _ _ _ _ _ _ _ (@op_mod _) (@pe_op _ _ _ _ _ _ _ _ (@op_fdiv _) (pv 0) (@pe_int _ _ _ _)) (@pe_int _ _ _ _)) (fun _ _ => rfl)))) (@pss_nil _)) (@pss_one _ _ _ (@ps_ret _ _ _ _ (@pe_ix _ _ _ _ _ _ _ (@ix_str _) (pv 1) (@pe_op _ _ _ _ _ _ _ _ (@op_mod _) (@pe_op _ _ _ _ _ _ _ _ (@op_fdiv _) (pv 0) (@pe_int _ _ _ _)) (@pe_callB _ _ _ _ _ _ _ _ _ (@call_len_str _) rfl T.b_len PySem.boot_len (@pa_cons _ _ _ _ _ (pv 1) (@pa_nil _) rfl) (by decide) (by decide) rfl rfl)) (fun _ _ => rfl))))))), ?_⟩
    try dsimp only [cxK]
    refine ⟨_, _, rfl, rfl, (by decide +kernel), _, rfl, _, _, rfl, rfl, (by decide +kernel), ?_⟩
    have l13 : 13 ≤ ((Str.ofString "01234567*=; 8" ++ Str.ofString "abcdefghijklmnopqrstuvwxyzABCDEFGHIJKLMNOPQRSTUVWXYZ9") ++ Str.ofString "!\"#$&'()+,-./:<>?\x40[\\]^_`{|}~\n\t").length ∧ ((Str.ofString "01234567*=; 8" ++ Str.ofString "abcdefghijklmnopqrstuvwxyzABCDEFGHIJKLMNOPQRSTUVWXYZ9") ++ Str.ofString "!\"#$&'()+,-./:<>?\x40[\\]^_`{|}~\n\t").length ≤ 100000 := ⟨by decide +kernel, by decide +kernel⟩
    show (tSeq _ _) _ _ _
    generalize ((Str.ofString "01234567*=; 8" ++ Str.ofString "abcdefghijklmnopqrstuvwxyzABCDEFGHIJKLMNOPQRSTUVWXYZ9") ++ Str.ofString "!\"#$&'()+,-./:<>?\x40[\\]^_`{|}~\n\t") = S at l13 ⊢
    have lS : S.length ≤ sizeLine := Nat.le_trans l13.2 (by decide)
    refine ⟨_, rfl, _, _, rfl, rfl, (by show (0 : Int) < 2; decide), rfl, _, rfl, ?_⟩
    refine ite2 (fun _ => ?_) (fun _ => ?_)
    · obtain ⟨ch, hc, _⟩ := at_ex (l := S.cps.toList) (i := c / 2 % 13) (by omega) (by rw [← Nu.len]; omega)
      exact ⟨_, rfl, _, rfl, _, _, rfl, rfl, ⟨by decide, by decide⟩, _, _, rfl, rfl, (by show (0 : Int) < 13; decide), S, _, ch, rfl, rfl, lS, hc, k _ rfl⟩
    · have hp : (0 : Int) < (S.length : Int) := by omega
      have m0 := Int.emod_nonneg (c / 2) (by omega : (S.length : Int) ≠ 0)
      have m1 := Int.emod_lt_of_pos (c / 2) hp
      obtain ⟨ch, hc, _⟩ := at_ex (l := S.cps.toList) (i := c / 2 % (S.length : Int)) m0 (by rw [← Nu.len]; exact m1)
      exact ⟨_, rfl, _, rfl, _, _, rfl, rfl, ⟨by decide, by decide⟩, _, rfl, S, rfl, lS, _, _, rfl, rfl, hp, S, _, ch, rfl, rfl, lS, hc, k _ rfl⟩
inductive SpOd (vs : List V) (H : Hp) (Q : VK) : Prop
  | mk (c : Int) (_ : vs = [.int c]) (_ : ∀ (x : Str) (H' : Hp), x.length ≤ 20 → Same H H' → Q (.str x) H') : SpOd vs H Q
def spOd : Sp := fun vs H Q _ => SpOd vs H Q
theorem ok_od {f : Addr} {fd : FuncData} (F : Fun K "_law_odd" "_law_odd" s__law_odd f fd) (T : Top K mg a) : FnOk P w K mg base CX0 1 f fd p__law_odd spOd := by
  refine F.ok sc__law_odd (fun vs H Q E h => ?_) (fun cdv A outer s H vs Q E hr h => ?_)
  · obtain ⟨c, rfl, _⟩ := h
    rfl
  · obtain ⟨c, rfl, k⟩ := h
    refine ⟨_, (@pss_cons _ _ _ _ _ (@ps_set _ _ (1) _ _ _ _ sc__law_odd.nd rfl (Or.inl rfl) (@pe_lst _ _ _ _ (@pa_str _ _ _ _ _ _ (@pa_str _ _ _ _ _ _ (@pa_str _ _ _ _ _ _ (@pa_str _ _ _ _ _ _ (@pa_str _ _ _ _ _ _ (@pa_str _ _ _ _ _ _ (@pa_str _ _ _ _ _ _ (@pa_str _ _ _ _ _ _ (@pa_str _ _ _ _ _ _ (@pa_str _ _ _ _ _ _ (@pa_str _ _ _ _ _ _ (@pa_str _ _ _ _ _ _ (@pa_nil _)))))))))))))) rfl (by first | exact .inl rfl | exact .inr rfl | assumption)) (@pss_cons _ _ _ _ _ (@ps_set _ _ (1) _ _ _ _ sc__law_odd.nd rfl (Or.inl rfl) (@pe_op _ _ _ _ _ _ _ _ (@op_cat _) (pv 1) (@pe_lst _ _ _ _ (@pa_str _ _ _ _ _ _ (@pa_str _ _ _ _ _ _ (@pa_str _ _ _ _ _ _ (@pa_str _ _ _ _ _ _ (@pa_str _ _ _ _ _ _ (@pa_str _ _ _ _ _ _ (@pa_str _ _ _ _ _ _ (@pa_str _ _ _ _ _ _ (@pa_nil _))))))))))) rfl (by first | exact .inl rfl | exact .inr rfl | assumption)) (@pss_cons _ _ _ _ _ (@ps_set _ _ (1) _ _ _ _ sc__law_odd.nd rfl (Or.inl rfl) (@pe_op _ _ _ _ _ _ _ _ (@op_cat _) (pv 1) (@pe_lst _ _ _ _ (@pa_str _ _ _ _ _ _ (@pa_str _ _ _ _ _ _ (@pa_str _ _ _ _ _ _ (@pa_str _ _ _ _ _ _ (@pa_nil _))))))) rfl (by first | exact .inl rfl | exact .inr rfl | assumption)) (@pss_one _ _ _ (@ps_ret _ _ _ _ (@pe_ix _ _ _ _ _ _ _ (@ix_list _) (pv 1) (@pe_op _ _ _ _ _ _ _ _ (@op_mod _) (pv 0) (@pe_int _ _ _ _)) (fun _ _ => rfl))))))), ?_⟩
    try dsimp only [cxK]
    refine ⟨(by show 12 ≤ sizeLine; decide), fun l1 h1 => ?_⟩
    refine ⟨_, rfl, (by show 8 ≤ sizeLine; decide), fun l2 h2 => ⟨l1, l2, _, _, rfl, rfl, same_upd h2 _ _ upd_same, upd_same, (by show 20 ≤ sizeLine; decide), fun l3 h3 => ?_⟩⟩
    refine ⟨_, rfl, (by show 4 ≤ sizeLine; decide), fun l4 h4 => ⟨l3, l4, _, _, rfl, rfl, same_upd h4 _ _ upd_same, upd_same, (by show 24 ≤ sizeLine; decide), fun l5 h5 => ?_⟩⟩
    exact ⟨_, rfl, _, rfl, _, _, rfl, rfl, (by show (0 : Int) < 24; decide), pickS upd_same (lenS_all (m := 20) (by decide +kernel)) (Int.emod_nonneg _ (by decide)) (Int.emod_lt_of_pos _ (by decide)) fun x lx => k x _ lx ((((same_upd h1).trans (same_upd h2)).trans (same_upd h3)).trans ((same_upd h4).trans (same_upd h5)))⟩
theorem ok_ah {f : Addr} {fd : FuncData} (F : Fun K "_law_ahead" "_law_ahead" s__law_ahead f fd) (T : Top K mg a) : FnOk P w K mg base CX0 1 f fd p__law_ahead spOd := by
  refine F.ok sc__law_ahead (fun vs H Q E h => ?_) (fun cdv A outer s H vs Q E hr h => ?_)
  · obtain ⟨c, rfl, _⟩ := h
    rfl
  · obtain ⟨c, rfl, k⟩ := h
    refine ⟨_, (@pss_cons _ _ _ _ _ (@ps_set _ _ (1) _ _ _ _ sc__law_ahead.nd rfl (Or.inl rfl) (@pe_callTy _ _ _ _ _ _ _ _ _ (@call_str_int _) rfl T.b_str PyProof.Rows.boot_str (@pa_op _ _ _ _ _ _ _ _ _ _ (@op_add _) (@pe_int _ _ _ _) (@pe_op _ _ _ _ _ _ _ _ (@op_mod _) (@pe_op _ _ _ _ _ _ _ _ (@op_fdiv _) (pv 0) (@pe_int _ _ _ _)) (@pe_int _ _ _ _)) (@pa_nil _)) (by decide) (by decide) rfl rfl) rfl (by first | exact .inl rfl | exact .inr rfl | assumption)) (@pss_cons _ _ _ _ _ (@ps_if _ _ _ _ _ _ _ _ (@pt_cmpR _ _ _ _ _ _ _ _ (@op_lt _) (@pe_op _ _ _ _ _ _ _ _ (@op_mod _) (pv 0) (@pe_int _ _ _ _)) (@pe_int _ _ _ _) (nomark _)) (@pss_one _ _ _ (@ps_ret _ _ _ _ (@pe_op _ _ _ _ _ _ _ _ (@op_add_str _) (@pe_op _ _ _ _ _ _ _ _ (@op_add_str _) (@pe_ix _ _ _ _ _ _ _ (@ix_list _) (@pe_lst _ _ _ _ (@pa_str _ _ _ _ _ _ (@pa_str _ _ _ _ _ _ (@pa_nil _)))) (@pe_op _ _ _ _ _ _ _ _ (@op_mod _) (pv 0) (@pe_int _ _ _ _)) (fun _ _ => rfl)) (pv 1)) (@pe_str _ _ _ _)))) (@pss_nil _)) (@pss_one _ _ _ (@ps_ret _ _ _ _ (@pe_op _ _ _ _ _ _ _ _ (@op_add_str _) (@pe_op _ _ _ _ _ _ _ _ (@op_add_str _) (@pe_ix _ _ _ _ _ _ _ (@ix_list _) (@pe_lst _ _ _ _ (@pa_op _ _ _ _ _ _ _ _ _ _ (@op_add_str _) (@pe_op _ _ _ _ _ _ _ _ (@op_add_str _) (@pe_str _ _ _ _) (pv 1)) (@pe_str _ _ _ _) (@pa_str _ _ _ _ _ _ (@pa_nil _)))) (@pe_op _ _ _ _ _ _ _ _ (@op_sub _) (@pe_op _ _ _ _ _ _ _ _ (@op_mod _) (pv 0) (@pe_int _ _ _ _)) (@pe_int _ _ _ _)) (fun _ _ => rfl)) (pv 1)) (@pe_str _ _ _ _)))))), ?_⟩
    try dsimp only [cxK]
    obtain ⟨o1, o2⟩ := one7 (e := 1 + c / 4 % 7) (by omega) (by omega)
    refine ⟨_, rfl, _, _, rfl, rfl, ⟨by decide, by decide⟩, _, _, rfl, rfl, (by show (0 : Int) < 7; decide), _, _, rfl, rfl, _, rfl, o1, ?_⟩
    generalize Str.ofString (toString (1 + c / 4 % 7)) = t at o2 ⊢
    refine ⟨_, rfl, _, _, rfl, rfl, (by show (0 : Int) < 4; decide), _, _, rfl, rfl, _, rfl, ?_⟩
    have e2 : (Str.ofString "; ").length = 2 := by decide +kernel
    have fin : ∀ (x : Str) (H' : Hp), x.length ≤ 16 → Same H H' → Q (.str (x ++ t ++ Str.ofString "; ")) H' := fun x H' lx s' => k _ _ (by rw [Tx.app_len, Tx.app_len, o2, e2]; omega) s'
    refine ite2 (fun hc => ?_) (fun hc => ?_)
    · have hc2 := of_decide_eq_true hc
      refine ⟨(by show 2 ≤ sizeLine; decide), fun l h1 => ⟨_, rfl, _, _, rfl, rfl, (by show (0 : Int) < 4; decide), pickS upd_same (lenS_all (m := 16) (by decide +kernel)) (Int.emod_nonneg _ (by decide)) hc2 fun x lx => ?_⟩⟩
      exact ⟨_, rfl, x, t, rfl, rfl, le_line (by omega), _, _, rfl, rfl, le_line (by rw [Tx.app_len]; omega), fin x _ lx (same_upd h1)⟩
    · have hc2 : ¬ (c % 4 < 2) := fun q => hc (decide_eq_true q)
      have e3 : (Str.ofString "* ").length = 2 := by decide +kernel
      have e4 : (Str.ofString "=0 ").length = 3 := by decide +kernel
      refine ⟨_, rfl, _, _, rfl, rfl, le_line (by omega), _, _, rfl, rfl, le_line (by rw [Tx.app_len]; omega), (by show 2 ≤ sizeLine; decide), fun l h1 => ⟨_, rfl, _, _, rfl, rfl, (by show (0 : Int) < 4; decide), _, _, rfl, rfl, pickS (m := 16) upd_same (fun v hv => ?_) (by omega) (by show c % 4 - 2 < 2; omega) fun x lx => ?_⟩⟩
      · rcases List.mem_cons.mp hv with q | q
        · exact ⟨_, q, by rw [Tx.app_len, Tx.app_len]; omega⟩
        · exact ⟨_, List.mem_singleton.mp q, by decide +kernel⟩
      · exact ⟨_, rfl, x, t, rfl, rfl, le_line (by omega), _, _, rfl, rfl, le_line (by rw [Tx.app_len]; omega), fin x _ lx (same_upd h1)⟩
inductive SpSp (vs : List V) (H : Hp) (Q : VK) : Prop
  | mk (z : Str) (wy st c : Int) (_ : vs = [.str z, .int wy, .int st, .int c]) (_ : z.length ≤ 800) (_ : ∀ (x : Str) (H' : Hp), x.length ≤ 900 → Same H H' → Q (.str x) H') : SpSp vs H Q
def spSp : Sp := fun vs H Q _ => SpSp vs H Q
theorem ok_sp {f : Addr} {fd : FuncData} (F : Fun K "_law_spoiled" "_law_spoiled" s__law_spoiled f fd) (T : Top K mg a) (C__law_sign_by : Cal P w K mg base CX0 1 "_law_sign_by" p__law_sign_by spSg) (C__law_odd : Cal P w K mg base CX0 1 "_law_odd" p__law_odd spOd) (C__law_ahead : Cal P w K mg base CX0 1 "_law_ahead" p__law_ahead spOd) : FnOk P w K mg base CX0 2 f fd p__law_spoiled spSp := by
  refine F.ok sc__law_spoiled (fun vs H Q E h => ?_) (fun cdv A outer s H vs Q E hr h => ?_)
  · obtain ⟨z, wy, st, c, rfl, _⟩ := h
    rfl
  · obtain ⟨z, wy, st, c, rfl, lz, k⟩ := h
    refine ⟨_, (@pss_cons _ _ _ _ _ (@ps_set _ _ (4) _ _ _ _ sc__law_spoiled.nd rfl (Or.inl rfl) (@pe_op _ _ _ _ _ _ _ _ (@op_mod _) (pv 2) (@pe_op _ _ _ _ _ _ _ _ (@op_add _) (@pe_callB _ _ _ _ _ _ _ _ _ (@call_len_str _) rfl T.b_len PySem.boot_len (@pa_cons _ _ _ _ _ (pv 0) (@pa_nil _) rfl) (by decide) (by decide) rfl rfl) (@pe_int _ _ _ _))) rfl (by first | exact .inl rfl | exact .inr rfl | assumption)) (@pss_cons _ _ _ _ _ (@ps_if _ _ _ _ _ _ _ _ (@pt_cmpR _ _ _ _ _ _ _ _ (@op_eq _) (pv 1) (@pe_int _ _ _ _) (nomark _)) (@pss_one _ _ _ (@ps_ret _ _ _ _ (@pe_op _ _ _ _ _ _ _ _ (@op_add_str _) (@pe_op _ _ _ _ _ _ _ _ (@op_add_str _) (@pe_slice _ _ _ _ _ _ _ _ _ _ (@sl_str _) (pv 0) (@po_none _) (@po_some _ _ _ (pv 4))) (@pe_cal _ _ _ _ _ _ _ _ _ _ _ _ C__law_sign_by (rm hr) rfl pass0 (@pa_cons _ _ _ _ _ (pv 3) (@pa_nil _) rfl) (by decide) rfl rfl)) (@pe_slice _ _ _ _ _ _ _ _ _ _ (@sl_str _) (pv 0) (@po_some _ _ _ (pv 4)) (@po_none _))))) (@pss_nil _)) (@pss_cons _ _ _ _ _ (@ps_if _ _ _ _ _ _ _ _ (@pt_cmpR _ _ _ _ _ _ _ _ (@op_eq _) (pv 1) (@pe_int _ _ _ _) (nomark _)) (@pss_one _ _ _ (@ps_ret _ _ _ _ (@pe_op _ _ _ _ _ _ _ _ (@op_add_str _) (@pe_op _ _ _ _ _ _ _ _ (@op_add_str _) (@pe_slice _ _ _ _ _ _ _ _ _ _ (@sl_str _) (pv 0) (@po_none _) (@po_some _ _ _ (pv 4))) (@pe_cal _ _ _ _ _ _ _ _ _ _ _ _ C__law_sign_by (rm hr) rfl pass0 (@pa_cons _ _ _ _ _ (pv 3) (@pa_nil _) rfl) (by decide) rfl rfl)) (@pe_slice _ _ _ _ _ _ _ _ _ _ (@sl_str _) (pv 0) (@po_some _ _ _ (@pe_op _ _ _ _ _ _ _ _ (@op_add _) (pv 4) (@pe_int _ _ _ _))) (@po_none _))))) (@pss_nil _)) (@pss_cons _ _ _ _ _ (@ps_if _ _ _ _ _ _ _ _ (@pt_cmpR _ _ _ _ _ _ _ _ (@op_eq _) (pv 1) (@pe_int _ _ _ _) (nomark _)) (@pss_one _ _ _ (@ps_ret _ _ _ _ (@pe_op _ _ _ _ _ _ _ _ (@op_add_str _) (@pe_slice _ _ _ _ _ _ _ _ _ _ (@sl_str _) (pv 0) (@po_none _) (@po_some _ _ _ (pv 4))) (@pe_slice _ _ _ _ _ _ _ _ _ _ (@sl_str _) (pv 0) (@po_some _ _ _ (@pe_op _ _ _ _ _ _ _ _ (@op_add _) (pv 4) (@pe_int _ _ _ _))) (@po_none _))))) (@pss_nil _)) (@pss_cons _ _ _ _ _ (@ps_if _ _ _ _ _ _ _ _ (@pt_cmpR _ _ _ _ _ _ _ _ (@op_eq _) (pv 1) (@pe_int _ _ _ _) (nomark _)) (@pss_one _ _ _ (@ps_ret _ _ _ _ (@pe_cal _ _ _ _ _ _ _ _ _ _ _ _ C__law_odd (rm hr) rfl pass0 (@pa_cons _ _ _ _ _ (pv 3) (@pa_nil _) rfl) (by decide) rfl rfl))) (@pss_nil _)) (@pss_cons _ _ _ _ _ (@ps_if _ _ _ _ _ _ _ _ (@pt_cmpR _ _ _ _ _ _ _ _ (@op_eq _) (pv 1) (@pe_int _ _ _ _) (nomark _)) (@pss_one _ _ _ (@ps_ret _ _ _ _ (@pe_op _ _ _ _ _ _ _ _ (@op_add_str _) (@pe_cal _ _ _ _ _ _ _ _ _ _ _ _ C__law_ahead (rm hr) rfl pass0 (@pa_cons _ _ _ _ _ (pv 3) (@pa_nil _) rfl) (by decide) rfl rfl) (pv 0)))) (@pss_nil _)) (@pss_cons _ _ _ _ _ (@ps_if _ _ _ _ _ _ _ _ (@pt_cmpR _ _ _ _ _ _ _ _ (@op_eq _) (pv 1) (@pe_int _ _ _ _) (nomark _)) (@pss_cons _ _ _ _ _ (@ps_set _ _ (0) _ _ _ _ sc__law_spoiled.nd rfl (Or.inl rfl) (@pe_op _ _ _ _ _ _ _ _ (@op_add_str _) (@pe_cal _ _ _ _ _ _ _ _ _ _ _ _ C__law_ahead (rm hr) rfl pass0 (@pa_op _ _ _ _ _ _ _ _ _ _ (@op_fdiv _) (pv 3) (@pe_int _ _ _ _) (@pa_nil _)) (by decide) rfl rfl) (pv 0)) rfl (by first | exact .inl rfl | exact .inr rfl | assumption)) (@pss_cons _ _ _ _ _ (@ps_set _ _ (4) _ _ _ _ sc__law_spoiled.nd rfl (Or.inl rfl) (@pe_op _ _ _ _ _ _ _ _ (@op_mod _) (pv 2) (@pe_op _ _ _ _ _ _ _ _ (@op_add _) (@pe_callB _ _ _ _ _ _ _ _ _ (@call_len_str _) rfl T.b_len PySem.boot_len (@pa_cons _ _ _ _ _ (pv 0) (@pa_nil _) rfl) (by decide) (by decide) rfl rfl) (@pe_int _ _ _ _))) rfl (by first | exact .inl rfl | exact .inr rfl | assumption)) (@pss_one _ _ _ (@ps_ret _ _ _ _ (@pe_op _ _ _ _ _ _ _ _ (@op_add_str _) (@pe_op _ _ _ _ _ _ _ _ (@op_add_str _) (@pe_slice _ _ _ _ _ _ _ _ _ _ (@sl_str _) (pv 0) (@po_none _) (@po_some _ _ _ (pv 4))) (@pe_cal _ _ _ _ _ _ _ _ _ _ _ _ C__law_sign_by (rm hr) rfl pass0 (@pa_cons _ _ _ _ _ (pv 3) (@pa_nil _) rfl) (by decide) rfl rfl)) (@pe_slice _ _ _ _ _ _ _ _ _ _ (@sl_str _) (pv 0) (@po_some _ _ _ (@pe_op _ _ _ _ _ _ _ _ (@op_add _) (pv 4) (@pe_int _ _ _ _))) (@po_none _))))))) (@pss_nil _)) (@pss_one _ _ _ (@ps_ret _ _ _ _ (pv 0)))))))))), ?_⟩
    try dsimp only [cxK]
    have sl : ∀ {x : Str}, x.length ≤ 900 → x.length ≤ sizeLine := fun h => Nat.le_trans h (by decide)
    have at' : ∀ x : Str, 0 ≤ st % ((x.length : Int) + 1) ∧ st % ((x.length : Int) + 1) ≤ x.length := fun x => by
      have m0 := Int.emod_nonneg st (by omega : (x.length : Int) + 1 ≠ 0)
      have m1 := Int.emod_lt_of_pos st (by omega : (0 : Int) < (x.length : Int) + 1)
      exact ⟨m0, by omega⟩
    refine ⟨_, rfl, _, rfl, z, rfl, sl (by omega), _, _, rfl, rfl, _, _, rfl, rfl, (by show (0 : Int) < (z.length : Int) + 1; omega), ?_⟩
    obtain ⟨a0, a1⟩ := at' z
    have b0 := both_len z a0 a1 (Int.le_refl _)
    have b1 := both_len z (i := st % ((z.length : Int) + 1) + 1) a0 a1 (by omega)
    refine ⟨_, rfl, rfl, _, rfl, ite2 (fun _ => ?_) (fun _ => ?_)⟩
    · refine ⟨_, rfl, _, rfl, _, rfl, z, rfl, sl (by omega), _, rfl, c, rfl, fun x lx => ⟨_, _, rfl, rfl, le_line (by omega), _, rfl, _, rfl, _, rfl, z, rfl, sl (by omega), _, _, rfl, rfl, le_line (by rw [Tx.app_len]; omega), k _ _ (by rw [Tx.app_len, Tx.app_len]; omega) (Same.refl H)⟩⟩
    refine ⟨_, rfl, rfl, _, rfl, ite2 (fun _ => ?_) (fun _ => ?_)⟩
    · refine ⟨_, rfl, _, rfl, _, rfl, z, rfl, sl (by omega), _, rfl, c, rfl, fun x lx => ⟨_, _, rfl, rfl, le_line (by omega), _, rfl, _, rfl, _, _, rfl, rfl, _, rfl, z, rfl, sl (by omega), _, _, rfl, rfl, le_line (by rw [Tx.app_len]; omega), k _ _ (by rw [Tx.app_len, Tx.app_len]; omega) (Same.refl H)⟩⟩
    refine ⟨_, rfl, rfl, _, rfl, ite2 (fun _ => ?_) (fun _ => ?_)⟩
    · refine ⟨_, rfl, _, rfl, _, rfl, z, rfl, sl (by omega), _, rfl, _, rfl, _, _, rfl, rfl, _, rfl, z, rfl, sl (by omega), _, _, rfl, rfl, le_line (by omega), k _ _ (by rw [Tx.app_len]; omega) (Same.refl H)⟩
    refine ⟨_, rfl, rfl, _, rfl, ite2 (fun _ => ?_) (fun _ => ?_)⟩
    · exact ⟨_, rfl, c, rfl, fun x H' lx s' => k x H' (by omega) s'⟩
    refine ⟨_, rfl, rfl, _, rfl, ite2 (fun _ => ?_) (fun _ => ?_)⟩
    · exact ⟨_, rfl, c, rfl, fun x H' lx s' => ⟨_, rfl, _, _, rfl, rfl, le_line (by omega), k _ _ (by rw [Tx.app_len]; omega) s'⟩⟩
    refine ⟨_, rfl, rfl, _, rfl, ite2 (fun _ => ?_) (fun _ => ?_)⟩
    · refine ⟨_, rfl, _, _, rfl, rfl, ⟨by decide, by decide⟩, _, rfl, fun y H' ly s' => ⟨_, rfl, y, z, rfl, rfl, le_line (by omega), ?_⟩⟩
      have lt : (y ++ z).length ≤ 820 := by rw [Tx.app_len]; omega
      show (tSeq _ _) _ _ _
      generalize y ++ z = t at lt ⊢
      refine ⟨_, rfl, _, rfl, t, rfl, sl (by omega), _, _, rfl, rfl, _, _, rfl, rfl, (by show (0 : Int) < (t.length : Int) + 1; omega), ?_⟩
      obtain ⟨c0, c1⟩ := at' t
      have b1 := both_len t (i := st % ((t.length : Int) + 1) + 1) c0 c1 (by omega)
      exact ⟨_, rfl, _, rfl, _, rfl, t, rfl, sl (by omega), _, rfl, c, rfl, fun x lx => ⟨_, _, rfl, rfl, le_line (by omega), _, rfl, _, rfl, _, _, rfl, rfl, _, rfl, t, rfl, sl (by omega), _, _, rfl, rfl, le_line (by rw [Tx.app_len]; omega), k _ _ (by rw [Tx.app_len, Tx.app_len]; omega) s'⟩⟩
    · exact ⟨_, rfl, k z H (by omega) (Same.refl H)⟩
end
end J

set_option maxHeartbeats 200000
set_option Elab.async false
set_option linter.all false
set_option maxRecDepth 100000
set_option maxHeartbeats 4000000
/-! A refusal of its own kind; what is said of a thing. -/
namespace J
open PySem L2
section
variable {P : Program} {w : World} {K : PySem.W.Frag} {mg : Str → Option Value} {base : Heap} {a : Ad}
inductive SpSh (a : Ad) (vs : List V) (H : Hp) (Q : VK) : Prop
  | mk (p : Addr) (x : Str) (r : RuleA) (_ : vs = [.ref p]) (_ : RuleAt a H p x r) (_ : Q (.str x) H) : SpSh a vs H Q
def spSh (a : Ad) : Sp := fun vs H Q _ => SpSh a vs H Q
theorem ok_sh {f : Addr} {fd : FuncData} (F : Fun K "shown_rule" "shown_rule" s_shown_rule f fd) (T : Top K mg a) : FnOk P w K mg base CX0 1 f fd p_shown_rule (spSh a) := by
  refine F.ok sc_shown_rule (fun vs H Q E h => ?_) (fun cdv A outer s H vs Q E hr h => ?_)
  · obtain ⟨p, x, r, rfl, _⟩ := h
    rfl
  · obtain ⟨p, x, r, rfl, hR, k⟩ := h
    obtain ⟨dx, t, cs, hp, ht, hcs⟩ := hR.ex
    refine ⟨_, (@pss_one _ _ _ (@ps_ret _ _ _ _ (@pe_fld _ _ _ _ _ (pv 0) rfl))), ?_⟩
    try dsimp only [cxK]
    exact ⟨_, rfl, p, _, dx, _, _, rfl, hp, T.cl_Rule, T.na_Rule_text, fl2_1 (by decide +kernel), k⟩
/-- a refusal: no rule (n), or one by which something comes of nothing -/
structure KiN (K : PySem.W.Frag) (a : Ad) (c : Addr) (n : Bool) : Prop where
  ec : ExcC K c
  ef : ExcF K c
  mn : PySem.W.mroIn K c (.ref a.x_Restless) = some (!n)
  mr : PySem.W.mroIn K c (.ref a.x_NoRule) = some n
  kf : PySem.W.kitOne K (.ref c) (.ref a.x_FieldError) = some true
  kv : PySem.W.kitOne K (.ref c) (.type "ValueError") = some true
  o1 : PySem.W.kitOne K (.ref c) (.ref a.x_NoSquare) = some false
  o2 : PySem.W.kitOne K (.ref c) (.ref a.x_NoLevel) = some false
  o3 : PySem.W.kitOne K (.ref c) (.ref a.x_NoState) = some false
  o4 : PySem.W.kitOne K (.ref c) (.ref a.x_NoBox) = some false
  o5 : PySem.W.kitOne K (.ref c) (.ref a.x_TooFar) = some false
  o6 : PySem.W.kitOne K (.ref c) (.ref a.x_TooMany) = some false
  o7 : PySem.W.kitOne K (.ref c) (.ref a.x_NoSteps) = some false
  o8 : PySem.W.kitOne K (.ref c) (.ref a.x_NoPattern) = some false
  o9 : PySem.W.kitOne K (.ref c) (.ref a.x_NoName) = some false
  o10 : PySem.W.kitOne K (.ref c) (.ref a.x_NoRow) = some false
  o11 : PySem.W.kitOne K (.ref c) (.ref a.x_NoNumber) = some false
  nn : PySem.W.kitOne K (.ref c) (.ref a.x_NoRule) = some n
theorem kin_no (T : Top K mg a) : KiN K a a.x_NoRule true := ⟨T.ec_NoRule, T.ef_NoRule, T.mm_NoRule_Restless, T.mm_NoRule_NoRule, T.kf_NoRule, T.kv_NoRule, T.ki_NoRule_NoSquare, T.ki_NoRule_NoLevel, T.ki_NoRule_NoState, T.ki_NoRule_NoBox, T.ki_NoRule_TooFar, T.ki_NoRule_TooMany, T.ki_NoRule_NoSteps, T.ki_NoRule_NoPattern, T.ki_NoRule_NoName, T.ki_NoRule_NoRow, T.ki_NoRule_NoNumber, T.ki_NoRule_NoRule⟩
theorem kin_re (T : Top K mg a) : KiN K a a.x_Restless false := ⟨T.ec_Restless, T.ef_Restless, T.mm_Restless_Restless, T.mm_Restless_NoRule, T.kf_Restless, T.kv_Restless, T.ki_Restless_NoSquare, T.ki_Restless_NoLevel, T.ki_Restless_NoState, T.ki_Restless_NoBox, T.ki_Restless_TooFar, T.ki_Restless_TooMany, T.ki_Restless_NoSteps, T.ki_Restless_NoPattern, T.ki_Restless_NoName, T.ki_Restless_NoRow, T.ki_Restless_NoNumber, T.ki_Restless_NoRule⟩
inductive SpOt (K : PySem.W.Frag) (a : Ad) (vs : List V) (H : Hp) (Q : VK) : Prop
  | mk (e c : Addr) (n : Bool) (_ : vs = [.ref e]) (_ : H e = some (isExc e c)) (_ : KiN K a c n) (_ : ∀ p H', Same H H' → H' p = some (.lst (List.replicate 10 (V.bl false))) → Q (.ref p) H') : SpOt K a vs H Q
def spOt (K : PySem.W.Frag) (a : Ad) : Sp := fun vs H Q _ => SpOt K a vs H Q
theorem ok_ot {f : Addr} {fd : FuncData} (F : Fun K "_law_others" "_law_others" s__law_others f fd) (T : Top K mg a) : FnOkH P w K mg base 1 f fd p__law_others (spOt K a) := by
  refine F.okH sc__law_others (fun vs H Q E h => ?_) (fun cdv A outer s H vs Q hr h => ?_)
  · obtain ⟨e, c, n, rfl, _⟩ := h
    rfl
  · obtain ⟨e, c, n, rfl, he, ki, k⟩ := h
    refine ⟨_, (@pss_cons _ _ _ _ _ (@ps_set _ _ (1) _ _ _ _ sc__law_others.nd rfl (Or.inl rfl) (@pe_lst _ _ _ _ (@pa_cons _ _ _ _ _ (@pe_callB _ _ _ _ _ _ _ _ _ (@call_isi _) rfl T.b_isinstance PyProof.Rows.boot_isinstance (@pa_cons _ _ _ _ _ (pv 0) (@pa_cons _ _ _ _ _ (@pe_gref _ _ _ _ rfl T.mx_NoSquare (by decide)) (@pa_nil _) rfl) rfl) (by decide) (by decide) rfl rfl) (@pa_cons _ _ _ _ _ (@pe_callB _ _ _ _ _ _ _ _ _ (@call_isi _) rfl T.b_isinstance PyProof.Rows.boot_isinstance (@pa_cons _ _ _ _ _ (pv 0) (@pa_cons _ _ _ _ _ (@pe_gref _ _ _ _ rfl T.mx_NoLevel (by decide)) (@pa_nil _) rfl) rfl) (by decide) (by decide) rfl rfl) (@pa_cons _ _ _ _ _ (@pe_callB _ _ _ _ _ _ _ _ _ (@call_isi _) rfl T.b_isinstance PyProof.Rows.boot_isinstance (@pa_cons _ _ _ _ _ (pv 0) (@pa_cons _ _ _ _ _ (@pe_gref _ _ _ _ rfl T.mx_NoState (by decide)) (@pa_nil _) rfl) rfl) (by decide) (by decide) rfl rfl) (@pa_cons _ _ _ _ _ (@pe_callB _ _ _ _ _ _ _ _ _ (@call_isi _) rfl T.b_isinstance PyProof.Rows.boot_isinstance (@pa_cons _ _ _ _ _ (pv 0) (@pa_cons _ _ _ _ _ (@pe_gref _ _ _ _ rfl T.mx_NoBox (by decide)) (@pa_nil _) rfl) rfl) (by decide) (by decide) rfl rfl) (@pa_nil _) rfl) rfl) rfl) rfl)) rfl (by first | exact .inl rfl | exact .inr rfl | assumption)) (@pss_cons _ _ _ _ _ (@ps_set _ _ (1) _ _ _ _ sc__law_others.nd rfl (Or.inl rfl) (@pe_op _ _ _ _ _ _ _ _ (@op_cat _) (pv 1) (@pe_lst _ _ _ _ (@pa_cons _ _ _ _ _ (@pe_callB _ _ _ _ _ _ _ _ _ (@call_isi _) rfl T.b_isinstance PyProof.Rows.boot_isinstance (@pa_cons _ _ _ _ _ (pv 0) (@pa_cons _ _ _ _ _ (@pe_gref _ _ _ _ rfl T.mx_TooFar (by decide)) (@pa_nil _) rfl) rfl) (by decide) (by decide) rfl rfl) (@pa_cons _ _ _ _ _ (@pe_callB _ _ _ _ _ _ _ _ _ (@call_isi _) rfl T.b_isinstance PyProof.Rows.boot_isinstance (@pa_cons _ _ _ _ _ (pv 0) (@pa_cons _ _ _ _ _ (@pe_gref _ _ _ _ rfl T.mx_TooMany (by decide)) (@pa_nil _) rfl) rfl) (by decide) (by decide) rfl rfl) (@pa_cons _ _ _ _ _ (@pe_callB _ _ _ _ _ _ _ _ _ (@call_isi _) rfl T.b_isinstance PyProof.Rows.boot_isinstance (@pa_cons _ _ _ _ _ (pv 0) (@pa_cons _ _ _ _ _ (@pe_gref _ _ _ _ rfl T.mx_NoSteps (by decide)) (@pa_nil _) rfl) rfl) (by decide) (by decide) rfl rfl) (@pa_nil _) rfl) rfl) rfl))) rfl (by first | exact .inl rfl | exact .inr rfl | assumption)) (@pss_one _ _ _ (@ps_ret _ _ _ _ (@pe_op _ _ _ _ _ _ _ _ (@op_cat _) (pv 1) (@pe_lst _ _ _ _ (@pa_cons _ _ _ _ _ (@pe_callB _ _ _ _ _ _ _ _ _ (@call_isi _) rfl T.b_isinstance PyProof.Rows.boot_isinstance (@pa_cons _ _ _ _ _ (pv 0) (@pa_cons _ _ _ _ _ (@pe_gref _ _ _ _ rfl T.mx_NoPattern (by decide)) (@pa_nil _) rfl) rfl) (by decide) (by decide) rfl rfl) (@pa_cons _ _ _ _ _ (@pe_callB _ _ _ _ _ _ _ _ _ (@call_isi _) rfl T.b_isinstance PyProof.Rows.boot_isinstance (@pa_cons _ _ _ _ _ (pv 0) (@pa_cons _ _ _ _ _ (@pe_gref _ _ _ _ rfl T.mx_NoName (by decide)) (@pa_nil _) rfl) rfl) (by decide) (by decide) rfl rfl) (@pa_cons _ _ _ _ _ (@pe_callB _ _ _ _ _ _ _ _ _ (@call_isi _) rfl T.b_isinstance PyProof.Rows.boot_isinstance (@pa_cons _ _ _ _ _ (pv 0) (@pa_cons _ _ _ _ _ (@pe_gref _ _ _ _ rfl T.mx_NoRow (by decide)) (@pa_nil _) rfl) rfl) (by decide) (by decide) rfl rfl) (@pa_nil _) rfl) rfl) rfl))))))), ?_⟩
    try dsimp only [cxK]
    have ty : ∀ {H2 : Hp}, Same H H2 → TyX K H2 (.ref e) (.ref c) := fun s => .exc (s _ _ he) ki.ef
    have s0 := Same.refl H
    refine ⟨_, rfl, _, _, _, _, _, rfl, rfl, ty s0, ki.o1, _, rfl, _, _, _, _, _, rfl, rfl, ty s0, ki.o2, _, rfl, _, _, _, _, _, rfl, rfl, ty s0, ki.o3, _, rfl, _, _, _, _, _, rfl, rfl, ty s0, ki.o4, by show 4 ≤ sizeLine; decide, fun p1 hp1 => ?_⟩
    have s1 := same_upd (o := .lst [.bl false, .bl false, .bl false, .bl false]) hp1
    have h1 : upd H p1 (.lst [.bl false, .bl false, .bl false, .bl false]) p1 = some _ := upd_same
    generalize upd H p1 (.lst [.bl false, .bl false, .bl false, .bl false]) = H1 at s1 h1 ⊢
    refine ⟨_, rfl, _, rfl, _, _, _, _, _, rfl, rfl, ty s1, ki.o5, _, rfl, _, _, _, _, _, rfl, rfl, ty s1, ki.o6, _, rfl, _, _, _, _, _, rfl, rfl, ty s1, ki.o7, by show 3 ≤ sizeLine; decide, fun p2 hp2 => ?_⟩
    refine ⟨p1, p2, _, _, rfl, rfl, (same_upd hp2 _ _ h1), upd_same, (by show 4 + 3 ≤ sizeLine; decide), fun p3 hp3 => ?_⟩
    obtain ⟨H3, s3, h3, eH3⟩ : ∃ H3, Same H1 H3 ∧ H3 p3 = some (.lst ([.bl false, .bl false, .bl false, .bl false] ++ [.bl false, .bl false, .bl false])) ∧ upd (upd H1 p2 (.lst [.bl false, .bl false, .bl false])) p3 (.lst ([.bl false, .bl false, .bl false, .bl false] ++ [.bl false, .bl false, .bl false])) = H3 := ⟨_, (same_upd hp2).trans (same_upd hp3), upd_same, rfl⟩
    rw [eH3]
    have s3 := s1.trans s3
    clear eH3
    refine ⟨_, rfl, _, rfl, _, _, _, _, _, rfl, rfl, ty s3, ki.o8, _, rfl, _, _, _, _, _, rfl, rfl, ty s3, ki.o9, _, rfl, _, _, _, _, _, rfl, rfl, ty s3, ki.o10, by show 3 ≤ sizeLine; decide, fun p4 hp4 => ?_⟩
    refine ⟨p3, p4, _, _, rfl, rfl, (same_upd hp4 _ _ h3), upd_same, (by show 7 + 3 ≤ sizeLine; decide), fun p5 hp5 => ?_⟩
    exact k p5 _ (s3.trans ((same_upd hp4).trans (same_upd hp5))) upd_same
inductive SpAl (K : PySem.W.Frag) (a : Ad) (vs : List V) (H : Hp) (Q : VK) : Prop
  | mk (e c : Addr) (n : Bool) (_ : vs = [.ref e]) (_ : H e = some (isExc e c)) (_ : KiN K a c n) (_ : ∀ H', Same H H' → Q (.bl true) H') : SpAl K a vs H Q
def spAl (K : PySem.W.Frag) (a : Ad) : Sp := fun vs H Q _ => SpAl K a vs H Q
theorem ok_al {f : Addr} {fd : FuncData} (F : Fun K "_law_alone" "_law_alone" s__law_alone f fd) (T : Top K mg a) (H__law_others : CalH P w K mg base 1 "_law_others" p__law_others (spOt K a)) : FnOkH P w K mg base 2 f fd p__law_alone (spAl K a) := by
  refine F.okH sc__law_alone (fun vs H Q E h => ?_) (fun cdv A outer s H vs Q hr h => ?_)
  · obtain ⟨e, c, n, rfl, _⟩ := h
    rfl
  · obtain ⟨e, c, n, rfl, he, ki, k⟩ := h
    refine ⟨_, (@pss_cons _ _ _ _ _ (@ps_if _ _ _ _ _ _ _ _ (@PW.pt _ _ _ (@pw_or _ _ _ _ _ _ _ (@pt_val _ _ _ (@pe_callB _ _ _ _ _ _ _ _ _ (@call_isi _) rfl T.b_isinstance PyProof.Rows.boot_isinstance (@pa_cons _ _ _ _ _ (pv 0) (@pa_cons _ _ _ _ _ (@pe_gref _ _ _ _ rfl T.mx_NoNumber (by decide)) (@pa_nil _) rfl) rfl) (by decide) (by decide) rfl rfl) (by intro _ ; rfl)) (@pw_or1 _ _ _ _ (@pt_cmpR _ _ _ _ _ _ _ _ (@op_in_seq _) (@pe_bl _ _ _ _) (@pe_calH _ _ _ _ _ _ _ _ _ _ H__law_others (rmH hr) rfl (@pa_cons _ _ _ _ _ (pv 0) (@pa_nil _) rfl) (by decide) rfl rfl) rfl)))) (@pss_one _ _ _ (@ps_ret _ _ _ _ (@pe_bl _ _ _ _))) (@pss_nil _)) (@pss_one _ _ _ (@ps_ret _ _ _ _ (@pe_and _ _ _ _ _ _ _ (@pe_callB _ _ _ _ _ _ _ _ _ (@call_isi _) rfl T.b_isinstance PyProof.Rows.boot_isinstance (@pa_cons _ _ _ _ _ (pv 0) (@pa_cons _ _ _ _ _ (@pe_gref _ _ _ _ rfl T.mx_FieldError (by decide)) (@pa_nil _) rfl) rfl) (by decide) (by decide) rfl rfl) (@pe_one _ _ _ _ _ (@pe_callB _ _ _ _ _ _ _ _ _ (@call_isi _) rfl T.b_isinstance PyProof.Rows.boot_isinstance (@pa_cons _ _ _ _ _ (pv 0) (@pa_cons _ _ _ _ _ (@pe_bltn _ _ ((.ty "ValueError")) _ _ rfl T.b_ValueError PyProof.Rows.Boot.«ValueError» rfl (by decide) (by decide)) (@pa_nil _) rfl) rfl) (by decide) (by decide) rfl rfl)))))), ?_⟩
    try dsimp only [cxK]
    have ty : ∀ {H2 : Hp}, Same H H2 → TyX K H2 (.ref e) (.ref c) := fun s => .exc (s _ _ he) ki.ef
    have s0 := Same.refl H
    refine ⟨_, rfl, _, _, _, _, _, rfl, rfl, ty s0, ki.o11, false, rfl, iteF ?_⟩
    refine ⟨_, rfl, e, c, n, rfl, he, ki, fun p H2 s2 hp => ?_⟩
    refine ⟨p, _, rfl, .inl (SqL.of hp), rfl, rfl, false, rfl, iteF ?_⟩
    exact ⟨_, rfl, _, _, _, _, _, rfl, rfl, ty s2, ki.kf, true, rfl, iteT ⟨_, rfl, _, _, _, _, _, rfl, rfl, ty s2, ki.kv, k _ s2⟩⟩
/-- what is said of a thing -/
inductive SpSd (K : PySem.W.Frag) (a : Ad) (vs : List V) (H : Hp) (Q : VK) : Prop
  | rule (r : RuleA) (_ : vs = [.str (ruleT r)]) (_ : ROkT r) (_ : becA r 0 zeros8 = 0) (_ : ∀ t H', Same H H' → H' t = some (.tup [.str "rule", .str (ruleT r)]) → Q (.ref t) H') : SpSd K a vs H Q
  | no (z : Str) (_ : vs = [.str z]) (_ : z.length ≤ 900) (_ : ∀ r, ¬ RuR z r) (_ : ∀ t H', Same H H' → H' t = some (.tup [.str "no rule", .bl true]) → Q (.ref t) H') : SpSd K a vs H Q
  | rest (r : RuleA) (_ : vs = [.str (ruleT r)]) (_ : ROkT r) (_ : becA r 0 zeros8 ≠ 0) (_ : ∀ t H', Same H H' → H' t = some (.tup [.str "restless", .bl true]) → Q (.ref t) H') : SpSd K a vs H Q
  | thing (v : V) (t : Value) (_ : vs = [v]) (_ : TyX K H v t) (_ : PySem.W.kitOne K t (.type "str") = some false) (_ : ∀ t H', Same H H' → H' t = some (.tup [.str "no rule", .bl true]) → Q (.ref t) H') : SpSd K a vs H Q
def spSd (K : PySem.W.Frag) (a : Ad) : Sp := fun vs H Q _ => SpSd K a vs H Q
def SSd (v : V) (σ : St) : Prop := ∃ x y, σ = [some v, x, y]
theorem ok_sd {f : Addr} {fd : FuncData} (F : Fun K "_law_said" "_law_said" s__law_said f fd) (T : Top K mg a) (C_read_rule : Cal P w K mg base (CXE P w) 8 "read_rule" p_read_rule (spRRb K a)) (C_shown_rule : Cal P w K mg base CX0 1 "shown_rule" p_shown_rule (spSh a)) (H__law_alone : CalH P w K mg base 2 "_law_alone" p__law_alone (spAl K a)) : FnOk P w K mg base CX0 9 f fd p__law_said (spSd K a) := by
  refine F.ok sc__law_said (fun vs H Q E h => ?_) (fun cdv A outer s H vs Q E hr h => ?_)
  · rcases h with ⟨r, rfl, _⟩ | ⟨z, rfl, _⟩ | ⟨r, rfl, _⟩ | ⟨v, t, rfl, _⟩ <;> rfl
  · obtain ⟨v, rfl⟩ : ∃ v, vs = [v] := by rcases h with ⟨r, rfl, _⟩ | ⟨z, rfl, _⟩ | ⟨r, rfl, _⟩ | ⟨v, t, rfl, _⟩ <;> exact ⟨_, rfl⟩
    refine ⟨_, (@pss_cons _ _ _ _ _ (@ps_set _ _ (1) _ _ _ _ sc__law_said.nd rfl (Or.inl rfl) (@pe_non _ _ _) rfl (by first | exact .inl rfl | exact .inr rfl | assumption)) (@pss_cons _ _ _ _ _ (@ps_tryAs2 _ _ _ _ _ _ _ _ _ _ _ (2) _ _ _ _ _ ((SSd v)) _ _ _ rfl rfl rfl rfl rfl T.mx_Restless T.ec_Restless rfl T.mx_NoRule T.ec_NoRule sc__law_said.nd rfl rfl (fun xe pn E1 pass => (@pss_one _ _ _ (@ps_set _ _ (1) _ _ _ _ sc__law_said.nd rfl (Or.inl rfl) (@pe_calS _ _ _ _ _ _ _ _ _ _ _ _ _ C_read_rule (rm hr) rfl pass (@pa_cons _ _ _ _ _ (pv 0) (@pa_nil _) rfl) (by decide) rfl rfl) rfl (by first | exact .inl rfl | exact .inr rfl | assumption)))) (fun ea => (@pss_one _ _ _ (@ps_ret _ _ _ _ (@pe_tup _ _ _ _ _ (@pa_str _ _ _ _ _ _ (@pa_cons _ _ _ _ _ (@pe_and _ _ _ _ _ _ _ (@pe_calH _ _ _ _ _ _ _ _ _ _ H__law_alone ((rm hr).marked _) rfl (@pa_cons _ _ _ _ _ (pv 2) (@pa_nil _) rfl) (by decide) rfl rfl) (@pe_one _ _ _ _ _ (@pe_not _ _ _ _ (@pe_callB _ _ _ _ _ _ _ _ _ (@call_isiK _ K rfl) rfl T.b_isinstance PyProof.Rows.boot_isinstance (@pa_cons _ _ _ _ _ (pv 2) (@pa_cons _ _ _ _ _ (@pe_gref _ _ _ _ rfl T.mx_NoRule (by decide)) (@pa_nil _) rfl) rfl) (by decide) (by decide) rfl rfl)))) (@pa_nil _) rfl)))))) (fun ea => (@pss_one _ _ _ (@ps_ret _ _ _ _ (@pe_tup _ _ _ _ _ (@pa_str _ _ _ _ _ _ (@pa_cons _ _ _ _ _ (@pe_calH _ _ _ _ _ _ _ _ _ _ H__law_alone ((rm hr).marked _) rfl (@pa_cons _ _ _ _ _ (pv 2) (@pa_nil _) rfl) (by decide) rfl rfl) (@pa_nil _) rfl)))))) (by decide) (by decide)) (@pss_one _ _ _ (@ps_ret _ _ _ _ (@pe_tup _ _ _ _ _ (@pa_str _ _ _ _ _ _ (@pa_cons _ _ _ _ _ (@pe_cal _ _ _ _ _ _ _ _ _ _ _ _ C_shown_rule (rm hr) rfl pass0 (@pa_cons _ _ _ _ _ (pv 1) (@pa_nil _) rfl) (by decide) rfl rfl) (@pa_nil _) rfl))))))), ?_⟩
    try dsimp only [cxK]
    refine ⟨⟨_, _, rfl⟩, _, rfl, ?_⟩
    rcases h with ⟨r, e, ho, hz, k⟩ | ⟨z, e, lz, no, k⟩ | ⟨r, e, ho, hz, k⟩ | ⟨v', t, e, ty, kt, k⟩
    · refine .inl ⟨r, e, ho, hz, fun p H1 s1 hR => ?_⟩
      exact ⟨_, rfl, p, _, r, rfl, hR, (by show 2 ≤ sizeLine; decide), fun t ht => k t _ (s1.trans (same_upd ht)) upd_same⟩
    · refine .inr (.no z e lz no fun H1 s1 => ?_)
      refine ⟨_, rfl, (kin_no T).ec, .inr ⟨⟨(kin_no T).mn, (kin_no T).mr⟩, fun σ' e hS he => ?_⟩⟩
      obtain ⟨x, y, rfl⟩ := hS
      exact ⟨_, rfl, e, _, true, rfl, upd_same, kin_no T, fun H2 s2 => ⟨(by show 2 ≤ sizeLine; decide), fun t ht => k t _ (((s1.trans (same_upd he)).trans s2).trans (same_upd ht)) upd_same⟩⟩
    · refine .inr (.rest r e ho hz fun H1 s1 => ?_)
      refine ⟨_, rfl, (kin_re T).ec, .inl ⟨(kin_re T).mn, fun σ' e hS he => ?_⟩⟩
      obtain ⟨x, y, rfl⟩ := hS
      refine ⟨_, rfl, e, _, false, rfl, upd_same, kin_re T, fun H2 s2 => ?_⟩
      exact ⟨true, rfl, iteT ⟨_, rfl, _, _, _, _, _, rfl, rfl, .exc (s2 _ _ upd_same) (kin_re T).ef, (kin_re T).nn, false, rfl, (by show 2 ≤ sizeLine; decide), fun t ht => k t _ (((s1.trans (same_upd he)).trans s2).trans (same_upd ht)) upd_same⟩⟩
    · refine .inr (.thing v' t e ty kt ?_)
      refine ⟨_, rfl, (kin_no T).ec, .inr ⟨⟨(kin_no T).mn, (kin_no T).mr⟩, fun σ' e hS he => ?_⟩⟩
      obtain ⟨x, y, rfl⟩ := hS
      exact ⟨_, rfl, e, _, true, rfl, upd_same, kin_no T, fun H2 s2 => ⟨(by show 2 ≤ sizeLine; decide), fun t ht => k t _ (((same_upd he).trans s2).trans (same_upd ht)) upd_same⟩⟩
end
end J

set_option maxHeartbeats 200000
set_option Elab.async false
set_option linter.all false
set_option maxRecDepth 100000
set_option maxHeartbeats 4000000
/-! Texts of rules are apart; what is due; the law. -/
namespace J
open PySem L2
theorem map_inj_on {α β : Type} {f : α → β} : ∀ {l m : List α}, (∀ x ∈ l, ∀ y ∈ m, f x = f y → x = y) → l.map f = m.map f → l = m
  | [], [], _, _ => rfl
  | [], _ :: _, _, e => by cases e
  | _ :: _, [], _, e => by cases e
  | x :: l, y :: m, h, e => by
    rw [List.map_cons, List.map_cons] at e
    injection e with e1 e2
    rw [h x List.mem_cons_self y List.mem_cons_self e1, map_inj_on (fun a ha b hb => h a (List.mem_cons_of_mem _ ha) b (List.mem_cons_of_mem _ hb)) e2]
theorem sgD_inj {d e : Int} (h : stOk d) (k : stOk e) (z : sgD d = sgD e) : d = e := by
  have z : [48 + d.toNat] = [48 + e.toNat] := congrArg (fun s : Str => s.cps.toList) z
  injection z with z
  have h0 := h.1
  have k0 := k.1
  lia
theorem wC_inj {x y : Option Int} (h : wOk x) (k : wOk y) (z : wC x = wC y) : x = y := by
  cases x with
  | none => cases y with
    | none => rfl
    | some e =>
      have z : 42 = 48 + e.toNat := z
      lia
  | some d => cases y with
    | none =>
      have z : 48 + d.toNat = 42 := z
      lia
    | some e =>
      have z : 48 + d.toNat = 48 + e.toNat := z
      have h : stOk d := h
      have k : stOk e := k
      have h0 := h.1
      have k0 := k.1
      rw [show d = e by lia]
theorem am_cps (s : Int) (ns : List Int) : (condT (.am s ns)).cps.toList = (48 + s.toNat) :: 61 :: ns.map fun n => 48 + n.toNat := by
  show (sgD s ++ ⟨#[61]⟩ ++ digsT ns).cps.toList = _
  rw [Tx.cps_app, Tx.cps_app]
  rfl
theorem pl_no {ws : List (Option Int)} (h : CondA.ok (.pl ws)) : 61 ∉ (condT (.pl ws)).cps.toList := by
  have e : (condT (.pl ws)).cps.toList = ws.map wC := rfl
  rw [e]
  intro z
  obtain ⟨x, hx, e⟩ := List.mem_map.mp z
  exact (wC_ne (h.2 x hx)).1 e
theorem condT_inj {c d : CondA} (h : c.ok) (k : d.ok) (z : condT c = condT d) : c = d := by
  cases c with
  | am s ns => cases d with
    | am t ms =>
      have z : (condT (.am s ns)).cps.toList = (condT (.am t ms)).cps.toList := congrArg (fun s : Str => s.cps.toList) z
      rw [am_cps, am_cps] at z
      injection z with z1 z2
      injection z2 with _ z2
      have h0 := h.1.1
      have k0 := k.1.1
      have e1 : s = t := by lia
      have e2 : ns = ms := map_inj_on (fun x hx y hy e => by
        have h1 := (h.2.2.1 x hx).1
        have k1 := (k.2.2.1 y hy).1
        lia) z2
      rw [e1, e2]
    | pl ws =>
      exfalso
      refine pl_no k ?_
      rw [← z, am_cps]
      exact List.mem_cons_of_mem _ List.mem_cons_self
  | pl ws => cases d with
    | am t ms =>
      exfalso
      refine pl_no h ?_
      rw [z, am_cps]
      exact List.mem_cons_of_mem _ List.mem_cons_self
    | pl vs =>
      have z : ws.map wC = vs.map wC := congrArg (fun s : Str => s.cps.toList) z
      rw [map_inj_on (fun x hx y hy e => wC_inj (h.2 x hx) (k.2 y hy) e) z]
theorem clauseT_inj {c d : ClauseA} (h : c.ok) (k : d.ok) (z : clauseT c = clauseT d) : c = d := by
  have e := clause_split h
  rw [z, clause_split k] at e
  injection e with e1 e2
  obtain ⟨e3, e4⟩ := List.append_inj' e2 rfl
  injection e4 with e4
  have e1 : [wC d.cell] = [wC c.cell] := congrArg (fun s : Str => s.cps.toList) e1
  injection e1 with e1
  have f1 := wC_inj k.cell h.cell e1
  have f2 := map_inj_on (fun x hx y hy e => condT_inj (k.conds x hx) (h.conds y hy) e) e3
  have f3 := sgD_inj k.makes h.makes e4
  cases c
  cases d
  cases f1
  cases f2
  cases f3
  rfl
theorem ruleT_inj {r s : RuleA} (h : ROkT r) (k : ROkT s) (z : ruleT r = ruleT s) : r = s := by
  have no : ∀ {t : RuleA}, t ≠ [] → ruleT t ≠ ruleT [] := fun {t} n e => by
    have := of_decide_eq_false (rule_ne n)
    exact this (congrArg V.str (e.trans rfl))
  cases r with
  | nil => cases s with
    | nil => rfl
    | cons c t => exact absurd z.symm (no (by intro z; cases z))
  | cons c t => cases s with
    | nil => exact absurd z (no (by intro z; cases z))
    | cons d u =>
      have sp : ∀ {q : RuleA}, ROkT q → q ≠ [] → Txt.split (ruleT q) ⟨#[59, 32]⟩ = q.map clauseT := fun {q} hq nq => by
        refine Tx.split_join2 (q.map clauseT) (by intro z; exact nq (List.map_eq_nil_iff.mp z)) fun t ht => ?_
        obtain ⟨c, hc, rfl⟩ := List.mem_map.mp ht
        exact clause_free (hq.ok c hc)
      have e := sp h (by intro z; cases z)
      rw [z, sp k (by intro z; cases z)] at e
      exact (map_inj_on (fun x hx y hy e => clauseT_inj (k.ok x hx) (h.ok y hy) e) e).symm
def rngK (L : Nat) : Int := if (if (60 : Int) < (L : Int) then (60 : Int) else (L : Int)) > 1 then (if (60 : Int) < (L : Int) then (60 : Int) else (L : Int)) else 1
theorem rng3 : ∀ L : Nat, L < 64 → Builtin.Range.small 0 (rngK L) 10 = true ∧ Builtin.Range.rangeSize 0 (rngK L) 10 = (((Builtin.Range.rangeSize 0 (rngK L) 10).toNat : Nat) : Int) ∧ (rngK L - 0).natAbs < 1073741824 := by decide +kernel
section
variable {P : Program} {w : World} {K : PySem.W.Frag} {mg : Str → Option Value} {base : Heap} {a : Ad}
/-- what is to be said of a text -/
inductive SpDu (vs : List V) (H : Hp) (Q : VK) : Prop
  | mk (z : Str) (_ : vs = [.str z]) (_ : z.length ≤ 900) (_ : ∀ r, RuR z r → becA r 0 zeros8 = 0 → ∀ t H', Same H H' → H' t = some (.tup [.str "rule", .str z]) → Q (.ref t) H') (_ : ∀ r, RuR z r → becA r 0 zeros8 ≠ 0 → ∀ t H', Same H H' → H' t = some (.tup [.str "restless", .bl true]) → Q (.ref t) H') (_ : (∀ r, ¬ RuR z r) → ∀ t H', Same H H' → H' t = some (.tup [.str "no rule", .bl true]) → Q (.ref t) H') : SpDu vs H Q
def spDu : Sp := fun vs H Q _ => SpDu vs H Q
theorem ok_du {f : Addr} {fd : FuncData} (F : Fun K "_law_due" "_law_due" s__law_due f fd) (T : Top K mg a) (C__law_clauses_read : Cal P w K mg base CX0 3 "_law_clauses_read" p__law_clauses_read spLs) (C__law_becomes : Cal P w K mg base CX0 3 "_law_becomes" p__law_becomes spBe) : FnOk P w K mg base CX0 4 f fd p__law_due spDu := by
  refine F.ok sc__law_due (fun vs H Q E h => ?_) (fun cdv A outer s H vs Q E hr h => ?_)
  · obtain ⟨z, rfl, _⟩ := h
    rfl
  · obtain ⟨z, rfl, lz, k1, k2, k3⟩ := h
    refine ⟨_, (@pss_cons _ _ _ _ _ (@ps_set _ _ (1) _ _ _ _ sc__law_due.nd rfl (Or.inl rfl) (@pe_cal _ _ _ _ _ _ _ _ _ _ _ _ C__law_clauses_read (rm hr) rfl pass0 (@pa_cons _ _ _ _ _ (pv 0) (@pa_nil _) rfl) (by decide) rfl rfl) rfl (by first | exact .inl rfl | exact .inr rfl | assumption)) (@pss_cons _ _ _ _ _ (@ps_if _ _ _ _ _ _ _ _ (@pt_cmpR _ _ _ _ _ _ _ _ (@op_isN _) (pv 1) (@pe_non _ _ _) (nomark _)) (@pss_one _ _ _ (@ps_ret _ _ _ _ (@pe_tup _ _ _ _ _ (@pa_str _ _ _ _ _ _ (@pa_cons _ _ _ _ _ (@pe_bl _ _ _ _) (@pa_nil _) rfl))))) (@pss_nil _)) (@pss_cons _ _ _ _ _ (@ps_if _ _ _ _ _ _ _ _ (@pt_cmpR _ _ _ _ _ _ _ _ (@op_ne _) (@pe_cal _ _ _ _ _ _ _ _ _ _ _ _ C__law_becomes (rm hr) rfl pass0 (@pa_cons _ _ _ _ _ (pv 1) (@pa_int _ _ _ _ _ _ (@pa_lst _ _ _ _ _ _ (@pa_int _ _ _ _ _ _ (@pa_int _ _ _ _ _ _ (@pa_int _ _ _ _ _ _ (@pa_int _ _ _ _ _ _ (@pa_int _ _ _ _ _ _ (@pa_int _ _ _ _ _ _ (@pa_int _ _ _ _ _ _ (@pa_int _ _ _ _ _ _ (@pa_nil _))))))))) (@pa_nil _))) rfl) (by decide) rfl rfl) (@pe_int _ _ _ _) (nomark _)) (@pss_one _ _ _ (@ps_ret _ _ _ _ (@pe_tup _ _ _ _ _ (@pa_str _ _ _ _ _ _ (@pa_cons _ _ _ _ _ (@pe_bl _ _ _ _) (@pa_nil _) rfl))))) (@pss_nil _)) (@pss_one _ _ _ (@ps_ret _ _ _ _ (@pe_tup _ _ _ _ _ (@pa_str _ _ _ _ _ _ (@pa_cons _ _ _ _ _ (pv 0) (@pa_nil _) rfl)))))))), ?_⟩
    try dsimp only [cxK]
    refine ⟨_, rfl, z, rfl, lz, fun r rr q H1 s1 hR => ?_, fun no H1 s1 => ?_⟩
    · refine ⟨_, rfl, rfl, false, rfl, iteF ?_⟩
      refine ⟨_, rfl, (by show 8 ≤ sizeLine; decide), fun z8 hz8 => ?_⟩
      have s3 := same_upd (o := .lst (zeros8.map V.int)) hz8
      refine ⟨q, z8, r, 0, zeros8, rfl, hR.same s3, rr.1, upd_same, rfl, fun H4 s4 => ?_⟩
      have s14 := (s1.trans s3).trans s4
      refine ⟨rfl, _, rfl, ?_⟩
      rw [dec_int]
      by_cases hz : becA r 0 zeros8 = 0
      · rw [decide_eq_true hz]
        exact iteF ⟨_, rfl, (by show 2 ≤ sizeLine; decide), fun t ht => k1 r rr hz t _ (s14.trans (same_upd ht)) upd_same⟩
      · rw [decide_eq_false hz]
        exact iteT ⟨(by show 2 ≤ sizeLine; decide), fun t ht => k2 r rr hz t _ (s14.trans (same_upd ht)) upd_same⟩
    · exact ⟨_, rfl, rfl, true, rfl, iteT ⟨(by show 2 ≤ sizeLine; decide), fun t ht => k3 no t _ (s1.trans (same_upd ht)) upd_same⟩⟩
/-- said and due of one text are alike -/
theorem twice {H : Hp} {z : Str} {R : VK} (lz : z.length ≤ 900) (k : ∀ t H1 (xs : List V), Same H H1 → H1 t = some (.tup xs) → xs.all flatV = true → (∀ F : VK, (∀ u H2, Same H1 H2 → H2 u = some (.tup xs) → F (.ref u) H2) → SpDu [.str z] H1 F) → R (.ref t) H1) : SpSd K a [.str z] H R := by
  by_cases hr : ∃ r, RuR z r
  · obtain ⟨r, ro, rfl⟩ := hr
    have one : ∀ r', RuR (ruleT r) r' → r' = r := fun r' h' => (ruleT_inj ro h'.1 h'.2).symm
    by_cases hz : becA r 0 zeros8 = 0
    · refine .rule r rfl ro hz fun t H1 s1 ht => k t H1 _ s1 ht rfl fun F hF => ⟨_, rfl, lz, fun r' h' z' u H2 s2 hu => hF u H2 s2 hu, fun r' h' z' => ?_, fun no => absurd ⟨ro, rfl⟩ (no r)⟩
      rw [one r' h'] at z'
      exact absurd hz z'
    · refine .rest r rfl ro hz fun t H1 s1 ht => k t H1 _ s1 ht rfl fun F hF => ⟨_, rfl, lz, fun r' h' z' => ?_, fun r' h' z' u H2 s2 hu => hF u H2 s2 hu, fun no => absurd ⟨ro, rfl⟩ (no r)⟩
      rw [one r' h'] at z'
      exact absurd z' hz
  · have no : ∀ r, ¬ RuR z r := fun r h => hr ⟨r, h⟩
    exact .no z rfl lz no fun t H1 s1 ht => k t H1 _ s1 ht rfl fun F hF => ⟨_, rfl, lz, fun r' h' => absurd h' (no r'), fun r' h' => absurd h' (no r'), fun _ u H2 s2 hu => hF u H2 s2 hu⟩
theorem kit_nostr (K : PySem.W.Frag) : ∀ T ∈ ["NoneType", "int", "list"], PySem.W.kitOne K (.type T) (.type "str") = some false := by
  intro T hT
  simp only [List.mem_cons, List.not_mem_nil, or_false] at hT
  rcases hT with rfl | rfl | rfl <;> kernel_rfl
theorem pow30 : ((10 : Int) ^ (30 : Int).toNat) = 1000000000000000000000000000000 := by decide
inductive SpRt (K : PySem.W.Frag) (vs : List V) (H : Hp) (Q : VK) : Prop
  | mk (l : Addr) (ns : List Int) (i : Int) (_ : vs = [.ref l, .int i]) (_ : SqL K H l (ns.map V.int)) (_ : 0 ≤ i) (_ : ∀ H', Same H H' → Q (.bl true) H') : SpRt K vs H Q
def spRt (K : PySem.W.Frag) : Sp := fun vs H Q _ => SpRt K vs H Q
theorem ok_rt {f : Addr} {fd : FuncData} (F : Fun K "_law_right" "_law_right" s__law_right f fd) (T : Top K mg a) (C__law_at : Cal P w K mg base CX0 1 "_law_at" p__law_at (spAt K)) (C__law_clauses_by : Cal P w K mg base CX0 4 "_law_clauses_by" p__law_clauses_by (spCs K))
    (C__law_text : Cal P w K mg base CX0 2 "_law_text" p__law_text spTx) (C__law_spoiled : Cal P w K mg base CX0 2 "_law_spoiled" p__law_spoiled spSp) (C__law_said : Cal P w K mg base CX0 9 "_law_said" p__law_said (spSd K a)) (C__law_due : Cal P w K mg base CX0 4 "_law_due" p__law_due spDu) : FnOk P w K mg base CX0 10 f fd p__law_right (spRt K) := by
  refine F.ok sc__law_right (fun vs H Q E h => ?_) (fun cdv A outer s H vs Q E hr h => ?_)
  · obtain ⟨l, ns, i, rfl, _⟩ := h
    rfl
  · obtain ⟨l, ns, i, rfl, hS, i0, k⟩ := h
    let J1 : St → Hp → Prop := fun σ H2 => ∃ (r : RuleA) (z : Str) (wy : Int) (u5 : Option V), σ = [some (.ref l), some (.int i), some (.str (ruleT r)), some (.int wy), some (.str z), u5] ∧ Same H H2 ∧ ROkT r ∧ becA r 0 zeros8 = 0 ∧ z.length ≤ 900
    refine ⟨_, (@pss_cons _ _ _ _ _ (@ps_set _ _ (2) _ _ _ _ sc__law_right.nd rfl (Or.inl rfl) (@pe_cal _ _ _ _ _ _ _ _ _ _ _ _ C__law_text (rm hr) rfl pass0 (@pa_cons _ _ _ _ _ (@pe_cal _ _ _ _ _ _ _ _ _ _ _ _ C__law_clauses_by (rm hr) rfl pass0 (@pa_cons _ _ _ _ _ (pv 0) (@pa_op _ _ _ _ _ _ _ _ _ _ (@op_add _) (pv 1) (@pe_int _ _ _ _) (@pa_op _ _ _ _ _ _ _ _ _ _ (@op_mod _) (@pe_cal _ _ _ _ _ _ _ _ _ _ _ _ C__law_at (rm hr) rfl pass0 (@pa_cons _ _ _ _ _ (pv 0) (@pa_op _ _ _ _ _ _ _ _ _ _ (@op_add _) (pv 1) (@pe_int _ _ _ _) (@pa_nil _)) rfl) (by decide) rfl rfl) (@pe_int _ _ _ _) (@pa_nil _))) rfl) (by decide) rfl rfl) (@pa_nil _) rfl) (by decide) rfl rfl) rfl (by first | exact .inl rfl | exact .inr rfl | assumption)) (@pss_cons _ _ _ _ _ (@ps_set _ _ (3) _ _ _ _ sc__law_right.nd rfl (Or.inl rfl) (@pe_op _ _ _ _ _ _ _ _ (@op_mod _) (@pe_cal _ _ _ _ _ _ _ _ _ _ _ _ C__law_at (rm hr) rfl pass0 (@pa_cons _ _ _ _ _ (pv 0) (@pa_cons _ _ _ _ _ (pv 1) (@pa_nil _) rfl) rfl) (by decide) rfl rfl) (@pe_int _ _ _ _)) rfl (by first | exact .inl rfl | exact .inr rfl | assumption)) (@pss_cons _ _ _ _ _ (@ps_set _ _ (4) _ _ _ _ sc__law_right.nd rfl (Or.inl rfl) (@pe_cal _ _ _ _ _ _ _ _ _ _ _ _ C__law_spoiled (rm hr) rfl pass0 (@pa_cons _ _ _ _ _ (pv 2) (@pa_cons _ _ _ _ _ (pv 3) (@pa_cons _ _ _ _ _ (@pe_cal _ _ _ _ _ _ _ _ _ _ _ _ C__law_at (rm hr) rfl pass0 (@pa_cons _ _ _ _ _ (pv 0) (@pa_op _ _ _ _ _ _ _ _ _ _ (@op_add _) (pv 1) (@pe_int _ _ _ _) (@pa_nil _)) rfl) (by decide) rfl rfl) (@pa_cons _ _ _ _ _ (@pe_cal _ _ _ _ _ _ _ _ _ _ _ _ C__law_at (rm hr) rfl pass0 (@pa_cons _ _ _ _ _ (pv 0) (@pa_op _ _ _ _ _ _ _ _ _ _ (@op_add _) (pv 1) (@pe_int _ _ _ _) (@pa_nil _)) rfl) (by decide) rfl rfl) (@pa_nil _) rfl) rfl) rfl) rfl) (by decide) rfl rfl) rfl (by first | exact .inl rfl | exact .inr rfl | assumption)) (@pss_cons _ _ _ _ _ (@ps_if _ _ _ _ _ _ _ _ (@PW.pt _ _ _ (@pw_or _ _ _ _ _ _ _ (@pt_cmpR _ _ _ _ _ _ _ _ (@op_ne_tupF _ hr.units) (@pe_cal _ _ _ _ _ _ _ _ _ _ _ _ C__law_said (rm hr) rfl pass0 (@pa_cons _ _ _ _ _ (pv 2) (@pa_nil _) rfl) (by decide) rfl rfl) (@pe_tup _ _ _ _ _ (@pa_str _ _ _ _ _ _ (@pa_cons _ _ _ _ _ (pv 2) (@pa_nil _) rfl))) (nomark _)) (@pw_or1 _ _ _ _ (@pt_cmpR _ _ _ _ _ _ _ _ (@op_ne_tupF _ hr.units) (@pe_cal _ _ _ _ _ _ _ _ _ _ _ _ C__law_said (rm hr) rfl pass0 (@pa_cons _ _ _ _ _ (pv 4) (@pa_nil _) rfl) (by decide) rfl rfl) (@pe_cal _ _ _ _ _ _ _ _ _ _ _ _ C__law_due (rm hr) rfl pass0 (@pa_cons _ _ _ _ _ (pv 4) (@pa_nil _) rfl) (by decide) rfl rfl) (nomark _))))) (@pss_one _ _ _ (@ps_ret _ _ _ _ (@pe_bl _ _ _ _))) (@pss_nil _)) (@pss_cons _ _ _ _ _ (@ps_ifJ _ _ _ _ _ _ _ _ J1 (@pt_cmpR _ _ _ _ _ _ _ _ (@op_eq _) (pv 3) (@pe_int _ _ _ _) (nomark _)) (@pss_cons _ _ _ _ _ (@ps_set _ _ (5) _ _ _ _ sc__law_right.nd rfl (Or.inl rfl) (@pe_ix _ _ _ _ _ _ _ (@ix_list _) (@pe_lst _ _ _ _ (@pa_cons _ _ _ _ _ (@pe_non _ _ _) (@pa_op _ _ _ _ _ _ _ _ _ _ (@op_mod _) (@pe_cal _ _ _ _ _ _ _ _ _ _ _ _ C__law_at (rm hr) rfl pass0 (@pa_cons _ _ _ _ _ (pv 0) (@pa_op _ _ _ _ _ _ _ _ _ _ (@op_add _) (pv 1) (@pe_int _ _ _ _) (@pa_nil _)) rfl) (by decide) rfl rfl) (@pe_op _ _ _ _ _ _ _ _ (@op_pow _) (@pe_int _ _ _ _) (@pe_int _ _ _ _)) (@pa_lst _ _ _ _ _ _ (@pa_cons _ _ _ _ _ (pv 2) (@pa_nil _) rfl) (@pa_nil _))) rfl)) (@pe_op _ _ _ _ _ _ _ _ (@op_mod _) (@pe_cal _ _ _ _ _ _ _ _ _ _ _ _ C__law_at (rm hr) rfl pass0 (@pa_cons _ _ _ _ _ (pv 0) (@pa_op _ _ _ _ _ _ _ _ _ _ (@op_add _) (pv 1) (@pe_int _ _ _ _) (@pa_nil _)) rfl) (by decide) rfl rfl) (@pe_int _ _ _ _)) (fun _ _ => rfl)) rfl (by first | exact .inl rfl | exact .inr rfl | assumption)) (@pss_one _ _ _ (@ps_if _ _ _ _ _ _ _ _ (@pt_cmpR _ _ _ _ _ _ _ _ (@op_ne_tupF _ hr.units) (@pe_cal _ _ _ _ _ _ _ _ _ _ _ _ C__law_said (rm hr) rfl pass0 (@pa_cons _ _ _ _ _ (pv 5) (@pa_nil _) rfl) (by decide) rfl rfl) (@pe_tup _ _ _ _ _ (@pa_str _ _ _ _ _ _ (@pa_cons _ _ _ _ _ (@pe_bl _ _ _ _) (@pa_nil _) rfl))) (nomark _)) (@pss_one _ _ _ (@ps_ret _ _ _ _ (@pe_bl _ _ _ _))) (@pss_nil _)))) (@pss_nil _)) (@pss_one _ _ _ (@ps_ret _ _ _ _ (@pe_and _ _ _ _ _ _ _ (@pe_cmpR _ _ _ _ _ _ _ _ (@op_eq_tupF _ hr.units) (@pe_cal _ _ _ _ _ _ _ _ _ _ _ _ C__law_said (rm hr) rfl pass0 (@pa_cons _ _ _ _ _ (pv 2) (@pa_nil _) rfl) (by decide) rfl rfl) (@pe_tup _ _ _ _ _ (@pa_str _ _ _ _ _ _ (@pa_cons _ _ _ _ _ (pv 2) (@pa_nil _) rfl))) (nomark _)) (@pe_one _ _ _ _ _ (@pe_cmpR _ _ _ _ _ _ _ _ (@op_eq_tupF _ hr.units) (@pe_cal _ _ _ _ _ _ _ _ _ _ _ _ C__law_said (rm hr) rfl pass0 (@pa_cons _ _ _ _ _ (pv 4) (@pa_nil _) rfl) (by decide) rfl rfl) (@pe_cal _ _ _ _ _ _ _ _ _ _ _ _ C__law_due (rm hr) rfl pass0 (@pa_cons _ _ _ _ _ (pv 4) (@pa_nil _) rfl) (by decide) rfl rfl) (nomark _))))))))))), ?_⟩
    try dsimp only [cxK]
    refine ⟨_, rfl, _, rfl, _, _, rfl, rfl, _, rfl, _, rfl, _, _, rfl, rfl, l, ns, _, rfl, hS, by omega, _, _, rfl, rfl, (by show (0 : Int) < 5; decide), l, ns, _, _, rfl, hS, by omega, by omega, by omega, fun q r H1 s1 hR rk sk hz l1 l2 => ?_⟩
    refine ⟨q, r, rfl, hR, rk, sk, fun H2 s2 => ?_⟩
    have lr : (ruleT r).length ≤ 800 := by
      have := sm_rule rk.ok sk
      omega
    have s02 := s1.trans s2
    clear s1 s2 hR
    refine ⟨_, rfl, _, rfl, l, ns, _, rfl, s02.seq hS, i0, _, _, rfl, rfl, (by show (0 : Int) < 8; decide), ?_⟩
    refine ⟨_, rfl, _, rfl, _, rfl, _, rfl, _, _, rfl, rfl, l, ns, _, rfl, s02.seq hS, by omega, _, rfl, _, rfl, _, _, rfl, rfl, l, ns, _, rfl, s02.seq hS, by omega, _, _, _, _, rfl, lr, fun z H3 lz s3 => ?_⟩
    have s03 := s02.trans s3
    clear s02 s3
    refine ⟨_, rfl, .rule r rfl rk hz fun t H4 s4 ht => ?_⟩
    refine ⟨_, rfl, (by show 2 ≤ sizeLine; decide), fun u hu => ?_⟩
    refine ⟨⟨t, u, _, rfl, rfl, SqT.of (same_upd hu _ _ ht), SqT.of upd_same, rfl⟩, ?_⟩
    refine ⟨_, rfl, iteF ?_⟩
    have s05 := (s03.trans s4).trans (same_upd (o := .tup [.str "rule", .str (ruleT r)]) hu)
    generalize upd H4 u (.tup [.str "rule", .str (ruleT r)]) = H5 at s05 ⊢
    clear ht s4 hu s03
    refine ⟨_, rfl, twice lz fun t H6 xs s6 ht fl due => ⟨_, rfl, due _ fun u H7 s7 hu => ⟨⟨t, u, xs, rfl, rfl, SqT.of (s7 _ _ ht), SqT.of hu, fl⟩, _, rfl, iteF ?_⟩⟩⟩
    have s07 := (s05.trans s6).trans s7
    clear s05 s6 s7 ht hu due fl
    refine ⟨?_, ?_⟩
    · refine ⟨_, rfl, rfl, _, rfl, ?_⟩
      refine ite2 (fun _ => ?_) (fun _ => ⟨r, z, _, _, rfl, s07, rk, hz, lz⟩)
      refine ⟨_, rfl, _, rfl, _, _, rfl, rfl, l, ns, _, rfl, s07.seq hS, by omega, _, _, rfl, rfl, ⟨by decide, by decide⟩, _, _, rfl, rfl, by show (0 : Int) < 10 ^ (30 : Int).toNat; decide, ?_⟩
      rw [pow30]
      refine ⟨_, rfl, (by show 1 ≤ sizeLine; decide), fun b hb => ⟨(by show 3 ≤ sizeLine; decide), fun c hc => ?_⟩⟩
      have hb2 := same_upd (o := .lst [.non, .int (atN ns (i + 2) % 1000000000000000000000000000000), .ref b]) hc _ _ (upd_same (H := H7) (a := b) (o := .lst [.str (ruleT r)]))
      have s9 := (s07.trans (same_upd (o := .lst [.str (ruleT r)]) hb)).trans (same_upd (o := .lst [.non, .int (atN ns (i + 2) % 1000000000000000000000000000000), .ref b]) hc)
      have hc2 : upd (upd H7 b (.lst [.str (ruleT r)])) c (.lst [.non, .int (atN ns (i + 2) % 1000000000000000000000000000000), .ref b]) c = some _ := upd_same
      generalize upd (upd H7 b (.lst [.str (ruleT r)])) c (.lst [.non, .int (atN ns (i + 2) % 1000000000000000000000000000000), .ref b]) = H9 at hb2 s9 hc2 ⊢
      have all : ∀ v ∈ [V.non, .int (atN ns (i + 2) % 1000000000000000000000000000000), .ref b], ∃ t, TyX K H9 v t ∧ PySem.W.kitOne K t (.type "str") = some false := fun v hv => by
        simp only [List.mem_cons, List.not_mem_nil, or_false] at hv
        rcases hv with rfl | rfl | rfl
        · exact ⟨_, .of .non, kit_nostr K _ (by simp)⟩
        · exact ⟨_, .of (.int _), kit_nostr K _ (by simp)⟩
        · exact ⟨_, .of (.lst hb2), kit_nostr K _ (by simp)⟩
      obtain ⟨v, hv, mv⟩ := at_ex (l := [V.non, .int (atN ns (i + 2) % 1000000000000000000000000000000), .ref b]) (i := atN ns (i + 1) % 3) (Int.emod_nonneg _ (by decide)) (Int.emod_lt_of_pos _ (by decide))
      obtain ⟨ty, h1, h2⟩ := all v mv
      refine ⟨_, rfl, _, rfl, _, _, rfl, rfl, l, ns, _, rfl, s9.seq hS, by omega, _, _, rfl, rfl, (by show (0 : Int) < 3; decide), c, _, _, v, rfl, rfl, SqL.of hc2, hv, ?_⟩
      refine ⟨_, rfl, .thing v ty rfl h1 h2 fun t H10 s10 ht => ⟨(by show 2 ≤ sizeLine; decide), fun u hu => ⟨⟨t, u, _, rfl, rfl, SqT.of (same_upd hu _ _ ht), SqT.of upd_same, rfl⟩, _, rfl, iteF ?_⟩⟩⟩
      exact ⟨r, z, _, _, rfl, (s9.trans s10).trans (same_upd hu), rk, hz, lz⟩
    · rintro σ H8 ⟨r, z, wy, u5, rfl, s8, rk, hz, lz⟩
      refine ⟨_, rfl, .rule r rfl rk hz fun t H4 s4 ht => ?_⟩
      refine ⟨_, rfl, (by show 2 ≤ sizeLine; decide), fun u hu => ?_⟩
      refine ⟨⟨t, u, _, rfl, rfl, SqT.of (same_upd hu _ _ ht), SqT.of upd_same, rfl⟩, ?_⟩
      have s05 := (s8.trans s4).trans (same_upd (o := .tup [.str "rule", .str (ruleT r)]) hu)
      generalize upd H4 u (.tup [.str "rule", .str (ruleT r)]) = H5 at s05 ⊢
      refine ⟨true, rfl, iteT ⟨_, rfl, twice lz fun t H6 xs s6 ht fl due => ⟨_, rfl, due _ fun u H7 s7 hu => ⟨⟨t, u, xs, rfl, rfl, SqT.of (s7 _ _ ht), SqT.of hu, fl⟩, ?_⟩⟩⟩⟩
      exact k _ ((s05.trans s6).trans s7)
theorem ok_law {f : Addr} {fd : FuncData} (F : Fun K "law" "law" s_law f fd) (T : Top K mg a) (C__law_right : Cal P w K mg base CX0 10 "_law_right" p__law_right (spRt K)) : FnOk P w K mg base CX0 11 f fd ["_law_script"] (spLaw K) := by
  refine F.ok (ps := ["_law_script"]) sc_law (fun vs H Q E h => ?_) (fun cdv A outer s H vs Q E hr h => ?_)
  · obtain ⟨l, ns, rfl, _⟩ := h
    rfl
  · obtain ⟨l, ns, rfl, hS, hlen, k⟩ := h
    refine ⟨_, (@pss_cons _ _ _ _ _ (@ps_for _ _ _ _ _ _ _ _ PassesOwn.never rfl (@pi_range3 _ _ _ _ _ _ _ _ rfl T.b_range (@pa_int _ _ _ _ _ _ (@pa_cons _ _ _ _ _ (@pe_callB _ _ _ _ _ _ _ _ _ (@call_max2 _ rfl) rfl T.b_max PyProof.Rows.boot_max (@pa_int _ _ _ _ _ _ (@pa_cons _ _ _ _ _ (@pe_callB _ _ _ _ _ _ _ _ _ (@call_min2 _ rfl) rfl T.b_min PyProof.Rows.boot_min (@pa_cons _ _ _ _ _ (@pe_callB _ _ _ _ _ _ _ _ _ (@call_len_seq _) rfl T.b_len PySem.boot_len (@pa_cons _ _ _ _ _ (pv 0) (@pa_nil _) rfl) (by decide) (by decide) rfl rfl) (@pa_int _ _ _ _ _ _ (@pa_nil _)) rfl) (by decide) (by decide) rfl rfl) (@pa_nil _) rfl)) (by decide) (by decide) rfl rfl) (@pa_int _ _ _ _ _ _ (@pa_nil _)) rfl)) rfl rfl) (@pg_name _ _ (1) _ sc_law.nd rfl (Or.inl rfl) (by first | exact .inl rfl | exact .inr rfl | assumption)) (@pss_one _ _ _ (@ps_if _ _ _ _ _ _ _ _ (@pt_not _ _ _ _ (@pt_val _ _ _ (@pe_cal _ _ _ _ _ _ _ _ _ _ _ _ C__law_right (rm hr) rfl pass0 (@pa_cons _ _ _ _ _ (pv 0) (@pa_cons _ _ _ _ _ (pv 1) (@pa_nil _) rfl) rfl) (by decide) rfl rfl) (by intro _ ; rfl))) (@pss_one _ _ _ (@ps_ret _ _ _ _ (@pe_bl _ _ _ _))) (@pss_nil _))) (by intro _ ; rfl)) (@pss_one _ _ _ (@ps_ret _ _ _ _ (@pe_bl _ _ _ _)))), ?_⟩
    try dsimp only [cxK]
    obtain ⟨r1, r2, r3⟩ := rng3 ns.length (by omega)
    refine ⟨_, rfl, l, _, rfl, .inl hS, _, _, rfl, _, _, rfl, ?_⟩
    rw [List.length_map]
    refine ⟨0, rngK ns.length, 10, (Builtin.Range.rangeSize 0 (rngK ns.length) 10).toNat, rfl, by decide, r3, by decide, r1, r2, ?_⟩
    refine for_range3 (fun i σ H7 => (∃ u1 : Option V, σ = [some (.ref l), u1]) ∧ Same H H7) ⟨⟨_, rfl⟩, Same.refl H⟩ ?_ ?_
    · rintro i σ H7 hi ⟨⟨u1, rfl⟩, s7⟩
      refine ⟨_, rfl, _, rfl, l, ns, _, rfl, s7.seq hS, by omega, fun H8 s8 => ?_⟩
      exact ⟨_, rfl, iteF ⟨⟨_, rfl⟩, s7.trans s8⟩⟩
    · rintro σ H7 ⟨⟨u1, rfl⟩, s7⟩
      exact k _
end
end J

set_option maxHeartbeats 200000
set_option Elab.async false
set_option linter.all false
set_option maxRecDepth 100000
set_option maxHeartbeats 4000000
namespace J
open PySem L2
theorem ar1 {α : Type} : ∀ us : List α, us.length = 1 → ∃ a0, us = [a0]
  | [a0], _ => ⟨a0, rfl⟩
theorem ar2 {α : Type} : ∀ us : List α, us.length = 2 → ∃ a0 a1, us = [a0, a1]
  | [a0, a1], _ => ⟨a0, a1, rfl⟩
theorem ar3 {α : Type} : ∀ us : List α, us.length = 3 → ∃ a0 a1 a2, us = [a0, a1, a2]
  | [a0, a1, a2], _ => ⟨a0, a1, a2, rfl⟩
theorem ar4 {α : Type} : ∀ us : List α, us.length = 4 → ∃ a0 a1 a2 a3, us = [a0, a1, a2, a3]
  | [a0, a1, a2, a3], _ => ⟨a0, a1, a2, a3, rfl⟩
theorem fin {l : PySem.W.OpenLaw} {w : World} {K : PySem.W.Frag} {h : Heap} {mg : Str → Option Value} {fa : Addr} (X : K.In h) (G : h.Ns mainGlobals mg) (hfa : mg "law" = some (.ref fa))
    {c_Amounts : Addr} {c_Places : Addr} {c_Clause : Addr} {c_Rule : Addr} {f0 : Addr} {od0 an0 : Option Addr} {sl0 : Array (Option Value)} {oc0 kV0 dc0 pm0 cd0 ct0 : Value} {f1 : Addr} {od1 an1 : Option Addr} {sl1 : Array (Option Value)} {oc1 kV1 dc1 pm1 cd1 ct1 : Value} {f2 : Addr} {od2 an2 : Option Addr} {sl2 : Array (Option Value)} {oc2 kV2 dc2 pm2 cd2 ct2 : Value} {f3 : Addr} {od3 an3 : Option Addr} {sl3 : Array (Option Value)} {oc3 kV3 dc3 pm3 cd3 ct3 : Value} {f4 : Addr} {od4 an4 : Option Addr} {sl4 : Array (Option Value)} {oc4 kV4 dc4 pm4 cd4 ct4 : Value} {f5 : Addr} {od5 an5 : Option Addr} {sl5 : Array (Option Value)} {oc5 kV5 dc5 pm5 cd5 ct5 : Value} {f6 : Addr} {od6 an6 : Option Addr} {sl6 : Array (Option Value)} {oc6 kV6 dc6 pm6 cd6 ct6 : Value} {f7 : Addr} {od7 an7 : Option Addr} {sl7 : Array (Option Value)} {oc7 kV7 dc7 pm7 cd7 ct7 : Value} {f8 : Addr} {od8 an8 : Option Addr} {sl8 : Array (Option Value)} {oc8 kV8 dc8 pm8 cd8 ct8 : Value} {f9 : Addr} {od9 an9 : Option Addr} {sl9 : Array (Option Value)} {oc9 kV9 dc9 pm9 cd9 ct9 : Value} {f10 : Addr} {od10 an10 : Option Addr} {sl10 : Array (Option Value)} {oc10 kV10 dc10 pm10 cd10 ct10 : Value} {f11 : Addr} {od11 an11 : Option Addr} {sl11 : Array (Option Value)} {oc11 kV11 dc11 pm11 cd11 ct11 : Value} {f12 : Addr} {od12 an12 : Option Addr} {sl12 : Array (Option Value)} {oc12 kV12 dc12 pm12 cd12 ct12 : Value} {f13 : Addr} {od13 an13 : Option Addr} {sl13 : Array (Option Value)} {oc13 kV13 dc13 pm13 cd13 ct13 : Value} {f14 : Addr} {od14 an14 : Option Addr} {sl14 : Array (Option Value)} {oc14 kV14 dc14 pm14 cd14 ct14 : Value} {f15 : Addr} {od15 an15 : Option Addr} {sl15 : Array (Option Value)} {oc15 kV15 dc15 pm15 cd15 ct15 : Value} {f16 : Addr} {od16 an16 : Option Addr} {sl16 : Array (Option Value)} {oc16 kV16 dc16 pm16 cd16 ct16 : Value} {f17 : Addr} {od17 an17 : Option Addr} {sl17 : Array (Option Value)} {oc17 kV17 dc17 pm17 cd17 ct17 : Value} {f18 : Addr} {od18 an18 : Option Addr} {sl18 : Array (Option Value)} {oc18 kV18 dc18 pm18 cd18 ct18 : Value} {f19 : Addr} {od19 an19 : Option Addr} {sl19 : Array (Option Value)} {oc19 kV19 dc19 pm19 cd19 ct19 : Value} {f20 : Addr} {od20 an20 : Option Addr} {sl20 : Array (Option Value)} {oc20 kV20 dc20 pm20 cd20 ct20 : Value} {f21 : Addr} {od21 an21 : Option Addr} {sl21 : Array (Option Value)} {oc21 kV21 dc21 pm21 cd21 ct21 : Value} {f22 : Addr} {od22 an22 : Option Addr} {sl22 : Array (Option Value)} {oc22 kV22 dc22 pm22 cd22 ct22 : Value} {f23 : Addr} {od23 an23 : Option Addr} {sl23 : Array (Option Value)} {oc23 kV23 dc23 pm23 cd23 ct23 : Value} {f24 : Addr} {od24 an24 : Option Addr} {sl24 : Array (Option Value)} {oc24 kV24 dc24 pm24 cd24 ct24 : Value} {f25 : Addr} {od25 an25 : Option Addr} {sl25 : Array (Option Value)} {oc25 kV25 dc25 pm25 cd25 ct25 : Value} {f26 : Addr} {od26 an26 : Option Addr} {sl26 : Array (Option Value)} {oc26 kV26 dc26 pm26 cd26 ct26 : Value} {f27 : Addr} {od27 an27 : Option Addr} {sl27 : Array (Option Value)} {oc27 kV27 dc27 pm27 cd27 ct27 : Value} {f28 : Addr} {od28 an28 : Option Addr} {sl28 : Array (Option Value)} {oc28 kV28 dc28 pm28 cd28 ct28 : Value} {f29 : Addr} {od29 an29 : Option Addr} {sl29 : Array (Option Value)} {oc29 kV29 dc29 pm29 cd29 ct29 : Value} {f30 : Addr} {od30 an30 : Option Addr} {sl30 : Array (Option Value)} {oc30 kV30 dc30 pm30 cd30 ct30 : Value} {f31 : Addr} {od31 an31 : Option Addr} {sl31 : Array (Option Value)} {oc31 kV31 dc31 pm31 cd31 ct31 : Value} {f32 : Addr} {od32 an32 : Option Addr} {sl32 : Array (Option Value)} {oc32 kV32 dc32 pm32 cd32 ct32 : Value} {f33 : Addr} {od33 an33 : Option Addr} {sl33 : Array (Option Value)} {oc33 kV33 dc33 pm33 cd33 ct33 : Value} {f34 : Addr} {od34 an34 : Option Addr} {sl34 : Array (Option Value)} {oc34 kV34 dc34 pm34 cd34 ct34 : Value} {f35 : Addr} {od35 an35 : Option Addr} {sl35 : Array (Option Value)} {oc35 kV35 dc35 pm35 cd35 ct35 : Value} {f36 : Addr} {od36 an36 : Option Addr} {sl36 : Array (Option Value)} {oc36 kV36 dc36 pm36 cd36 ct36 : Value} {f37 : Addr} {od37 an37 : Option Addr} {sl37 : Array (Option Value)} {oc37 kV37 dc37 pm37 cd37 ct37 : Value} {f38 : Addr} {od38 an38 : Option Addr} {sl38 : Array (Option Value)} {oc38 kV38 dc38 pm38 cd38 ct38 : Value} {f39 : Addr} {od39 an39 : Option Addr} {sl39 : Array (Option Value)} {oc39 kV39 dc39 pm39 cd39 ct39 : Value} {f40 : Addr} {od40 an40 : Option Addr} {sl40 : Array (Option Value)} {oc40 kV40 dc40 pm40 cd40 ct40 : Value} {f41 : Addr} {od41 an41 : Option Addr} {sl41 : Array (Option Value)} {oc41 kV41 dc41 pm41 cd41 ct41 : Value} {f42 : Addr} {od42 an42 : Option Addr} {sl42 : Array (Option Value)} {oc42 kV42 dc42 pm42 cd42 ct42 : Value} {f43 : Addr} {od43 an43 : Option Addr} {sl43 : Array (Option Value)} {oc43 kV43 dc43 pm43 cd43 ct43 : Value} {t_NEIGHBOURS : Tok} {t_STATE_FIGURES : Tok} {x_STATE_FIGURES : Str} {t_AMOUNT_FIGURES : Tok} {x_AMOUNT_FIGURES : Str} {t_ANY_SIGN : Tok} {x_ANY_SIGN : Str} {t_CLAUSE_MARK : Tok} {x_CLAUSE_MARK : Str} {x_FieldError : Addr} {x_NoNumber : Addr} {x_NoRule : Addr} {x_Restless : Addr} {x_NoSquare : Addr} {x_NoLevel : Addr} {x_NoState : Addr} {x_NoBox : Addr} {x_TooFar : Addr} {x_TooMany : Addr} {x_NoSteps : Addr} {x_NoPattern : Addr} {x_NoName : Addr} {x_NoRow : Addr}
    (n_c_Amounts : PySem.W.nsIn K mainGlobals "Amounts" = some (some (.ref c_Amounts)))
    (pg_Amounts : PySem.W.plainGet K c_Amounts Str.empty = true)
    (hd_Amounts : PySem.W.hasDictIn K c_Amounts = true)
    (po_Amounts : PySem.W.plainOver K c_Amounts = true)
    (sa_Amounts : PySem.W.findIn K (.ref c_Amounts) "__setattr__" = some (some (.builtin "object.__setattr__")))
    (mk_Amounts : PySem.W.makesIn K c_Amounts = true)
    (kc_Amounts : PySem.W.keepIn K (.ref c_Amounts) = true)
    (na_Amounts_state : PySem.W.findIn K (.ref c_Amounts) "state" = some none)
    (na_Amounts_numbers : PySem.W.findIn K (.ref c_Amounts) "numbers" = some none)
    (n_c_Places : PySem.W.nsIn K mainGlobals "Places" = some (some (.ref c_Places)))
    (pg_Places : PySem.W.plainGet K c_Places Str.empty = true)
    (hd_Places : PySem.W.hasDictIn K c_Places = true)
    (po_Places : PySem.W.plainOver K c_Places = true)
    (sa_Places : PySem.W.findIn K (.ref c_Places) "__setattr__" = some (some (.builtin "object.__setattr__")))
    (mk_Places : PySem.W.makesIn K c_Places = true)
    (kc_Places : PySem.W.keepIn K (.ref c_Places) = true)
    (na_Places_wanted : PySem.W.findIn K (.ref c_Places) "wanted" = some none)
    (n_c_Clause : PySem.W.nsIn K mainGlobals "Clause" = some (some (.ref c_Clause)))
    (pg_Clause : PySem.W.plainGet K c_Clause Str.empty = true)
    (hd_Clause : PySem.W.hasDictIn K c_Clause = true)
    (po_Clause : PySem.W.plainOver K c_Clause = true)
    (sa_Clause : PySem.W.findIn K (.ref c_Clause) "__setattr__" = some (some (.builtin "object.__setattr__")))
    (mk_Clause : PySem.W.makesIn K c_Clause = true)
    (kc_Clause : PySem.W.keepIn K (.ref c_Clause) = true)
    (na_Clause_cell : PySem.W.findIn K (.ref c_Clause) "cell" = some none)
    (na_Clause_conditions : PySem.W.findIn K (.ref c_Clause) "conditions" = some none)
    (na_Clause_makes : PySem.W.findIn K (.ref c_Clause) "makes" = some none)
    (n_c_Rule : PySem.W.nsIn K mainGlobals "Rule" = some (some (.ref c_Rule)))
    (pg_Rule : PySem.W.plainGet K c_Rule Str.empty = true)
    (hd_Rule : PySem.W.hasDictIn K c_Rule = true)
    (po_Rule : PySem.W.plainOver K c_Rule = true)
    (sa_Rule : PySem.W.findIn K (.ref c_Rule) "__setattr__" = some (some (.builtin "object.__setattr__")))
    (mk_Rule : PySem.W.makesIn K c_Rule = true)
    (kc_Rule : PySem.W.keepIn K (.ref c_Rule) = true)
    (na_Rule_text : PySem.W.findIn K (.ref c_Rule) "text" = some none)
    (na_Rule_clauses : PySem.W.findIn K (.ref c_Rule) "clauses" = some none)
    (a0 : PySem.W.nsIn K mainGlobals "takes" = some (some (.ref f0)))
    (l0 : K.lookup f0 = some ⟨oc0, od0, .func (PySem.W.fnOf "takes" "takes" (defArgs s_takes) (defBody s_takes) (defScope s_takes) .none kV0 dc0 pm0 an0 cd0 ct0), sl0⟩)
    (c0 : PySem.W.codeIn K cd0 "takes" = true)
    (k0 : PySem.W.keepIn K (.ref f0) = true)
    (a1 : PySem.W.nsIn K mainGlobals "read_clause" = some (some (.ref f1)))
    (l1 : K.lookup f1 = some ⟨oc1, od1, .func (PySem.W.fnOf "read_clause" "read_clause" (defArgs s_read_clause) (defBody s_read_clause) (defScope s_read_clause) .none kV1 dc1 pm1 an1 cd1 ct1), sl1⟩)
    (c1 : PySem.W.codeIn K cd1 "read_clause" = true)
    (k1 : PySem.W.keepIn K (.ref f1) = true)
    (a2 : PySem.W.nsIn K mainGlobals "read_state" = some (some (.ref f2)))
    (l2 : K.lookup f2 = some ⟨oc2, od2, .func (PySem.W.fnOf "read_state" "read_state" (defArgs s_read_state) (defBody s_read_state) (defScope s_read_state) .none kV2 dc2 pm2 an2 cd2 ct2), sl2⟩)
    (c2 : PySem.W.codeIn K cd2 "read_state" = true)
    (k2 : PySem.W.keepIn K (.ref f2) = true)
    (a3 : PySem.W.nsIn K mainGlobals "read_wanted" = some (some (.ref f3)))
    (l3 : K.lookup f3 = some ⟨oc3, od3, .func (PySem.W.fnOf "read_wanted" "read_wanted" (defArgs s_read_wanted) (defBody s_read_wanted) (defScope s_read_wanted) .none kV3 dc3 pm3 an3 cd3 ct3), sl3⟩)
    (c3 : PySem.W.codeIn K cd3 "read_wanted" = true)
    (k3 : PySem.W.keepIn K (.ref f3) = true)
    (a4 : PySem.W.nsIn K mainGlobals "read_condition" = some (some (.ref f4)))
    (l4 : K.lookup f4 = some ⟨oc4, od4, .func (PySem.W.fnOf "read_condition" "read_condition" (defArgs s_read_condition) (defBody s_read_condition) (defScope s_read_condition) .none kV4 dc4 pm4 an4 cd4 ct4), sl4⟩)
    (c4 : PySem.W.codeIn K cd4 "read_condition" = true)
    (k4 : PySem.W.keepIn K (.ref f4) = true)
    (a5 : PySem.W.nsIn K mainGlobals "read_amounts" = some (some (.ref f5)))
    (l5 : K.lookup f5 = some ⟨oc5, od5, .func (PySem.W.fnOf "read_amounts" "read_amounts" (defArgs s_read_amounts) (defBody s_read_amounts) (defScope s_read_amounts) .none kV5 dc5 pm5 an5 cd5 ct5), sl5⟩)
    (c5 : PySem.W.codeIn K cd5 "read_amounts" = true)
    (k5 : PySem.W.keepIn K (.ref f5) = true)
    (a6 : PySem.W.nsIn K mainGlobals "read_numbers" = some (some (.ref f6)))
    (l6 : K.lookup f6 = some ⟨oc6, od6, .func (PySem.W.fnOf "read_numbers" "read_numbers" (defArgs s_read_numbers) (defBody s_read_numbers) (defScope s_read_numbers) .none kV6 dc6 pm6 an6 cd6 ct6), sl6⟩)
    (c6 : PySem.W.codeIn K cd6 "read_numbers" = true)
    (k6 : PySem.W.keepIn K (.ref f6) = true)
    (a7 : PySem.W.nsIn K mainGlobals "read_places" = some (some (.ref f7)))
    (l7 : K.lookup f7 = some ⟨oc7, od7, .func (PySem.W.fnOf "read_places" "read_places" (defArgs s_read_places) (defBody s_read_places) (defScope s_read_places) .none kV7 dc7 pm7 an7 cd7 ct7), sl7⟩)
    (c7 : PySem.W.codeIn K cd7 "read_places" = true)
    (k7 : PySem.W.keepIn K (.ref f7) = true)
    (a8 : PySem.W.nsIn K mainGlobals "clause_texts" = some (some (.ref f8)))
    (l8 : K.lookup f8 = some ⟨oc8, od8, .func (PySem.W.fnOf "clause_texts" "clause_texts" (defArgs s_clause_texts) (defBody s_clause_texts) (defScope s_clause_texts) .none kV8 dc8 pm8 an8 cd8 ct8), sl8⟩)
    (c8 : PySem.W.codeIn K cd8 "clause_texts" = true)
    (k8 : PySem.W.keepIn K (.ref f8) = true)
    (a9 : PySem.W.nsIn K mainGlobals "read_rule" = some (some (.ref f9)))
    (l9 : K.lookup f9 = some ⟨oc9, od9, .func (PySem.W.fnOf "read_rule" "read_rule" (defArgs s_read_rule) (defBody s_read_rule) (defScope s_read_rule) .none kV9 dc9 pm9 an9 cd9 ct9), sl9⟩)
    (c9 : PySem.W.codeIn K cd9 "read_rule" = true)
    (k9 : PySem.W.keepIn K (.ref f9) = true)
    (a10 : PySem.W.nsIn K mainGlobals "deciding" = some (some (.ref f10)))
    (l10 : K.lookup f10 = some ⟨oc10, od10, .func (PySem.W.fnOf "deciding" "deciding" (defArgs s_deciding) (defBody s_deciding) (defScope s_deciding) .none kV10 dc10 pm10 an10 cd10 ct10), sl10⟩)
    (c10 : PySem.W.codeIn K cd10 "deciding" = true)
    (k10 : PySem.W.keepIn K (.ref f10) = true)
    (a11 : PySem.W.nsIn K mainGlobals "becomes" = some (some (.ref f11)))
    (l11 : K.lookup f11 = some ⟨oc11, od11, .func (PySem.W.fnOf "becomes" "becomes" (defArgs s_becomes) (defBody s_becomes) (defScope s_becomes) .none kV11 dc11 pm11 an11 cd11 ct11), sl11⟩)
    (c11 : PySem.W.codeIn K cd11 "becomes" = true)
    (k11 : PySem.W.keepIn K (.ref f11) = true)
    (a12 : PySem.W.nsIn K mainGlobals "shown_rule" = some (some (.ref f12)))
    (l12 : K.lookup f12 = some ⟨oc12, od12, .func (PySem.W.fnOf "shown_rule" "shown_rule" (defArgs s_shown_rule) (defBody s_shown_rule) (defScope s_shown_rule) .none kV12 dc12 pm12 an12 cd12 ct12), sl12⟩)
    (c12 : PySem.W.codeIn K cd12 "shown_rule" = true)
    (k12 : PySem.W.keepIn K (.ref f12) = true)
    (a13 : PySem.W.nsIn K mainGlobals "_law_at" = some (some (.ref f13)))
    (l13 : K.lookup f13 = some ⟨oc13, od13, .func (PySem.W.fnOf "_law_at" "_law_at" (defArgs s__law_at) (defBody s__law_at) (defScope s__law_at) .none kV13 dc13 pm13 an13 cd13 ct13), sl13⟩)
    (c13 : PySem.W.codeIn K cd13 "_law_at" = true)
    (k13 : PySem.W.keepIn K (.ref f13) = true)
    (a14 : PySem.W.nsIn K mainGlobals "_law_mix" = some (some (.ref f14)))
    (l14 : K.lookup f14 = some ⟨oc14, od14, .func (PySem.W.fnOf "_law_mix" "_law_mix" (defArgs s__law_mix) (defBody s__law_mix) (defScope s__law_mix) .none kV14 dc14 pm14 an14 cd14 ct14), sl14⟩)
    (c14 : PySem.W.codeIn K cd14 "_law_mix" = true)
    (k14 : PySem.W.keepIn K (.ref f14) = true)
    (a15 : PySem.W.nsIn K mainGlobals "_law_state_by" = some (some (.ref f15)))
    (l15 : K.lookup f15 = some ⟨oc15, od15, .func (PySem.W.fnOf "_law_state_by" "_law_state_by" (defArgs s__law_state_by) (defBody s__law_state_by) (defScope s__law_state_by) .none kV15 dc15 pm15 an15 cd15 ct15), sl15⟩)
    (c15 : PySem.W.codeIn K cd15 "_law_state_by" = true)
    (k15 : PySem.W.keepIn K (.ref f15) = true)
    (a16 : PySem.W.nsIn K mainGlobals "_law_condition_by" = some (some (.ref f16)))
    (l16 : K.lookup f16 = some ⟨oc16, od16, .func (PySem.W.fnOf "_law_condition_by" "_law_condition_by" (defArgs s__law_condition_by) (defBody s__law_condition_by) (defScope s__law_condition_by) .none kV16 dc16 pm16 an16 cd16 ct16), sl16⟩)
    (c16 : PySem.W.codeIn K cd16 "_law_condition_by" = true)
    (k16 : PySem.W.keepIn K (.ref f16) = true)
    (a17 : PySem.W.nsIn K mainGlobals "_law_clause_by" = some (some (.ref f17)))
    (l17 : K.lookup f17 = some ⟨oc17, od17, .func (PySem.W.fnOf "_law_clause_by" "_law_clause_by" (defArgs s__law_clause_by) (defBody s__law_clause_by) (defScope s__law_clause_by) .none kV17 dc17 pm17 an17 cd17 ct17), sl17⟩)
    (c17 : PySem.W.codeIn K cd17 "_law_clause_by" = true)
    (k17 : PySem.W.keepIn K (.ref f17) = true)
    (a18 : PySem.W.nsIn K mainGlobals "_law_holds" = some (some (.ref f18)))
    (l18 : K.lookup f18 = some ⟨oc18, od18, .func (PySem.W.fnOf "_law_holds" "_law_holds" (defArgs s__law_holds) (defBody s__law_holds) (defScope s__law_holds) .none kV18 dc18 pm18 an18 cd18 ct18), sl18⟩)
    (c18 : PySem.W.codeIn K cd18 "_law_holds" = true)
    (k18 : PySem.W.keepIn K (.ref f18) = true)
    (a19 : PySem.W.nsIn K mainGlobals "_law_decides" = some (some (.ref f19)))
    (l19 : K.lookup f19 = some ⟨oc19, od19, .func (PySem.W.fnOf "_law_decides" "_law_decides" (defArgs s__law_decides) (defBody s__law_decides) (defScope s__law_decides) .none kV19 dc19 pm19 an19 cd19 ct19), sl19⟩)
    (c19 : PySem.W.codeIn K cd19 "_law_decides" = true)
    (k19 : PySem.W.keepIn K (.ref f19) = true)
    (a20 : PySem.W.nsIn K mainGlobals "_law_becomes" = some (some (.ref f20)))
    (l20 : K.lookup f20 = some ⟨oc20, od20, .func (PySem.W.fnOf "_law_becomes" "_law_becomes" (defArgs s__law_becomes) (defBody s__law_becomes) (defScope s__law_becomes) .none kV20 dc20 pm20 an20 cd20 ct20), sl20⟩)
    (c20 : PySem.W.codeIn K cd20 "_law_becomes" = true)
    (k20 : PySem.W.keepIn K (.ref f20) = true)
    (a21 : PySem.W.nsIn K mainGlobals "_law_clauses_by" = some (some (.ref f21)))
    (l21 : K.lookup f21 = some ⟨oc21, od21, .func (PySem.W.fnOf "_law_clauses_by" "_law_clauses_by" (defArgs s__law_clauses_by) (defBody s__law_clauses_by) (defScope s__law_clauses_by) .none kV21 dc21 pm21 an21 cd21 ct21), sl21⟩)
    (c21 : PySem.W.codeIn K cd21 "_law_clauses_by" = true)
    (k21 : PySem.W.keepIn K (.ref f21) = true)
    (a22 : PySem.W.nsIn K mainGlobals "_law_word" = some (some (.ref f22)))
    (l22 : K.lookup f22 = some ⟨oc22, od22, .func (PySem.W.fnOf "_law_word" "_law_word" (defArgs s__law_word) (defBody s__law_word) (defScope s__law_word) .none kV22 dc22 pm22 an22 cd22 ct22), sl22⟩)
    (c22 : PySem.W.codeIn K cd22 "_law_word" = true)
    (k22 : PySem.W.keepIn K (.ref f22) = true)
    (a23 : PySem.W.nsIn K mainGlobals "_law_text" = some (some (.ref f23)))
    (l23 : K.lookup f23 = some ⟨oc23, od23, .func (PySem.W.fnOf "_law_text" "_law_text" (defArgs s__law_text) (defBody s__law_text) (defScope s__law_text) .none kV23 dc23 pm23 an23 cd23 ct23), sl23⟩)
    (c23 : PySem.W.codeIn K cd23 "_law_text" = true)
    (k23 : PySem.W.keepIn K (.ref f23) = true)
    (a24 : PySem.W.nsIn K mainGlobals "_law_number" = some (some (.ref f24)))
    (l24 : K.lookup f24 = some ⟨oc24, od24, .func (PySem.W.fnOf "_law_number" "_law_number" (defArgs s__law_number) (defBody s__law_number) (defScope s__law_number) .none kV24 dc24 pm24 an24 cd24 ct24), sl24⟩)
    (c24 : PySem.W.codeIn K cd24 "_law_number" = true)
    (k24 : PySem.W.keepIn K (.ref f24) = true)
    (a25 : PySem.W.nsIn K mainGlobals "_law_condition_read" = some (some (.ref f25)))
    (l25 : K.lookup f25 = some ⟨oc25, od25, .func (PySem.W.fnOf "_law_condition_read" "_law_condition_read" (defArgs s__law_condition_read) (defBody s__law_condition_read) (defScope s__law_condition_read) .none kV25 dc25 pm25 an25 cd25 ct25), sl25⟩)
    (c25 : PySem.W.codeIn K cd25 "_law_condition_read" = true)
    (k25 : PySem.W.keepIn K (.ref f25) = true)
    (a26 : PySem.W.nsIn K mainGlobals "_law_clauses_read" = some (some (.ref f26)))
    (l26 : K.lookup f26 = some ⟨oc26, od26, .func (PySem.W.fnOf "_law_clauses_read" "_law_clauses_read" (defArgs s__law_clauses_read) (defBody s__law_clauses_read) (defScope s__law_clauses_read) .none kV26 dc26 pm26 an26 cd26 ct26), sl26⟩)
    (c26 : PySem.W.codeIn K cd26 "_law_clauses_read" = true)
    (k26 : PySem.W.keepIn K (.ref f26) = true)
    (a27 : PySem.W.nsIn K mainGlobals "_law_sign_by" = some (some (.ref f27)))
    (l27 : K.lookup f27 = some ⟨oc27, od27, .func (PySem.W.fnOf "_law_sign_by" "_law_sign_by" (defArgs s__law_sign_by) (defBody s__law_sign_by) (defScope s__law_sign_by) .none kV27 dc27 pm27 an27 cd27 ct27), sl27⟩)
    (c27 : PySem.W.codeIn K cd27 "_law_sign_by" = true)
    (k27 : PySem.W.keepIn K (.ref f27) = true)
    (a28 : PySem.W.nsIn K mainGlobals "_law_odd" = some (some (.ref f28)))
    (l28 : K.lookup f28 = some ⟨oc28, od28, .func (PySem.W.fnOf "_law_odd" "_law_odd" (defArgs s__law_odd) (defBody s__law_odd) (defScope s__law_odd) .none kV28 dc28 pm28 an28 cd28 ct28), sl28⟩)
    (c28 : PySem.W.codeIn K cd28 "_law_odd" = true)
    (k28 : PySem.W.keepIn K (.ref f28) = true)
    (a29 : PySem.W.nsIn K mainGlobals "_law_ahead" = some (some (.ref f29)))
    (l29 : K.lookup f29 = some ⟨oc29, od29, .func (PySem.W.fnOf "_law_ahead" "_law_ahead" (defArgs s__law_ahead) (defBody s__law_ahead) (defScope s__law_ahead) .none kV29 dc29 pm29 an29 cd29 ct29), sl29⟩)
    (c29 : PySem.W.codeIn K cd29 "_law_ahead" = true)
    (k29 : PySem.W.keepIn K (.ref f29) = true)
    (a30 : PySem.W.nsIn K mainGlobals "_law_spoiled" = some (some (.ref f30)))
    (l30 : K.lookup f30 = some ⟨oc30, od30, .func (PySem.W.fnOf "_law_spoiled" "_law_spoiled" (defArgs s__law_spoiled) (defBody s__law_spoiled) (defScope s__law_spoiled) .none kV30 dc30 pm30 an30 cd30 ct30), sl30⟩)
    (c30 : PySem.W.codeIn K cd30 "_law_spoiled" = true)
    (k30 : PySem.W.keepIn K (.ref f30) = true)
    (a31 : PySem.W.nsIn K mainGlobals "_law_others" = some (some (.ref f31)))
    (l31 : K.lookup f31 = some ⟨oc31, od31, .func (PySem.W.fnOf "_law_others" "_law_others" (defArgs s__law_others) (defBody s__law_others) (defScope s__law_others) .none kV31 dc31 pm31 an31 cd31 ct31), sl31⟩)
    (c31 : PySem.W.codeIn K cd31 "_law_others" = true)
    (k31 : PySem.W.keepIn K (.ref f31) = true)
    (a32 : PySem.W.nsIn K mainGlobals "_law_alone" = some (some (.ref f32)))
    (l32 : K.lookup f32 = some ⟨oc32, od32, .func (PySem.W.fnOf "_law_alone" "_law_alone" (defArgs s__law_alone) (defBody s__law_alone) (defScope s__law_alone) .none kV32 dc32 pm32 an32 cd32 ct32), sl32⟩)
    (c32 : PySem.W.codeIn K cd32 "_law_alone" = true)
    (k32 : PySem.W.keepIn K (.ref f32) = true)
    (a33 : PySem.W.nsIn K mainGlobals "_law_said" = some (some (.ref f33)))
    (l33 : K.lookup f33 = some ⟨oc33, od33, .func (PySem.W.fnOf "_law_said" "_law_said" (defArgs s__law_said) (defBody s__law_said) (defScope s__law_said) .none kV33 dc33 pm33 an33 cd33 ct33), sl33⟩)
    (c33 : PySem.W.codeIn K cd33 "_law_said" = true)
    (k33 : PySem.W.keepIn K (.ref f33) = true)
    (a34 : PySem.W.nsIn K mainGlobals "_law_due" = some (some (.ref f34)))
    (l34 : K.lookup f34 = some ⟨oc34, od34, .func (PySem.W.fnOf "_law_due" "_law_due" (defArgs s__law_due) (defBody s__law_due) (defScope s__law_due) .none kV34 dc34 pm34 an34 cd34 ct34), sl34⟩)
    (c34 : PySem.W.codeIn K cd34 "_law_due" = true)
    (k34 : PySem.W.keepIn K (.ref f34) = true)
    (a35 : PySem.W.nsIn K mainGlobals "_law_right" = some (some (.ref f35)))
    (l35 : K.lookup f35 = some ⟨oc35, od35, .func (PySem.W.fnOf "_law_right" "_law_right" (defArgs s__law_right) (defBody s__law_right) (defScope s__law_right) .none kV35 dc35 pm35 an35 cd35 ct35), sl35⟩)
    (c35 : PySem.W.codeIn K cd35 "_law_right" = true)
    (k35 : PySem.W.keepIn K (.ref f35) = true)
    (a36 : PySem.W.nsIn K mainGlobals "law" = some (some (.ref f36)))
    (l36 : K.lookup f36 = some ⟨oc36, od36, .func (PySem.W.fnOf "law" "law" (defArgs s_law) (defBody s_law) (defScope s_law) .none kV36 dc36 pm36 an36 cd36 ct36), sl36⟩)
    (c36 : PySem.W.codeIn K cd36 "law" = true)
    (k36 : PySem.W.keepIn K (.ref f36) = true)
    (a37 : PySem.W.findIn K (.ref c_Amounts) "__init__" = some (some (.ref f37)))
    (i37 : PySem.W.isFn K (.ref f37) = true)
    (l37 : K.lookup f37 = some ⟨oc37, od37, .func (PySem.W.fnOf "__init__" "Amounts.__init__" (defArgs s_Amounts_init) (defBody s_Amounts_init) (defScope s_Amounts_init) .none kV37 dc37 pm37 an37 cd37 ct37), sl37⟩)
    (c37 : PySem.W.codeIn K cd37 "Amounts.__init__" = true)
    (k37 : PySem.W.keepIn K (.ref f37) = true)
    (a38 : PySem.W.findIn K (.ref c_Amounts) "holds" = some (some (.ref f38)))
    (i38 : PySem.W.isFn K (.ref f38) = true)
    (l38 : K.lookup f38 = some ⟨oc38, od38, .func (PySem.W.fnOf "holds" "Amounts.holds" (defArgs s_Amounts_holds) (defBody s_Amounts_holds) (defScope s_Amounts_holds) .none kV38 dc38 pm38 an38 cd38 ct38), sl38⟩)
    (c38 : PySem.W.codeIn K cd38 "Amounts.holds" = true)
    (k38 : PySem.W.keepIn K (.ref f38) = true)
    (a39 : PySem.W.findIn K (.ref c_Places) "__init__" = some (some (.ref f39)))
    (i39 : PySem.W.isFn K (.ref f39) = true)
    (l39 : K.lookup f39 = some ⟨oc39, od39, .func (PySem.W.fnOf "__init__" "Places.__init__" (defArgs s_Places_init) (defBody s_Places_init) (defScope s_Places_init) .none kV39 dc39 pm39 an39 cd39 ct39), sl39⟩)
    (c39 : PySem.W.codeIn K cd39 "Places.__init__" = true)
    (k39 : PySem.W.keepIn K (.ref f39) = true)
    (a40 : PySem.W.findIn K (.ref c_Places) "holds" = some (some (.ref f40)))
    (i40 : PySem.W.isFn K (.ref f40) = true)
    (l40 : K.lookup f40 = some ⟨oc40, od40, .func (PySem.W.fnOf "holds" "Places.holds" (defArgs s_Places_holds) (defBody s_Places_holds) (defScope s_Places_holds) .none kV40 dc40 pm40 an40 cd40 ct40), sl40⟩)
    (c40 : PySem.W.codeIn K cd40 "Places.holds" = true)
    (k40 : PySem.W.keepIn K (.ref f40) = true)
    (a41 : PySem.W.findIn K (.ref c_Clause) "__init__" = some (some (.ref f41)))
    (i41 : PySem.W.isFn K (.ref f41) = true)
    (l41 : K.lookup f41 = some ⟨oc41, od41, .func (PySem.W.fnOf "__init__" "Clause.__init__" (defArgs s_Clause_init) (defBody s_Clause_init) (defScope s_Clause_init) .none kV41 dc41 pm41 an41 cd41 ct41), sl41⟩)
    (c41 : PySem.W.codeIn K cd41 "Clause.__init__" = true)
    (k41 : PySem.W.keepIn K (.ref f41) = true)
    (a42 : PySem.W.findIn K (.ref c_Clause) "fits" = some (some (.ref f42)))
    (i42 : PySem.W.isFn K (.ref f42) = true)
    (l42 : K.lookup f42 = some ⟨oc42, od42, .func (PySem.W.fnOf "fits" "Clause.fits" (defArgs s_Clause_fits) (defBody s_Clause_fits) (defScope s_Clause_fits) .none kV42 dc42 pm42 an42 cd42 ct42), sl42⟩)
    (c42 : PySem.W.codeIn K cd42 "Clause.fits" = true)
    (k42 : PySem.W.keepIn K (.ref f42) = true)
    (a43 : PySem.W.findIn K (.ref c_Rule) "__init__" = some (some (.ref f43)))
    (i43 : PySem.W.isFn K (.ref f43) = true)
    (l43 : K.lookup f43 = some ⟨oc43, od43, .func (PySem.W.fnOf "__init__" "Rule.__init__" (defArgs s_Rule_init) (defBody s_Rule_init) (defScope s_Rule_init) .none kV43 dc43 pm43 an43 cd43 ct43), sl43⟩)
    (c43 : PySem.W.codeIn K cd43 "Rule.__init__" = true)
    (k43 : PySem.W.keepIn K (.ref f43) = true)
    (z_all : PySem.W.nsIn K mainGlobals "all" = some none)
    (z_enumerate : PySem.W.nsIn K mainGlobals "enumerate" = some none)
    (z_int : PySem.W.nsIn K mainGlobals "int" = some none)
    (z_isinstance : PySem.W.nsIn K mainGlobals "isinstance" = some none)
    (z_len : PySem.W.nsIn K mainGlobals "len" = some none)
    (z_max : PySem.W.nsIn K mainGlobals "max" = some none)
    (z_min : PySem.W.nsIn K mainGlobals "min" = some none)
    (z_range : PySem.W.nsIn K mainGlobals "range" = some none)
    (z_str : PySem.W.nsIn K mainGlobals "str" = some none)
    (z_tuple : PySem.W.nsIn K mainGlobals "tuple" = some none)
    (z_zip : PySem.W.nsIn K mainGlobals "zip" = some none)
    (g_NEIGHBOURS : PySem.W.nsIn K mainGlobals "NEIGHBOURS" = some (some (.int 8 t_NEIGHBOURS)))
    (g_STATE_FIGURES : PySem.W.nsIn K mainGlobals "STATE_FIGURES" = some (some (.str x_STATE_FIGURES t_STATE_FIGURES)))
    (gx_STATE_FIGURES : x_STATE_FIGURES = Str.ofString "01234567")
    (g_AMOUNT_FIGURES : PySem.W.nsIn K mainGlobals "AMOUNT_FIGURES" = some (some (.str x_AMOUNT_FIGURES t_AMOUNT_FIGURES)))
    (gx_AMOUNT_FIGURES : x_AMOUNT_FIGURES = Str.ofString "012345678")
    (g_ANY_SIGN : PySem.W.nsIn K mainGlobals "ANY_SIGN" = some (some (.str x_ANY_SIGN t_ANY_SIGN)))
    (gx_ANY_SIGN : x_ANY_SIGN = Str.ofString "*")
    (g_CLAUSE_MARK : PySem.W.nsIn K mainGlobals "CLAUSE_MARK" = some (some (.str x_CLAUSE_MARK t_CLAUSE_MARK)))
    (gx_CLAUSE_MARK : x_CLAUSE_MARK = Str.ofString "; ")
    (z_ValueError : PySem.W.nsIn K mainGlobals "ValueError" = some none)
    (nx_FieldError : PySem.W.nsIn K mainGlobals "FieldError" = some (some (.ref x_FieldError)))
    (nx_NoNumber : PySem.W.nsIn K mainGlobals "NoNumber" = some (some (.ref x_NoNumber)))
    (nx_NoRule : PySem.W.nsIn K mainGlobals "NoRule" = some (some (.ref x_NoRule)))
    (nx_Restless : PySem.W.nsIn K mainGlobals "Restless" = some (some (.ref x_Restless)))
    (nx_NoSquare : PySem.W.nsIn K mainGlobals "NoSquare" = some (some (.ref x_NoSquare)))
    (nx_NoLevel : PySem.W.nsIn K mainGlobals "NoLevel" = some (some (.ref x_NoLevel)))
    (nx_NoState : PySem.W.nsIn K mainGlobals "NoState" = some (some (.ref x_NoState)))
    (nx_NoBox : PySem.W.nsIn K mainGlobals "NoBox" = some (some (.ref x_NoBox)))
    (nx_TooFar : PySem.W.nsIn K mainGlobals "TooFar" = some (some (.ref x_TooFar)))
    (nx_TooMany : PySem.W.nsIn K mainGlobals "TooMany" = some (some (.ref x_TooMany)))
    (nx_NoSteps : PySem.W.nsIn K mainGlobals "NoSteps" = some (some (.ref x_NoSteps)))
    (nx_NoPattern : PySem.W.nsIn K mainGlobals "NoPattern" = some (some (.ref x_NoPattern)))
    (nx_NoName : PySem.W.nsIn K mainGlobals "NoName" = some (some (.ref x_NoName)))
    (nx_NoRow : PySem.W.nsIn K mainGlobals "NoRow" = some (some (.ref x_NoRow)))
    (ec_NoRule : ExcC K x_NoRule)
    (ec_Restless : ExcC K x_Restless)
    (ec_FieldError : ExcC K x_FieldError)
    (xf_NoRule_0 : PySem.W.hasDictIn K x_NoRule = true)
    (xf_NoRule_1 : PySem.W.findIn K (.ref x_NoRule) "__getattribute__" = some (some (.builtin "BaseException.__getattribute__")))
    (xf_NoRule_2 : PySem.W.findIn K (.ref x_NoRule) "__getattr__" = some none)
    (xf_NoRule_3 : PySem.W.findIn K (.ref x_NoRule) "__class__" = some (some (.builtin "object.__class__")))
    (xf_4 : PySem.W.specialIn K (.builtin "object.__class__") "__get__" = some (some (.builtin "getset_descriptor.__get__")))
    (xf_5 : PySem.W.takesIn K (.builtin "object.__class__") = some true)
    (xf_NoRule_6 : PySem.W.mroIn K x_NoRule (.type "object") = some true)
    (xf_NoRule_7 : PySem.W.mroIn K x_NoRule (.type "BaseException") = some true)
    (mr_NoRule : PySem.W.mroIn K x_NoRule (.ref x_FieldError) = some true)
    (kv_NoRule : PySem.W.kitOne K (.ref x_NoRule) (.type "ValueError") = some true)
    (ki_NoRule_NoNumber : PySem.W.kitOne K (.ref x_NoRule) (.ref x_NoNumber) = some false)
    (ki_NoRule_NoRule : PySem.W.kitOne K (.ref x_NoRule) (.ref x_NoRule) = some true)
    (ki_NoRule_Restless : PySem.W.kitOne K (.ref x_NoRule) (.ref x_Restless) = some false)
    (ki_NoRule_NoSquare : PySem.W.kitOne K (.ref x_NoRule) (.ref x_NoSquare) = some false)
    (ki_NoRule_NoLevel : PySem.W.kitOne K (.ref x_NoRule) (.ref x_NoLevel) = some false)
    (ki_NoRule_NoState : PySem.W.kitOne K (.ref x_NoRule) (.ref x_NoState) = some false)
    (ki_NoRule_NoBox : PySem.W.kitOne K (.ref x_NoRule) (.ref x_NoBox) = some false)
    (ki_NoRule_TooFar : PySem.W.kitOne K (.ref x_NoRule) (.ref x_TooFar) = some false)
    (ki_NoRule_TooMany : PySem.W.kitOne K (.ref x_NoRule) (.ref x_TooMany) = some false)
    (ki_NoRule_NoSteps : PySem.W.kitOne K (.ref x_NoRule) (.ref x_NoSteps) = some false)
    (ki_NoRule_NoPattern : PySem.W.kitOne K (.ref x_NoRule) (.ref x_NoPattern) = some false)
    (ki_NoRule_NoName : PySem.W.kitOne K (.ref x_NoRule) (.ref x_NoName) = some false)
    (ki_NoRule_NoRow : PySem.W.kitOne K (.ref x_NoRule) (.ref x_NoRow) = some false)
    (kf_NoRule : PySem.W.kitOne K (.ref x_NoRule) (.ref x_FieldError) = some true)
    (mm_NoRule_NoRule : PySem.W.mroIn K x_NoRule (.ref x_NoRule) = some true)
    (mm_NoRule_Restless : PySem.W.mroIn K x_NoRule (.ref x_Restless) = some false)
    (xf_Restless_0 : PySem.W.hasDictIn K x_Restless = true)
    (xf_Restless_1 : PySem.W.findIn K (.ref x_Restless) "__getattribute__" = some (some (.builtin "BaseException.__getattribute__")))
    (xf_Restless_2 : PySem.W.findIn K (.ref x_Restless) "__getattr__" = some none)
    (xf_Restless_3 : PySem.W.findIn K (.ref x_Restless) "__class__" = some (some (.builtin "object.__class__")))
    (xf_Restless_6 : PySem.W.mroIn K x_Restless (.type "object") = some true)
    (xf_Restless_7 : PySem.W.mroIn K x_Restless (.type "BaseException") = some true)
    (mr_Restless : PySem.W.mroIn K x_Restless (.ref x_FieldError) = some true)
    (kv_Restless : PySem.W.kitOne K (.ref x_Restless) (.type "ValueError") = some true)
    (ki_Restless_NoNumber : PySem.W.kitOne K (.ref x_Restless) (.ref x_NoNumber) = some false)
    (ki_Restless_NoRule : PySem.W.kitOne K (.ref x_Restless) (.ref x_NoRule) = some false)
    (ki_Restless_Restless : PySem.W.kitOne K (.ref x_Restless) (.ref x_Restless) = some true)
    (ki_Restless_NoSquare : PySem.W.kitOne K (.ref x_Restless) (.ref x_NoSquare) = some false)
    (ki_Restless_NoLevel : PySem.W.kitOne K (.ref x_Restless) (.ref x_NoLevel) = some false)
    (ki_Restless_NoState : PySem.W.kitOne K (.ref x_Restless) (.ref x_NoState) = some false)
    (ki_Restless_NoBox : PySem.W.kitOne K (.ref x_Restless) (.ref x_NoBox) = some false)
    (ki_Restless_TooFar : PySem.W.kitOne K (.ref x_Restless) (.ref x_TooFar) = some false)
    (ki_Restless_TooMany : PySem.W.kitOne K (.ref x_Restless) (.ref x_TooMany) = some false)
    (ki_Restless_NoSteps : PySem.W.kitOne K (.ref x_Restless) (.ref x_NoSteps) = some false)
    (ki_Restless_NoPattern : PySem.W.kitOne K (.ref x_Restless) (.ref x_NoPattern) = some false)
    (ki_Restless_NoName : PySem.W.kitOne K (.ref x_Restless) (.ref x_NoName) = some false)
    (ki_Restless_NoRow : PySem.W.kitOne K (.ref x_Restless) (.ref x_NoRow) = some false)
    (kf_Restless : PySem.W.kitOne K (.ref x_Restless) (.ref x_FieldError) = some true)
    (mm_Restless_NoRule : PySem.W.mroIn K x_Restless (.ref x_NoRule) = some false)
    (mm_Restless_Restless : PySem.W.mroIn K x_Restless (.ref x_Restless) = some true)
    : ∃ fd : FuncData, (∀ (s : Shared) (v : Value), BindsTo s fd ⟨[v], []⟩ [("_law_script", v)]) ∧ ∀ base : Heap, K.In base → base.Ns mainGlobals mg → FnOk l.prog w K mg base CX0 11 fa fd ["_law_script"] (spLaw K) := by
  have e := hfa.symm.trans (PySem.W.mg_of X G a36)
  cases e
  have no : ∀ {x : Str}, PySem.W.nsIn K mainGlobals x = some none → mg x = none := fun z => PySem.W.mg_none_of X G z
  subst gx_CLAUSE_MARK
  subst gx_ANY_SIGN
  subst gx_AMOUNT_FIGURES
  subst gx_STATE_FIGURES
  have T : Top K mg (⟨c_Amounts, c_Places, c_Clause, c_Rule, x_FieldError, x_NoNumber, x_NoRule, x_Restless, x_NoSquare, x_NoLevel, x_NoState, x_NoBox, x_TooFar, x_TooMany, x_NoSteps, x_NoPattern, x_NoName, x_NoRow⟩ : Ad) := ⟨no z_all, no z_enumerate, no z_int, no z_isinstance, no z_len, no z_max, no z_min, no z_range, no z_str, no z_tuple, no z_zip, ⟨t_NEIGHBOURS, PySem.W.mg_of X G g_NEIGHBOURS⟩, ⟨t_STATE_FIGURES, PySem.W.mg_of X G g_STATE_FIGURES⟩, ⟨t_AMOUNT_FIGURES, PySem.W.mg_of X G g_AMOUNT_FIGURES⟩, ⟨t_ANY_SIGN, PySem.W.mg_of X G g_ANY_SIGN⟩, ⟨t_CLAUSE_MARK, PySem.W.mg_of X G g_CLAUSE_MARK⟩, PySem.W.mg_of X G n_c_Amounts, ⟨pg_Amounts, hd_Amounts, po_Amounts, sa_Amounts⟩, na_Amounts_state, na_Amounts_numbers, PySem.W.mg_of X G n_c_Places, ⟨pg_Places, hd_Places, po_Places, sa_Places⟩, na_Places_wanted, PySem.W.mg_of X G n_c_Clause, ⟨pg_Clause, hd_Clause, po_Clause, sa_Clause⟩, na_Clause_cell, na_Clause_conditions, na_Clause_makes, PySem.W.mg_of X G n_c_Rule, ⟨pg_Rule, hd_Rule, po_Rule, sa_Rule⟩, na_Rule_text, na_Rule_clauses, no z_ValueError, PySem.W.mg_of X G nx_FieldError, PySem.W.mg_of X G nx_NoNumber, PySem.W.mg_of X G nx_NoRule, PySem.W.mg_of X G nx_Restless, PySem.W.mg_of X G nx_NoSquare, PySem.W.mg_of X G nx_NoLevel, PySem.W.mg_of X G nx_NoState, PySem.W.mg_of X G nx_NoBox, PySem.W.mg_of X G nx_TooFar, PySem.W.mg_of X G nx_TooMany, PySem.W.mg_of X G nx_NoSteps, PySem.W.mg_of X G nx_NoPattern, PySem.W.mg_of X G nx_NoName, PySem.W.mg_of X G nx_NoRow, ec_NoRule, ec_Restless, ec_FieldError, ⟨xf_NoRule_0, xf_NoRule_1, xf_NoRule_2, xf_NoRule_3, xf_4, xf_5, xf_NoRule_6, xf_NoRule_7⟩, mr_NoRule, kv_NoRule, ki_NoRule_NoNumber, ki_NoRule_NoRule, ki_NoRule_Restless, ki_NoRule_NoSquare, ki_NoRule_NoLevel, ki_NoRule_NoState, ki_NoRule_NoBox, ki_NoRule_TooFar, ki_NoRule_TooMany, ki_NoRule_NoSteps, ki_NoRule_NoPattern, ki_NoRule_NoName, ki_NoRule_NoRow, kf_NoRule, mm_NoRule_NoRule, mm_NoRule_Restless, ⟨xf_Restless_0, xf_Restless_1, xf_Restless_2, xf_Restless_3, xf_4, xf_5, xf_Restless_6, xf_Restless_7⟩, mr_Restless, kv_Restless, ki_Restless_NoNumber, ki_Restless_NoRule, ki_Restless_Restless, ki_Restless_NoSquare, ki_Restless_NoLevel, ki_Restless_NoState, ki_Restless_NoBox, ki_Restless_TooFar, ki_Restless_TooMany, ki_Restless_NoSteps, ki_Restless_NoPattern, ki_Restless_NoName, ki_Restless_NoRow, kf_Restless, mm_Restless_NoRule, mm_Restless_Restless⟩
  have F_takes := fun_mk (x := "takes") (qual := "takes") (st := s_takes) l0 c0 k0
  have b_takes := F_takes.binds (ps := p_takes) fun _ _ _ _ _ _ us hl => by obtain ⟨x0, x1, rfl⟩ := ar2 us hl; exact rfl
  have m_takes := PySem.W.mg_of X G a0
  have F_read_clause := fun_mk (x := "read_clause") (qual := "read_clause") (st := s_read_clause) l1 c1 k1
  have b_read_clause := F_read_clause.binds (ps := p_read_clause) fun _ _ _ _ _ _ us hl => by obtain ⟨x0, rfl⟩ := ar1 us hl; exact rfl
  have m_read_clause := PySem.W.mg_of X G a1
  have F_read_state := fun_mk (x := "read_state") (qual := "read_state") (st := s_read_state) l2 c2 k2
  have b_read_state := F_read_state.binds (ps := p_read_state) fun _ _ _ _ _ _ us hl => by obtain ⟨x0, rfl⟩ := ar1 us hl; exact rfl
  have m_read_state := PySem.W.mg_of X G a2
  have F_read_wanted := fun_mk (x := "read_wanted") (qual := "read_wanted") (st := s_read_wanted) l3 c3 k3
  have b_read_wanted := F_read_wanted.binds (ps := p_read_wanted) fun _ _ _ _ _ _ us hl => by obtain ⟨x0, rfl⟩ := ar1 us hl; exact rfl
  have m_read_wanted := PySem.W.mg_of X G a3
  have F_read_condition := fun_mk (x := "read_condition") (qual := "read_condition") (st := s_read_condition) l4 c4 k4
  have b_read_condition := F_read_condition.binds (ps := p_read_condition) fun _ _ _ _ _ _ us hl => by obtain ⟨x0, rfl⟩ := ar1 us hl; exact rfl
  have m_read_condition := PySem.W.mg_of X G a4
  have F_read_amounts := fun_mk (x := "read_amounts") (qual := "read_amounts") (st := s_read_amounts) l5 c5 k5
  have b_read_amounts := F_read_amounts.binds (ps := p_read_amounts) fun _ _ _ _ _ _ us hl => by obtain ⟨x0, rfl⟩ := ar1 us hl; exact rfl
  have m_read_amounts := PySem.W.mg_of X G a5
  have F_read_numbers := fun_mk (x := "read_numbers") (qual := "read_numbers") (st := s_read_numbers) l6 c6 k6
  have b_read_numbers := F_read_numbers.binds (ps := p_read_numbers) fun _ _ _ _ _ _ us hl => by obtain ⟨x0, rfl⟩ := ar1 us hl; exact rfl
  have m_read_numbers := PySem.W.mg_of X G a6
  have F_read_places := fun_mk (x := "read_places") (qual := "read_places") (st := s_read_places) l7 c7 k7
  have b_read_places := F_read_places.binds (ps := p_read_places) fun _ _ _ _ _ _ us hl => by obtain ⟨x0, rfl⟩ := ar1 us hl; exact rfl
  have m_read_places := PySem.W.mg_of X G a7
  have F_clause_texts := fun_mk (x := "clause_texts") (qual := "clause_texts") (st := s_clause_texts) l8 c8 k8
  have b_clause_texts := F_clause_texts.binds (ps := p_clause_texts) fun _ _ _ _ _ _ us hl => by obtain ⟨x0, rfl⟩ := ar1 us hl; exact rfl
  have m_clause_texts := PySem.W.mg_of X G a8
  have F_read_rule := fun_mk (x := "read_rule") (qual := "read_rule") (st := s_read_rule) l9 c9 k9
  have b_read_rule := F_read_rule.binds (ps := p_read_rule) fun _ _ _ _ _ _ us hl => by obtain ⟨x0, rfl⟩ := ar1 us hl; exact rfl
  have m_read_rule := PySem.W.mg_of X G a9
  have F_deciding := fun_mk (x := "deciding") (qual := "deciding") (st := s_deciding) l10 c10 k10
  have b_deciding := F_deciding.binds (ps := p_deciding) fun _ _ _ _ _ _ us hl => by obtain ⟨x0, x1, x2, rfl⟩ := ar3 us hl; exact rfl
  have m_deciding := PySem.W.mg_of X G a10
  have F_becomes := fun_mk (x := "becomes") (qual := "becomes") (st := s_becomes) l11 c11 k11
  have b_becomes := F_becomes.binds (ps := p_becomes) fun _ _ _ _ _ _ us hl => by obtain ⟨x0, x1, x2, rfl⟩ := ar3 us hl; exact rfl
  have m_becomes := PySem.W.mg_of X G a11
  have F_shown_rule := fun_mk (x := "shown_rule") (qual := "shown_rule") (st := s_shown_rule) l12 c12 k12
  have b_shown_rule := F_shown_rule.binds (ps := p_shown_rule) fun _ _ _ _ _ _ us hl => by obtain ⟨x0, rfl⟩ := ar1 us hl; exact rfl
  have m_shown_rule := PySem.W.mg_of X G a12
  have F__law_at := fun_mk (x := "_law_at") (qual := "_law_at") (st := s__law_at) l13 c13 k13
  have b__law_at := F__law_at.binds (ps := p__law_at) fun _ _ _ _ _ _ us hl => by obtain ⟨x0, x1, rfl⟩ := ar2 us hl; exact rfl
  have m__law_at := PySem.W.mg_of X G a13
  have F__law_mix := fun_mk (x := "_law_mix") (qual := "_law_mix") (st := s__law_mix) l14 c14 k14
  have b__law_mix := F__law_mix.binds (ps := p__law_mix) fun _ _ _ _ _ _ us hl => by obtain ⟨x0, x1, rfl⟩ := ar2 us hl; exact rfl
  have m__law_mix := PySem.W.mg_of X G a14
  have F__law_state_by := fun_mk (x := "_law_state_by") (qual := "_law_state_by") (st := s__law_state_by) l15 c15 k15
  have b__law_state_by := F__law_state_by.binds (ps := p__law_state_by) fun _ _ _ _ _ _ us hl => by obtain ⟨x0, x1, rfl⟩ := ar2 us hl; exact rfl
  have m__law_state_by := PySem.W.mg_of X G a15
  have F__law_condition_by := fun_mk (x := "_law_condition_by") (qual := "_law_condition_by") (st := s__law_condition_by) l16 c16 k16
  have b__law_condition_by := F__law_condition_by.binds (ps := p__law_condition_by) fun _ _ _ _ _ _ us hl => by obtain ⟨x0, x1, x2, rfl⟩ := ar3 us hl; exact rfl
  have m__law_condition_by := PySem.W.mg_of X G a16
  have F__law_clause_by := fun_mk (x := "_law_clause_by") (qual := "_law_clause_by") (st := s__law_clause_by) l17 c17 k17
  have b__law_clause_by := F__law_clause_by.binds (ps := p__law_clause_by) fun _ _ _ _ _ _ us hl => by obtain ⟨x0, x1, x2, rfl⟩ := ar3 us hl; exact rfl
  have m__law_clause_by := PySem.W.mg_of X G a17
  have F__law_holds := fun_mk (x := "_law_holds") (qual := "_law_holds") (st := s__law_holds) l18 c18 k18
  have b__law_holds := F__law_holds.binds (ps := p__law_holds) fun _ _ _ _ _ _ us hl => by obtain ⟨x0, x1, rfl⟩ := ar2 us hl; exact rfl
  have m__law_holds := PySem.W.mg_of X G a18
  have F__law_decides := fun_mk (x := "_law_decides") (qual := "_law_decides") (st := s__law_decides) l19 c19 k19
  have b__law_decides := F__law_decides.binds (ps := p__law_decides) fun _ _ _ _ _ _ us hl => by obtain ⟨x0, x1, x2, rfl⟩ := ar3 us hl; exact rfl
  have m__law_decides := PySem.W.mg_of X G a19
  have F__law_becomes := fun_mk (x := "_law_becomes") (qual := "_law_becomes") (st := s__law_becomes) l20 c20 k20
  have b__law_becomes := F__law_becomes.binds (ps := p__law_becomes) fun _ _ _ _ _ _ us hl => by obtain ⟨x0, x1, x2, rfl⟩ := ar3 us hl; exact rfl
  have m__law_becomes := PySem.W.mg_of X G a20
  have F__law_clauses_by := fun_mk (x := "_law_clauses_by") (qual := "_law_clauses_by") (st := s__law_clauses_by) l21 c21 k21
  have b__law_clauses_by := F__law_clauses_by.binds (ps := p__law_clauses_by) fun _ _ _ _ _ _ us hl => by obtain ⟨x0, x1, x2, rfl⟩ := ar3 us hl; exact rfl
  have m__law_clauses_by := PySem.W.mg_of X G a21
  have F__law_word := fun_mk (x := "_law_word") (qual := "_law_word") (st := s__law_word) l22 c22 k22
  have b__law_word := F__law_word.binds (ps := p__law_word) fun _ _ _ _ _ _ us hl => by obtain ⟨x0, rfl⟩ := ar1 us hl; exact rfl
  have m__law_word := PySem.W.mg_of X G a22
  have F__law_text := fun_mk (x := "_law_text") (qual := "_law_text") (st := s__law_text) l23 c23 k23
  have b__law_text := F__law_text.binds (ps := p__law_text) fun _ _ _ _ _ _ us hl => by obtain ⟨x0, rfl⟩ := ar1 us hl; exact rfl
  have m__law_text := PySem.W.mg_of X G a23
  have F__law_number := fun_mk (x := "_law_number") (qual := "_law_number") (st := s__law_number) l24 c24 k24
  have b__law_number := F__law_number.binds (ps := p__law_number) fun _ _ _ _ _ _ us hl => by obtain ⟨x0, x1, rfl⟩ := ar2 us hl; exact rfl
  have m__law_number := PySem.W.mg_of X G a24
  have F__law_condition_read := fun_mk (x := "_law_condition_read") (qual := "_law_condition_read") (st := s__law_condition_read) l25 c25 k25
  have b__law_condition_read := F__law_condition_read.binds (ps := p__law_condition_read) fun _ _ _ _ _ _ us hl => by obtain ⟨x0, rfl⟩ := ar1 us hl; exact rfl
  have m__law_condition_read := PySem.W.mg_of X G a25
  have F__law_clauses_read := fun_mk (x := "_law_clauses_read") (qual := "_law_clauses_read") (st := s__law_clauses_read) l26 c26 k26
  have b__law_clauses_read := F__law_clauses_read.binds (ps := p__law_clauses_read) fun _ _ _ _ _ _ us hl => by obtain ⟨x0, rfl⟩ := ar1 us hl; exact rfl
  have m__law_clauses_read := PySem.W.mg_of X G a26
  have F__law_sign_by := fun_mk (x := "_law_sign_by") (qual := "_law_sign_by") (st := s__law_sign_by) l27 c27 k27
  have b__law_sign_by := F__law_sign_by.binds (ps := p__law_sign_by) fun _ _ _ _ _ _ us hl => by obtain ⟨x0, rfl⟩ := ar1 us hl; exact rfl
  have m__law_sign_by := PySem.W.mg_of X G a27
  have F__law_odd := fun_mk (x := "_law_odd") (qual := "_law_odd") (st := s__law_odd) l28 c28 k28
  have b__law_odd := F__law_odd.binds (ps := p__law_odd) fun _ _ _ _ _ _ us hl => by obtain ⟨x0, rfl⟩ := ar1 us hl; exact rfl
  have m__law_odd := PySem.W.mg_of X G a28
  have F__law_ahead := fun_mk (x := "_law_ahead") (qual := "_law_ahead") (st := s__law_ahead) l29 c29 k29
  have b__law_ahead := F__law_ahead.binds (ps := p__law_ahead) fun _ _ _ _ _ _ us hl => by obtain ⟨x0, rfl⟩ := ar1 us hl; exact rfl
  have m__law_ahead := PySem.W.mg_of X G a29
  have F__law_spoiled := fun_mk (x := "_law_spoiled") (qual := "_law_spoiled") (st := s__law_spoiled) l30 c30 k30
  have b__law_spoiled := F__law_spoiled.binds (ps := p__law_spoiled) fun _ _ _ _ _ _ us hl => by obtain ⟨x0, x1, x2, x3, rfl⟩ := ar4 us hl; exact rfl
  have m__law_spoiled := PySem.W.mg_of X G a30
  have F__law_others := fun_mk (x := "_law_others") (qual := "_law_others") (st := s__law_others) l31 c31 k31
  have b__law_others := F__law_others.binds (ps := p__law_others) fun _ _ _ _ _ _ us hl => by obtain ⟨x0, rfl⟩ := ar1 us hl; exact rfl
  have m__law_others := PySem.W.mg_of X G a31
  have F__law_alone := fun_mk (x := "_law_alone") (qual := "_law_alone") (st := s__law_alone) l32 c32 k32
  have b__law_alone := F__law_alone.binds (ps := p__law_alone) fun _ _ _ _ _ _ us hl => by obtain ⟨x0, rfl⟩ := ar1 us hl; exact rfl
  have m__law_alone := PySem.W.mg_of X G a32
  have F__law_said := fun_mk (x := "_law_said") (qual := "_law_said") (st := s__law_said) l33 c33 k33
  have b__law_said := F__law_said.binds (ps := p__law_said) fun _ _ _ _ _ _ us hl => by obtain ⟨x0, rfl⟩ := ar1 us hl; exact rfl
  have m__law_said := PySem.W.mg_of X G a33
  have F__law_due := fun_mk (x := "_law_due") (qual := "_law_due") (st := s__law_due) l34 c34 k34
  have b__law_due := F__law_due.binds (ps := p__law_due) fun _ _ _ _ _ _ us hl => by obtain ⟨x0, rfl⟩ := ar1 us hl; exact rfl
  have m__law_due := PySem.W.mg_of X G a34
  have F__law_right := fun_mk (x := "_law_right") (qual := "_law_right") (st := s__law_right) l35 c35 k35
  have b__law_right := F__law_right.binds (ps := p__law_right) fun _ _ _ _ _ _ us hl => by obtain ⟨x0, x1, rfl⟩ := ar2 us hl; exact rfl
  have m__law_right := PySem.W.mg_of X G a35
  have F_law := fun_mk (x := "law") (qual := "law") (st := s_law) l36 c36 k36
  have m_law := PySem.W.mg_of X G a36
  have F_Amounts_init := fun_mk (x := "__init__") (qual := "Amounts.__init__") (st := s_Amounts_init) l37 c37 k37
  have b_Amounts_init := F_Amounts_init.binds (ps := p_Amounts_init) fun _ _ _ _ _ _ us hl => by obtain ⟨x0, x1, x2, rfl⟩ := ar3 us hl; exact rfl
  have M_Amounts : Mk K c_Amounts f37 := ⟨mk_Amounts, a37, i37, kc_Amounts⟩
  have F_Amounts_holds := fun_mk (x := "holds") (qual := "Amounts.holds") (st := s_Amounts_holds) l38 c38 k38
  have b_Amounts_holds := F_Amounts_holds.binds (ps := p_Amounts_holds) fun _ _ _ _ _ _ us hl => by obtain ⟨x0, x1, rfl⟩ := ar2 us hl; exact rfl
  have e_Amounts_holds : Meth K c_Amounts "holds" f38 := ⟨a38, i38, k38⟩
  have F_Places_init := fun_mk (x := "__init__") (qual := "Places.__init__") (st := s_Places_init) l39 c39 k39
  have b_Places_init := F_Places_init.binds (ps := p_Places_init) fun _ _ _ _ _ _ us hl => by obtain ⟨x0, x1, rfl⟩ := ar2 us hl; exact rfl
  have M_Places : Mk K c_Places f39 := ⟨mk_Places, a39, i39, kc_Places⟩
  have F_Places_holds := fun_mk (x := "holds") (qual := "Places.holds") (st := s_Places_holds) l40 c40 k40
  have b_Places_holds := F_Places_holds.binds (ps := p_Places_holds) fun _ _ _ _ _ _ us hl => by obtain ⟨x0, x1, rfl⟩ := ar2 us hl; exact rfl
  have e_Places_holds : Meth K c_Places "holds" f40 := ⟨a40, i40, k40⟩
  have F_Clause_init := fun_mk (x := "__init__") (qual := "Clause.__init__") (st := s_Clause_init) l41 c41 k41
  have b_Clause_init := F_Clause_init.binds (ps := p_Clause_init) fun _ _ _ _ _ _ us hl => by obtain ⟨x0, x1, x2, x3, rfl⟩ := ar4 us hl; exact rfl
  have M_Clause : Mk K c_Clause f41 := ⟨mk_Clause, a41, i41, kc_Clause⟩
  have F_Clause_fits := fun_mk (x := "fits") (qual := "Clause.fits") (st := s_Clause_fits) l42 c42 k42
  have b_Clause_fits := F_Clause_fits.binds (ps := p_Clause_fits) fun _ _ _ _ _ _ us hl => by obtain ⟨x0, x1, x2, rfl⟩ := ar3 us hl; exact rfl
  have e_Clause_fits : Meth K c_Clause "fits" f42 := ⟨a42, i42, k42⟩
  have F_Rule_init := fun_mk (x := "__init__") (qual := "Rule.__init__") (st := s_Rule_init) l43 c43 k43
  have b_Rule_init := F_Rule_init.binds (ps := p_Rule_init) fun _ _ _ _ _ _ us hl => by obtain ⟨x0, x1, rfl⟩ := ar2 us hl; exact rfl
  have M_Rule : Mk K c_Rule f43 := ⟨mk_Rule, a43, i43, kc_Rule⟩
  refine ⟨PySem.W.fnOf "law" "law" (defArgs s_law) (defBody s_law) (defScope s_law) .none kV36 dc36 pm36 an36 cd36 ct36, fun s v => .of_eq rfl, fun base _ _ => ?_⟩
  have C_takes : Cal l.prog w K mg base CX0 1 "takes" p_takes spTakes := ⟨_, _, ok_takes F_takes, m_takes, F_takes.kp, b_takes⟩
  have C_Amounts : CalC l.prog w K mg base CX0 1 "Amounts" c_Amounts p_Amounts_init (spAmInit _) := ⟨_, _, ok_AmInit F_Amounts_init T, M_Amounts, T.m_Amounts, b_Amounts_init⟩
  have C_Places : CalC l.prog w K mg base CX0 1 "Places" c_Places p_Places_init (spPlInit _) := ⟨_, _, ok_PlInit F_Places_init T, M_Places, T.m_Places, b_Places_init⟩
  have C_Clause : CalC l.prog w K mg base CX0 1 "Clause" c_Clause p_Clause_init (spClInit _) := ⟨_, _, ok_ClInit F_Clause_init T, M_Clause, T.m_Clause, b_Clause_init⟩
  have M_Amounts_holds : CalM l.prog w K mg base CX0 1 c_Amounts "holds" p_Amounts_holds (spAmHolds _) := ⟨⟨_, _, ok_AmHolds F_Amounts_holds T, e_Amounts_holds, b_Amounts_holds⟩, T.cl_Amounts⟩
  have M_Places_holds : CalM l.prog w K mg base CX0 2 c_Places "holds" p_Places_holds (spPlHolds _) := ⟨⟨_, _, ok_PlHolds F_Places_holds T C_takes, e_Places_holds, b_Places_holds⟩, T.cl_Places⟩
  have M_Clause_fits : CalM l.prog w K mg base CX0 3 c_Clause "fits" p_Clause_fits (spFits _) := ⟨⟨_, _, ok_Fits F_Clause_fits T C_takes M_Amounts_holds M_Places_holds, e_Clause_fits, b_Clause_fits⟩, T.cl_Clause⟩
  have C_deciding : Cal l.prog w K mg base CX0 4 "deciding" p_deciding (spDec _) := ⟨_, _, ok_dec F_deciding T M_Clause_fits, m_deciding, F_deciding.kp, b_deciding⟩
  have C_becomes : Cal l.prog w K mg base CX0 5 "becomes" p_becomes (spBec _) := ⟨_, _, ok_bec F_becomes T C_deciding, m_becomes, F_becomes.kp, b_becomes⟩
  have C_read_state : Cal l.prog w K mg base CX0 1 "read_state" p_read_state spRS := ⟨_, _, ok_rs F_read_state T, m_read_state, F_read_state.kp, b_read_state⟩
  have C_read_wanted : Cal l.prog w K mg base CX0 2 "read_wanted" p_read_wanted spRW := ⟨_, _, ok_rw F_read_wanted T C_read_state, m_read_wanted, F_read_wanted.kp, b_read_wanted⟩
  have C_read_numbers : Cal l.prog w K mg base CX0 1 "read_numbers" p_read_numbers spRN := ⟨_, _, ok_rn F_read_numbers T, m_read_numbers, F_read_numbers.kp, b_read_numbers⟩
  have C_read_amounts : Cal l.prog w K mg base CX0 3 "read_amounts" p_read_amounts (spRAm _) := ⟨_, _, ok_ram F_read_amounts T C_read_state C_read_numbers C_Amounts, m_read_amounts, F_read_amounts.kp, b_read_amounts⟩
  have C_read_places : Cal l.prog w K mg base CX0 3 "read_places" p_read_places (spRPl _) := ⟨_, _, ok_rpl F_read_places T C_read_wanted C_Places, m_read_places, F_read_places.kp, b_read_places⟩
  have C_read_condition : Cal l.prog w K mg base CX0 4 "read_condition" p_read_condition (spRCond _) := ⟨_, _, ok_rcond F_read_condition T C_read_amounts C_read_places, m_read_condition, F_read_condition.kp, b_read_condition⟩
  have C_read_clause : Cal l.prog w K mg base CX0 5 "read_clause" p_read_clause (spRC _) := ⟨_, _, ok_rc F_read_clause T C_read_state C_read_wanted C_read_condition C_Clause, m_read_clause, F_read_clause.kp, b_read_clause⟩
  have C_clause_texts : Cal l.prog w K mg base CX0 1 "clause_texts" p_clause_texts spCT := ⟨_, _, ok_ct F_clause_texts T, m_clause_texts, F_clause_texts.kp, b_clause_texts⟩
  have C_Rule : CalC l.prog w K mg base CX0 6 "Rule" c_Rule p_Rule_init (spRI _) := ⟨_, _, ok_ri F_Rule_init T C_clause_texts C_read_clause, M_Rule, T.m_Rule, b_Rule_init⟩
  have C_shown_rule : Cal l.prog w K mg base CX0 1 "shown_rule" p_shown_rule (spSh _) := ⟨_, _, ok_sh F_shown_rule T, m_shown_rule, F_shown_rule.kp, b_shown_rule⟩
  have D_read_state := C_read_state
  have D_read_wanted := C_read_wanted
  have D_read_numbers := C_read_numbers
  have D_read_amounts := C_read_amounts
  have D_read_places := C_read_places
  have D_read_condition := C_read_condition
  have D_read_clause := C_read_clause
  have D_clause_texts := C_clause_texts
  have C_clause_texts : Cal l.prog w K mg base CX0 1 "clause_texts" p_clause_texts spCTn := ⟨_, _, ok_ctn F_clause_texts T, m_clause_texts, F_clause_texts.kp, b_clause_texts⟩
  have C_read_state : Cal l.prog w K mg base (CXE l.prog w) 1 "read_state" p_read_state (spRSb _) := ⟨_, _, ok_rsb F_read_state T, m_read_state, F_read_state.kp, b_read_state⟩
  have C_read_wanted : Cal l.prog w K mg base (CXE l.prog w) 2 "read_wanted" p_read_wanted (spRWb _) := ⟨_, _, ok_rwb F_read_wanted T D_read_state C_read_state, m_read_wanted, F_read_wanted.kp, b_read_wanted⟩
  have C_read_numbers : Cal l.prog w K mg base (CXE l.prog w) 1 "read_numbers" p_read_numbers (spRNb _) := ⟨_, _, ok_rnb F_read_numbers T, m_read_numbers, F_read_numbers.kp, b_read_numbers⟩
  have C_read_amounts : Cal l.prog w K mg base (CXE l.prog w) 3 "read_amounts" p_read_amounts (spRAb _) := ⟨_, _, ok_rab F_read_amounts T D_read_state D_read_numbers C_read_state C_read_numbers C_Amounts, m_read_amounts, F_read_amounts.kp, b_read_amounts⟩
  have C_read_places : Cal l.prog w K mg base (CXE l.prog w) 3 "read_places" p_read_places (spRPb _) := ⟨_, _, ok_rpb F_read_places T D_read_wanted C_read_wanted C_Places, m_read_places, F_read_places.kp, b_read_places⟩
  have C_read_condition : Cal l.prog w K mg base (CXE l.prog w) 4 "read_condition" p_read_condition (spRCb _) := ⟨_, _, ok_rcb F_read_condition T D_read_amounts D_read_places C_read_amounts C_read_places, m_read_condition, F_read_condition.kp, b_read_condition⟩
  have C_read_clause : Cal l.prog w K mg base (CXE l.prog w) 5 "read_clause" p_read_clause (spCb _) := ⟨_, _, ok_cb F_read_clause T D_read_state D_read_wanted D_read_condition C_read_state C_read_wanted C_read_condition C_Clause, m_read_clause, F_read_clause.kp, b_read_clause⟩
  have E_Rule : CalC l.prog w K mg base (CXE l.prog w) 6 "Rule" c_Rule p_Rule_init (spRIb _) := ⟨_, _, ok_rib F_Rule_init T D_clause_texts D_read_clause C_clause_texts C_read_clause, M_Rule, T.m_Rule, b_Rule_init⟩
  have C_read_rule : Cal l.prog w K mg base (CXE l.prog w) 8 "read_rule" p_read_rule (spRRb K _) := ⟨_, _, ok_rrb F_read_rule T C_Rule E_Rule C_becomes, m_read_rule, F_read_rule.kp, b_read_rule⟩
  have C__law_at : Cal l.prog w K mg base CX0 1 "_law_at" p__law_at (spAt K) := ⟨_, _, ok_at F__law_at T, m__law_at, F__law_at.kp, b__law_at⟩
  have C__law_mix : Cal l.prog w K mg base CX0 1 "_law_mix" p__law_mix spMix := ⟨_, _, ok_mix F__law_mix, m__law_mix, F__law_mix.kp, b__law_mix⟩
  have C__law_state_by : Cal l.prog w K mg base CX0 1 "_law_state_by" p__law_state_by spSt := ⟨_, _, ok_st F__law_state_by, m__law_state_by, F__law_state_by.kp, b__law_state_by⟩
  have C__law_condition_by : Cal l.prog w K mg base CX0 2 "_law_condition_by" p__law_condition_by spCo := ⟨_, _, ok_co F__law_condition_by T C__law_mix C__law_state_by, m__law_condition_by, F__law_condition_by.kp, b__law_condition_by⟩
  have C__law_clause_by : Cal l.prog w K mg base CX0 3 "_law_clause_by" p__law_clause_by spCl := ⟨_, _, ok_cl F__law_clause_by T C__law_mix C__law_state_by C__law_condition_by, m__law_clause_by, F__law_clause_by.kp, b__law_clause_by⟩
  have C__law_holds : Cal l.prog w K mg base CX0 1 "_law_holds" p__law_holds spHo := ⟨_, _, ok_ho F__law_holds T, m__law_holds, F__law_holds.kp, b__law_holds⟩
  have C__law_decides : Cal l.prog w K mg base CX0 2 "_law_decides" p__law_decides spDe := ⟨_, _, ok_de F__law_decides T C__law_holds, m__law_decides, F__law_decides.kp, b__law_decides⟩
  have C__law_becomes : Cal l.prog w K mg base CX0 3 "_law_becomes" p__law_becomes spBe := ⟨_, _, ok_be F__law_becomes T C__law_decides, m__law_becomes, F__law_becomes.kp, b__law_becomes⟩
  have C__law_clauses_by : Cal l.prog w K mg base CX0 4 "_law_clauses_by" p__law_clauses_by (spCs K) := ⟨_, _, ok_cs F__law_clauses_by T C__law_at C__law_clause_by C__law_becomes, m__law_clauses_by, F__law_clauses_by.kp, b__law_clauses_by⟩
  have C__law_word : Cal l.prog w K mg base CX0 1 "_law_word" p__law_word spWd := ⟨_, _, ok_wd F__law_word T, m__law_word, F__law_word.kp, b__law_word⟩
  have C__law_text : Cal l.prog w K mg base CX0 2 "_law_text" p__law_text spTx := ⟨_, _, ok_tx F__law_text T C__law_word, m__law_text, F__law_text.kp, b__law_text⟩
  have C__law_number : Cal l.prog w K mg base CX0 1 "_law_number" p__law_number spLn := ⟨_, _, ok_ln F__law_number T, m__law_number, F__law_number.kp, b__law_number⟩
  have C__law_condition_read : Cal l.prog w K mg base CX0 2 "_law_condition_read" p__law_condition_read spLc := ⟨_, _, ok_lc F__law_condition_read T C__law_number, m__law_condition_read, F__law_condition_read.kp, b__law_condition_read⟩
  have C__law_clauses_read : Cal l.prog w K mg base CX0 3 "_law_clauses_read" p__law_clauses_read spLs := ⟨_, _, ok_ls F__law_clauses_read T C__law_number C__law_condition_read, m__law_clauses_read, F__law_clauses_read.kp, b__law_clauses_read⟩
  have C__law_sign_by : Cal l.prog w K mg base CX0 1 "_law_sign_by" p__law_sign_by spSg := ⟨_, _, ok_sg F__law_sign_by T, m__law_sign_by, F__law_sign_by.kp, b__law_sign_by⟩
  have C__law_odd : Cal l.prog w K mg base CX0 1 "_law_odd" p__law_odd spOd := ⟨_, _, ok_od F__law_odd T, m__law_odd, F__law_odd.kp, b__law_odd⟩
  have C__law_ahead : Cal l.prog w K mg base CX0 1 "_law_ahead" p__law_ahead spOd := ⟨_, _, ok_ah F__law_ahead T, m__law_ahead, F__law_ahead.kp, b__law_ahead⟩
  have C__law_spoiled : Cal l.prog w K mg base CX0 2 "_law_spoiled" p__law_spoiled spSp := ⟨_, _, ok_sp F__law_spoiled T C__law_sign_by C__law_odd C__law_ahead, m__law_spoiled, F__law_spoiled.kp, b__law_spoiled⟩
  have H__law_others : CalH l.prog w K mg base 1 "_law_others" p__law_others (spOt K _) := ⟨_, _, ok_ot F__law_others T, m__law_others, F__law_others.kp, b__law_others⟩
  have H__law_alone : CalH l.prog w K mg base 2 "_law_alone" p__law_alone (spAl K _) := ⟨_, _, ok_al F__law_alone T H__law_others, m__law_alone, F__law_alone.kp, b__law_alone⟩
  have C__law_said : Cal l.prog w K mg base CX0 9 "_law_said" p__law_said (spSd K _) := ⟨_, _, ok_sd F__law_said T C_read_rule C_shown_rule H__law_alone, m__law_said, F__law_said.kp, b__law_said⟩
  have C__law_due : Cal l.prog w K mg base CX0 4 "_law_due" p__law_due spDu := ⟨_, _, ok_du F__law_due T C__law_clauses_read C__law_becomes, m__law_due, F__law_due.kp, b__law_due⟩
  have C__law_right : Cal l.prog w K mg base CX0 10 "_law_right" p__law_right (spRt K) := ⟨_, _, ok_rt F__law_right T C__law_at C__law_clauses_by C__law_text C__law_spoiled C__law_said C__law_due, m__law_right, F__law_right.kp, b__law_right⟩
  exact ok_law F_law T C__law_right
theorem walk {l : PySem.W.OpenLaw} {q : Program} {loose : List Str} {XP : (Str → Option Value) → Heap → Prop} {YP : World → Heap → Prop} {d : DefRec} {K : Params → PySem.W.Frag} (hn : l.most = some 63) (hdf : d.params.defaults = [])
    (hY : ∀ (w : World) (h : Heap), YP w h → (K w.params).In h)
    (F : ∀ (w : World) (mg : Str → Option Value) (fa : Addr) (h : Heap), (K w.params).In h → h.Ns mainGlobals mg → mg d.name = some (.ref fa) →
      ∃ fd : FuncData, (∀ (s : Shared) (u : Value), BindsTo s fd ⟨[u], []⟩ [("_law_script", u)]) ∧ ∀ base : Heap, (K w.params).In base → base.Ns mainGlobals mg → FnOk l.prog w (K w.params) mg base CX0 11 fa fd ["_law_script"] (spLaw (K w.params))) :
    PySem.W.WalkO q loose XP YP l.row.toRowW d [] (fun f vs => PySem.call f vs) :=
  L2.walk_of (n := 63) (k := 11) (x := "_law_script") (CX := fun _ => CX0) (sp := fun w => spLaw (K w.params)) hn (by decide) hdf ⟨rfl, by decide, by decide⟩ hY F (fun _ _ a ns hl _ hS => ⟨a, ns, rfl, hS, hl, fun _ => rfl⟩) fun _ _ _ _ _ z => z
end J
theorem PySem.W.Fast.tw3729275866096035491 : True := True.intro
theorem PySem.W.Fast.tw9588709316222670582 : True := True.intro
theorem PySem.W.Fast.tw12048452866404093819 : True := True.intro
theorem PySem.W.Fast.tw14793107736190230116 : True := True.intro
theorem PySem.W.Fast.tw15145540244444721036 : True := True.intro
theorem PySem.W.Fast.tw15928888023895286491 : True := True.intro
theorem PySem.W.Fast.tw278695941796074794 : True := True.intro
theorem PySem.W.Fast.tw15914184147191840486 : True := True.intro
theorem PySem.W.Fast.tw3940008397609836363 : True := True.intro
theorem PySem.W.Fast.tw11234019189819418622 : True := True.intro
theorem PySem.W.Fast.tw17621851227100240243 : True := True.intro
theorem PySem.W.Fast.tw15298274254316590738 : True := True.intro
theorem PySem.W.Fast.tw13757661761318501813 : True := True.intro
theorem PySem.W.Fast.tw757455149566210753 : True := True.intro
theorem PySem.W.Fast.tw5627921931683100900 : True := True.intro
theorem PySem.W.Fast.tw9812971367006723430 : True := True.intro
theorem PySem.W.Fast.tw4848776684632365388 : True := True.intro
theorem PySem.W.Fast.tw5202742316561765244 : True := True.intro
theorem PySem.W.Fast.tw9842497385512978959 : True := True.intro
theorem PySem.W.Fast.tw6312741289702590056 : True := True.intro
theorem PySem.W.Fast.tw3782205615324028293 : True := True.intro
theorem PySem.W.Fast.tw13918356783760807500 : True := True.intro
theorem PySem.W.Fast.tw1068771080825904651 : True := True.intro
theorem PySem.W.Fast.tw11680602562983012340 : True := True.intro
theorem PySem.W.Fast.tw2495918277944585048 : True := True.intro
theorem PySem.W.Fast.tw13345149174368521135 : True := True.intro
theorem PySem.W.Fast.tw15527513448051195867 : True := True.intro
theorem PySem.W.Fast.tw7964648105830794504 : True := True.intro
theorem PySem.W.Fast.tw9001372306558496061 : True := True.intro
theorem PySem.W.Fast.tw14860208811196248010 : True := True.intro
theorem PySem.W.Fast.tw6532674513153496117 : True := True.intro
theorem PySem.W.Fast.tw16480697051217213712 : True := True.intro
theorem PySem.W.Fast.tw947237595102316415 : True := True.intro
theorem PySem.W.Fast.tw8946825887418744429 : True := True.intro
theorem PySem.W.Fast.tw5617160452734177474 : True := True.intro
theorem PySem.W.Fast.tw13183372159603030976 : True := True.intro
theorem PySem.W.Fast.tw11001716607758043119 : True := True.intro
theorem PySem.W.Fast.tw13141222180471482536 : True := True.intro
theorem PySem.W.Fast.tw18181351394625886249 : True := True.intro
theorem PySem.W.Fast.tw18038844892166950785 : True := True.intro
theorem PySem.W.Fast.tw17036186532826553130 : True := True.intro
theorem PySem.W.Fast.tw2668721163945633027 : True := True.intro
theorem PySem.W.Fast.tw2969117878206840958 : True := True.intro
theorem PySem.W.Fast.tw8030740767132868827 : True := True.intro
theorem PySem.W.Fast.tw2059730682578743144 : True := True.intro
theorem PySem.W.Fast.tw11673878736603810796 : True := True.intro
theorem PySem.W.Fast.tw10559270052904327097 : True := True.intro
theorem PySem.W.Fast.tw6954832213610055072 : True := True.intro
theorem PySem.W.Fast.tw8611537022555314219 : True := True.intro
theorem PySem.W.Fast.tw3659481989460016996 : True := True.intro
theorem PySem.W.Fast.tw15729008092999592357 : True := True.intro
theorem PySem.W.Fast.tw4174638779874813001 : True := True.intro
theorem PySem.W.Fast.tw12608692325841371100 : True := True.intro
theorem PySem.W.Fast.tw17349236802528613494 : True := True.intro
theorem PySem.W.Fast.tw16498884097617738783 : True := True.intro
theorem PySem.W.Fast.tw8894623349446482150 : True := True.intro
theorem PySem.W.Fast.tw16418948770176933793 : True := True.intro
theorem PySem.W.Fast.tw17845447375340207134 : True := True.intro
theorem PySem.W.Fast.tw14197558623375860189 : True := True.intro
theorem PySem.W.Fast.tw7361784057232821485 : True := True.intro
theorem PySem.W.Fast.tw16919217704785728018 : True := True.intro
theorem PySem.W.Fast.tw461021673818703932 : True := True.intro
theorem PySem.W.Fast.tw10037927104607617838 : True := True.intro
theorem PySem.W.Fast.tw2185039928197824951 : True := True.intro
theorem PySem.W.Fast.tw7526985688725173667 : True := True.intro
theorem PySem.W.Fast.tw16485555999089641238 : True := True.intro
theorem PySem.W.Fast.tw2140212604936608489 : True := True.intro
theorem PySem.W.Fast.tw16244068985285647574 : True := True.intro
theorem PySem.W.Fast.tw13076187758217086830 : True := True.intro
theorem PySem.W.Fast.tw1519741778702147518 : True := True.intro
theorem PySem.W.Fast.tw12593328623705028307 : True := True.intro
theorem PySem.W.Fast.tw5974897096509541007 : True := True.intro
theorem PySem.W.Fast.tw18304037846168458596 : True := True.intro
theorem PySem.W.Fast.tw18113743629381124646 : True := True.intro
theorem PySem.W.Fast.tw2751732268303626429 : True := True.intro
theorem PySem.W.Fast.tw8545578627931333322 : True := True.intro
theorem PySem.W.Fast.tw17328242475378534393 : True := True.intro
theorem PySem.W.Fast.tw4501090486044428613 : True := True.intro
theorem PySem.W.Fast.tw5854611726553584870 : True := True.intro
theorem PySem.W.Fast.tw17814846134404828932 : True := True.intro
theorem PySem.W.Fast.tw1676483622497355653 : True := True.intro
theorem PySem.W.Fast.tw1616649454501987522 : True := True.intro
theorem PySem.W.Fast.tw369573577013908425 : True := True.intro
theorem PySem.W.Fast.tw5216140301289639090 : True := True.intro
theorem PySem.W.Fast.tw1178779278579485587 : True := True.intro
theorem PySem.W.Fast.tw17073898059488647787 : True := True.intro
open PySem PySem.W PyProof.Rows
set_option maxRecDepth 100000 in
set_option maxHeartbeats 0 in
theorem PySem.Challenge.cw_jumpfield_k06_no_rule_holds : PySem.Challenge.rw_jumpfield_k06_no_rule.Holds := by
  w_on; o_law; k_head; (case hw => w_witness2)
  k_fill
  refine J.walk (l := PySem.Challenge.rw_jumpfield_k06_no_rule) rfl rfl (fun w h Y => PySem.W.kIn_of Y) ?F
  case F =>
    intro w mg fa h KX G hmg
    refine' J.fin KX G hmg ?n_c_Amounts ?pg_Amounts ?hd_Amounts ?po_Amounts ?sa_Amounts ?mk_Amounts ?kc_Amounts ?na_Amounts_state ?na_Amounts_numbers ?n_c_Places ?pg_Places ?hd_Places ?po_Places ?sa_Places ?mk_Places ?kc_Places ?na_Places_wanted ?n_c_Clause ?pg_Clause ?hd_Clause ?po_Clause ?sa_Clause ?mk_Clause ?kc_Clause ?na_Clause_cell ?na_Clause_conditions ?na_Clause_makes ?n_c_Rule ?pg_Rule ?hd_Rule ?po_Rule ?sa_Rule ?mk_Rule ?kc_Rule ?na_Rule_text ?na_Rule_clauses ?a0 ?l0 ?c0 ?k0 ?a1 ?l1 ?c1 ?k1 ?a2 ?l2 ?c2 ?k2 ?a3 ?l3 ?c3 ?k3 ?a4 ?l4 ?c4 ?k4 ?a5 ?l5 ?c5 ?k5 ?a6 ?l6 ?c6 ?k6 ?a7 ?l7 ?c7 ?k7 ?a8 ?l8 ?c8 ?k8 ?a9 ?l9 ?c9 ?k9 ?a10 ?l10 ?c10 ?k10 ?a11 ?l11 ?c11 ?k11 ?a12 ?l12 ?c12 ?k12 ?a13 ?l13 ?c13 ?k13 ?a14 ?l14 ?c14 ?k14 ?a15 ?l15 ?c15 ?k15 ?a16 ?l16 ?c16 ?k16 ?a17 ?l17 ?c17 ?k17 ?a18 ?l18 ?c18 ?k18 ?a19 ?l19 ?c19 ?k19 ?a20 ?l20 ?c20 ?k20 ?a21 ?l21 ?c21 ?k21 ?a22 ?l22 ?c22 ?k22 ?a23 ?l23 ?c23 ?k23 ?a24 ?l24 ?c24 ?k24 ?a25 ?l25 ?c25 ?k25 ?a26 ?l26 ?c26 ?k26 ?a27 ?l27 ?c27 ?k27 ?a28 ?l28 ?c28 ?k28 ?a29 ?l29 ?c29 ?k29 ?a30 ?l30 ?c30 ?k30 ?a31 ?l31 ?c31 ?k31 ?a32 ?l32 ?c32 ?k32 ?a33 ?l33 ?c33 ?k33 ?a34 ?l34 ?c34 ?k34 ?a35 ?l35 ?c35 ?k35 ?a36 ?l36 ?c36 ?k36 ?a37 ?i37 ?l37 ?c37 ?k37 ?a38 ?i38 ?l38 ?c38 ?k38 ?a39 ?i39 ?l39 ?c39 ?k39 ?a40 ?i40 ?l40 ?c40 ?k40 ?a41 ?i41 ?l41 ?c41 ?k41 ?a42 ?i42 ?l42 ?c42 ?k42 ?a43 ?i43 ?l43 ?c43 ?k43 ?z_all ?z_enumerate ?z_int ?z_isinstance ?z_len ?z_max ?z_min ?z_range ?z_str ?z_tuple ?z_zip ?g_NEIGHBOURS ?g_STATE_FIGURES ?gx_STATE_FIGURES ?g_AMOUNT_FIGURES ?gx_AMOUNT_FIGURES ?g_ANY_SIGN ?gx_ANY_SIGN ?g_CLAUSE_MARK ?gx_CLAUSE_MARK ?z_ValueError ?nx_FieldError ?nx_NoNumber ?nx_NoRule ?nx_Restless ?nx_NoSquare ?nx_NoLevel ?nx_NoState ?nx_NoBox ?nx_TooFar ?nx_TooMany ?nx_NoSteps ?nx_NoPattern ?nx_NoName ?nx_NoRow ?ec_NoRule ?ec_Restless ?ec_FieldError ?xf_NoRule_0 ?xf_NoRule_1 ?xf_NoRule_2 ?xf_NoRule_3 ?xf_4 ?xf_5 ?xf_NoRule_6 ?xf_NoRule_7 ?mr_NoRule ?kv_NoRule ?ki_NoRule_NoNumber ?ki_NoRule_NoRule ?ki_NoRule_Restless ?ki_NoRule_NoSquare ?ki_NoRule_NoLevel ?ki_NoRule_NoState ?ki_NoRule_NoBox ?ki_NoRule_TooFar ?ki_NoRule_TooMany ?ki_NoRule_NoSteps ?ki_NoRule_NoPattern ?ki_NoRule_NoName ?ki_NoRule_NoRow ?kf_NoRule ?mm_NoRule_NoRule ?mm_NoRule_Restless ?xf_Restless_0 ?xf_Restless_1 ?xf_Restless_2 ?xf_Restless_3 ?xf_Restless_6 ?xf_Restless_7 ?mr_Restless ?kv_Restless ?ki_Restless_NoNumber ?ki_Restless_NoRule ?ki_Restless_Restless ?ki_Restless_NoSquare ?ki_Restless_NoLevel ?ki_Restless_NoState ?ki_Restless_NoBox ?ki_Restless_TooFar ?ki_Restless_TooMany ?ki_Restless_NoSteps ?ki_Restless_NoPattern ?ki_Restless_NoName ?ki_Restless_NoRow ?kf_Restless ?mm_Restless_NoRule ?mm_Restless_Restless
    (case n_c_Amounts => k_is)
    (case pg_Amounts => k_is)
    (case hd_Amounts => k_is)
    (case po_Amounts => k_is)
    (case sa_Amounts => k_is)
    (case mk_Amounts => k_is)
    (case kc_Amounts => k_is)
    (case na_Amounts_state => k_is)
    (case na_Amounts_numbers => k_is)
    (case n_c_Places => k_is)
    (case pg_Places => k_is)
    (case hd_Places => k_is)
    (case po_Places => k_is)
    (case sa_Places => k_is)
    (case mk_Places => k_is)
    (case kc_Places => k_is)
    (case na_Places_wanted => k_is)
    (case n_c_Clause => k_is)
    (case pg_Clause => k_is)
    (case hd_Clause => k_is)
    (case po_Clause => k_is)
    (case sa_Clause => k_is)
    (case mk_Clause => k_is)
    (case kc_Clause => k_is)
    (case na_Clause_cell => k_is)
    (case na_Clause_conditions => k_is)
    (case na_Clause_makes => k_is)
    (case n_c_Rule => k_is)
    (case pg_Rule => k_is)
    (case hd_Rule => k_is)
    (case po_Rule => k_is)
    (case sa_Rule => k_is)
    (case mk_Rule => k_is)
    (case kc_Rule => k_is)
    (case na_Rule_text => k_is)
    (case na_Rule_clauses => k_is)
    (case a0 => k_is)
    (case l0 => k_is)
    (case c0 => k_is)
    (case k0 => k_is)
    (case a1 => k_is)
    (case l1 => k_is)
    (case c1 => k_is)
    (case k1 => k_is)
    (case a2 => k_is)
    (case l2 => k_is)
    (case c2 => k_is)
    (case k2 => k_is)
    (case a3 => k_is)
    (case l3 => k_is)
    (case c3 => k_is)
    (case k3 => k_is)
    (case a4 => k_is)
    (case l4 => k_is)
    (case c4 => k_is)
    (case k4 => k_is)
    (case a5 => k_is)
    (case l5 => k_is)
    (case c5 => k_is)
    (case k5 => k_is)
    (case a6 => k_is)
    (case l6 => k_is)
    (case c6 => k_is)
    (case k6 => k_is)
    (case a7 => k_is)
    (case l7 => k_is)
    (case c7 => k_is)
    (case k7 => k_is)
    (case a8 => k_is)
    (case l8 => k_is)
    (case c8 => k_is)
    (case k8 => k_is)
    (case a9 => k_is)
    (case l9 => k_is)
    (case c9 => k_is)
    (case k9 => k_is)
    (case a10 => k_is)
    (case l10 => k_is)
    (case c10 => k_is)
    (case k10 => k_is)
    (case a11 => k_is)
    (case l11 => k_is)
    (case c11 => k_is)
    (case k11 => k_is)
    (case a12 => k_is)
    (case l12 => k_is)
    (case c12 => k_is)
    (case k12 => k_is)
    (case a13 => k_is)
    (case l13 => k_is)
    (case c13 => k_is)
    (case k13 => k_is)
    (case a14 => k_is)
    (case l14 => k_is)
    (case c14 => k_is)
    (case k14 => k_is)
    (case a15 => k_is)
    (case l15 => k_is)
    (case c15 => k_is)
    (case k15 => k_is)
    (case a16 => k_is)
    (case l16 => k_is)
    (case c16 => k_is)
    (case k16 => k_is)
    (case a17 => k_is)
    (case l17 => k_is)
    (case c17 => k_is)
    (case k17 => k_is)
    (case a18 => k_is)
    (case l18 => k_is)
    (case c18 => k_is)
    (case k18 => k_is)
    (case a19 => k_is)
    (case l19 => k_is)
    (case c19 => k_is)
    (case k19 => k_is)
    (case a20 => k_is)
    (case l20 => k_is)
    (case c20 => k_is)
    (case k20 => k_is)
    (case a21 => k_is)
    (case l21 => k_is)
    (case c21 => k_is)
    (case k21 => k_is)
    (case a22 => k_is)
    (case l22 => k_is)
    (case c22 => k_is)
    (case k22 => k_is)
    (case a23 => k_is)
    (case l23 => k_is)
    (case c23 => k_is)
    (case k23 => k_is)
    (case a24 => k_is)
    (case l24 => k_is)
    (case c24 => k_is)
    (case k24 => k_is)
    (case a25 => k_is)
    (case l25 => k_is)
    (case c25 => k_is)
    (case k25 => k_is)
    (case a26 => k_is)
    (case l26 => k_is)
    (case c26 => k_is)
    (case k26 => k_is)
    (case a27 => k_is)
    (case l27 => k_is)
    (case c27 => k_is)
    (case k27 => k_is)
    (case a28 => k_is)
    (case l28 => k_is)
    (case c28 => k_is)
    (case k28 => k_is)
    (case a29 => k_is)
    (case l29 => k_is)
    (case c29 => k_is)
    (case k29 => k_is)
    (case a30 => k_is)
    (case l30 => k_is)
    (case c30 => k_is)
    (case k30 => k_is)
    (case a31 => k_is)
    (case l31 => k_is)
    (case c31 => k_is)
    (case k31 => k_is)
    (case a32 => k_is)
    (case l32 => k_is)
    (case c32 => k_is)
    (case k32 => k_is)
    (case a33 => k_is)
    (case l33 => k_is)
    (case c33 => k_is)
    (case k33 => k_is)
    (case a34 => k_is)
    (case l34 => k_is)
    (case c34 => k_is)
    (case k34 => k_is)
    (case a35 => k_is)
    (case l35 => k_is)
    (case c35 => k_is)
    (case k35 => k_is)
    (case a36 => k_is)
    (case l36 => k_is)
    (case c36 => k_is)
    (case k36 => k_is)
    (case a37 => k_is)
    (case i37 => k_is)
    (case l37 => k_is)
    (case c37 => k_is)
    (case k37 => k_is)
    (case a38 => k_is)
    (case i38 => k_is)
    (case l38 => k_is)
    (case c38 => k_is)
    (case k38 => k_is)
    (case a39 => k_is)
    (case i39 => k_is)
    (case l39 => k_is)
    (case c39 => k_is)
    (case k39 => k_is)
    (case a40 => k_is)
    (case i40 => k_is)
    (case l40 => k_is)
    (case c40 => k_is)
    (case k40 => k_is)
    (case a41 => k_is)
    (case i41 => k_is)
    (case l41 => k_is)
    (case c41 => k_is)
    (case k41 => k_is)
    (case a42 => k_is)
    (case i42 => k_is)
    (case l42 => k_is)
    (case c42 => k_is)
    (case k42 => k_is)
    (case a43 => k_is)
    (case i43 => k_is)
    (case l43 => k_is)
    (case c43 => k_is)
    (case k43 => k_is)
    (case z_all => k_is)
    (case z_enumerate => k_is)
    (case z_int => k_is)
    (case z_isinstance => k_is)
    (case z_len => k_is)
    (case z_max => k_is)
    (case z_min => k_is)
    (case z_range => k_is)
    (case z_str => k_is)
    (case z_tuple => k_is)
    (case z_zip => k_is)
    (case g_NEIGHBOURS => k_is)
    (case g_STATE_FIGURES => k_is)
    (case gx_STATE_FIGURES => decide +kernel)
    (case g_AMOUNT_FIGURES => k_is)
    (case gx_AMOUNT_FIGURES => decide +kernel)
    (case g_ANY_SIGN => k_is)
    (case gx_ANY_SIGN => decide +kernel)
    (case g_CLAUSE_MARK => k_is)
    (case gx_CLAUSE_MARK => decide +kernel)
    (case z_ValueError => k_is)
    (case nx_FieldError => k_is)
    (case nx_NoNumber => k_is)
    (case nx_NoRule => k_is)
    (case nx_Restless => k_is)
    (case nx_NoSquare => k_is)
    (case nx_NoLevel => k_is)
    (case nx_NoState => k_is)
    (case nx_NoBox => k_is)
    (case nx_TooFar => k_is)
    (case nx_TooMany => k_is)
    (case nx_NoSteps => k_is)
    (case nx_NoPattern => k_is)
    (case nx_NoName => k_is)
    (case nx_NoRow => k_is)
    (case ec_NoRule => (show PySem.W.excIn _ _ _ _ = true; k_exc))
    (case ec_Restless => (show PySem.W.excIn _ _ _ _ = true; k_exc))
    (case ec_FieldError => (show PySem.W.excIn _ _ _ _ = true; k_exc))
    (case xf_NoRule_0 => k_is)
    (case xf_NoRule_1 => k_is)
    (case xf_NoRule_2 => k_is)
    (case xf_NoRule_3 => k_is)
    (case xf_4 => k_is)
    (case xf_5 => k_is)
    (case xf_NoRule_6 => k_is)
    (case xf_NoRule_7 => k_is)
    (case mr_NoRule => k_is)
    (case kv_NoRule => kit_is)
    (case ki_NoRule_NoNumber => kit_is)
    (case ki_NoRule_NoRule => kit_is)
    (case ki_NoRule_Restless => kit_is)
    (case ki_NoRule_NoSquare => kit_is)
    (case ki_NoRule_NoLevel => kit_is)
    (case ki_NoRule_NoState => kit_is)
    (case ki_NoRule_NoBox => kit_is)
    (case ki_NoRule_TooFar => kit_is)
    (case ki_NoRule_TooMany => kit_is)
    (case ki_NoRule_NoSteps => kit_is)
    (case ki_NoRule_NoPattern => kit_is)
    (case ki_NoRule_NoName => kit_is)
    (case ki_NoRule_NoRow => kit_is)
    (case kf_NoRule => kit_is)
    (case mm_NoRule_NoRule => k_is)
    (case mm_NoRule_Restless => k_is)
    (case xf_Restless_0 => k_is)
    (case xf_Restless_1 => k_is)
    (case xf_Restless_2 => k_is)
    (case xf_Restless_3 => k_is)
    (case xf_Restless_6 => k_is)
    (case xf_Restless_7 => k_is)
    (case mr_Restless => k_is)
    (case kv_Restless => kit_is)
    (case ki_Restless_NoNumber => kit_is)
    (case ki_Restless_NoRule => kit_is)
    (case ki_Restless_Restless => kit_is)
    (case ki_Restless_NoSquare => kit_is)
    (case ki_Restless_NoLevel => kit_is)
    (case ki_Restless_NoState => kit_is)
    (case ki_Restless_NoBox => kit_is)
    (case ki_Restless_TooFar => kit_is)
    (case ki_Restless_TooMany => kit_is)
    (case ki_Restless_NoSteps => kit_is)
    (case ki_Restless_NoPattern => kit_is)
    (case ki_Restless_NoName => kit_is)
    (case ki_Restless_NoRow => kit_is)
    (case kf_Restless => kit_is)
    (case mm_Restless_NoRule => k_is)
    (case mm_Restless_Restless => k_is)

set_option maxHeartbeats 200000
