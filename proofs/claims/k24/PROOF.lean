import PyProof.Rows.All
import Wide.All
import OpenK.AllK
import Wide.FinOn
import Lean
import PyProof.EqAt
import PyProof.EqKinds
import PyProof.TupleCall
import PyProof.Rows.CatFin
import PyProof.StrLawsIn
import KE.IntTextLaws
import KE.IntTextText
import PyProof.SumAny
import PyProof.SeqI3
import PyProof.WalkInts
import PyProof.NeKinds
import KE.KDictLaws
import PyProof.DictIter
import PyProof.DictWalks
import PyProof.Rows.DictUnroll
import KE.KSortTup
import KE.KDictSum
import KE.KSortKey
import PyProof.Rows.SortRuns
import PySem.Challenge.RW_jumpfield_k24_cells_told
set_option Elab.async false
set_option linter.all false
set_option maxRecDepth 100000
set_option maxHeartbeats 8000000
namespace L2
open PySem PySem.Spec PyProof.Rows

abbrev Key := Sum Int Str
def keyIs : Key → Value → Bool
  | .inl k, v => Value.isInt k v
  | .inr x, v => Value.isStrOf x v
def keyH (w : World) : Key → Int
  | .inl k => hashInt k
  | .inr x => hashStr w x
theorem keyIs_shape : ∀ {k : Key} {v : Value}, keyIs k v = true → (∃ i t, k = Sum.inl i ∧ v = Value.int i t) ∨ (∃ x t, k = Sum.inr x ∧ v = Value.str x t)
  | .inl i, v, h => by
    obtain ⟨t, e⟩ := Value.isInt_shape (k := i) (v := v) h
    exact .inl ⟨i, t, rfl, e⟩
  | .inr x, v, h => by
    obtain ⟨t, e⟩ := Value.isStrOf_shape (x := x) (v := v) h
    exact .inr ⟨x, t, rfl, e⟩
theorem keyIs_int (i : Int) (t : Tok) : keyIs (.inl i) (.int i t) = true := by simp [keyIs, Value.isInt]
theorem keyIs_str (x : Str) (t : Tok) : keyIs (.inr x) (.str x t) = true := by simp [keyIs, Value.isStrOf]
theorem key_ll (a b : Int) : decide ((Sum.inl a : Key) = Sum.inl b) = (a == b) := by
  by_cases e : a = b
  · subst e; simp
  · have h : ¬ (Sum.inl a : Key) = Sum.inl b := fun q => e (Sum.inl.inj q)
    rw [decide_eq_false h]
    exact (beq_eq_false_iff_ne.mpr e).symm
theorem key_rr (a b : Str) : decide ((Sum.inr a : Key) = Sum.inr b) = decide (a = b) := by
  by_cases e : a = b
  · subst e; simp
  · have h : ¬ (Sum.inr a : Key) = Sum.inr b := fun q => e (Sum.inr.inj q)
    rw [decide_eq_false h, decide_eq_false e]
theorem key_lr (a : Int) (b : Str) : decide ((Sum.inl a : Key) = Sum.inr b) = false := decide_eq_false (fun q => nomatch q)
theorem key_rl (a : Str) (b : Int) : decide ((Sum.inr a : Key) = Sum.inl b) = false := decide_eq_false (fun q => nomatch q)

def mixKind (prog : Program) (w : World) : PySem.KeyKind prog w Key where
  is := keyIs
  hash := keyH w
  inj := fun v a b ha hb => by
    rcases keyIs_shape ha with ⟨i, t, rfl, rfl⟩ | ⟨x, t, rfl, rfl⟩
    · rcases keyIs_shape hb with ⟨j, u, rfl, e⟩ | ⟨y, u, rfl, e⟩
      · injection e with e1 _; rw [e1]
      · exact nomatch e
    · rcases keyIs_shape hb with ⟨j, u, rfl, e⟩ | ⟨y, u, rfl, e⟩
      · exact nomatch e
      · injection e with e1 _; rw [e1]
  byValue := fun k v h => by
    rcases keyIs_shape h with ⟨i, t, rfl, rfl⟩ | ⟨x, t, rfl, rfl⟩ <;> rfl
  pyHash := fun hv h => by
    rcases keyIs_shape hv with ⟨i, t, rfl, rfl⟩ | ⟨x, t, rfl, rfl⟩
    · exact wpAny_pyHash_int h
    · exact wpAny_pyHash_str h
  eqBool := fun hu hv h => by
    rcases keyIs_shape hu with ⟨i, t, rfl, rfl⟩ | ⟨x, t, rfl, rfl⟩
    · rcases keyIs_shape hv with ⟨j, u, rfl, rfl⟩ | ⟨y, u, rfl, rfl⟩
      · rw [key_ll] at h; exact wpAny_eqBool_int h
      · rw [key_lr] at h; exact SeqAt.EqAt.int_str i t y u _ _ _ _ h
    · rcases keyIs_shape hv with ⟨j, u, rfl, rfl⟩ | ⟨y, u, rfl, rfl⟩
      · rw [key_rl] at h; exact SeqAt.EqAt.str_int x t j u _ _ _ _ h
      · rw [key_rr] at h; exact wpAny_eqBool_str h
  «strs» := fun k x t v h => by
    rcases keyIs_shape h with ⟨i, u, rfl, e⟩ | ⟨y, u, rfl, e⟩
    · exact nomatch e
    · injection e with e1 _
      subst e1
      cases v <;> rfl

theorem mixKind_int (prog : Program) (w : World) (i : Int) (t : Tok) : (mixKind prog w).is (.inl i) (.int i t) = true := keyIs_int i t
theorem mixKind_str (prog : Program) (w : World) (x : Str) (t : Tok) : (mixKind prog w).is (.inr x) (.str x t) = true := keyIs_str x t
end L2

namespace L2
open PySem PySem.Spec PyProof.Rows

inductive V where
  | non | bl (b : Bool) | int (i : Int) | str (x : Str) | byt (b : Array UInt8) | flt (b : UInt64) | ref (a : Addr) | ty (n : String)
  deriving DecidableEq

def RelV : V → Value → Prop
  | .non, u => u = Value.none
  | .bl b, u => u = Value.bool b
  | .int i, u => ∃ t, u = Value.int i t
  | .str x, u => ∃ t, u = Value.str x t
  | .byt b, u => ∃ t, u = Value.bytes b t
  | .flt b, u => ∃ t, u = Value.float b t
  | .ref a, u => u = Value.ref a
  | .ty n, u => u = Value.type n

abbrev Vals : List V → List Value → Prop := Paired RelV
theorem Vals.length {xs : List V} {us : List Value} (r : Vals xs us) : xs.length = us.length := Paired.length r
theorem Vals.get : ∀ {xs : List V} {us : List Value} {i : Nat} {x : V}, Vals xs us → xs[i]? = some x → ∃ u, us[i]? = some u ∧ RelV x u
  | _, _, _, _, .nil, e => by simp at e
  | _, _, 0, _, .cons r _, e => by simp at e; subst e; exact ⟨_, rfl, r⟩
  | _, _, i + 1, x, .cons _ t, e => by
    obtain ⟨u, h1, h2⟩ := Vals.get (i := i) (x := x) t (by simpa using e)
    exact ⟨u, by simpa using h1, h2⟩
theorem Vals.set {x : V} {u : Value} (r : RelV x u) : ∀ {xs : List V} {us : List Value} (i : Nat), Vals xs us → Vals (xs.set i x) (us.set i u)
  | _, _, _, .nil => .nil
  | _, _, 0, .cons _ t => .cons r t
  | _, _, i + 1, .cons q t => .cons q (Vals.set r i t)
theorem Vals.append : ∀ {xs ys : List V} {us ws : List Value}, Vals xs us → Vals ys ws → Vals (xs ++ ys) (us ++ ws)
  | _, _, _, _, .nil, s => s
  | _, _, _, _, .cons r t, s => .cons r (Vals.append t s)
theorem Vals.none_of : ∀ {xs : List V} {us : List Value} {i : Nat}, Vals xs us → xs[i]? = none → us[i]? = none := fun {xs us i} r e => by
  have h1 := r.length
  have h2 : xs.length ≤ i := List.getElem?_eq_none_iff.mp e
  exact List.getElem?_eq_none_iff.mpr (by lia)

def RelO : Option V → Option Value → Prop
  | some v, some u => RelV v u
  | none, none => True
  | _, _ => False
def KV {κ : Type} : List (κ × V) → List (κ × Value) → Prop := Paired fun (p : κ × V) (q : κ × Value) => p.1 = q.1 ∧ RelV p.2 q.2

def kV : Key → V
  | .inl i => .int i
  | .inr x => .str x

inductive HO where
  /-- a list -/
  | lst (xs : List V)
  /-- a tuple (never changes) -/
  | tup (xs : List V)
  /-- a dict whose keys are ints and texts; one whose keys are tuples of ints and texts (the empty one is both) -/
  | dK (kvs : List (Key × V)) | dT (kvs : List (List Key × V))
  /-- a set of ints: its members, its size -/
  | set (S : Int → Bool) (n : Nat)
  /-- an instance of the class at C, its dict at dx, its attributes -/
  | ins (C dx : Addr) (fs : List (Str × V))
  /-- the dict of the instance at x -/
  | own (x : Addr)
  /-- the dict of an exception -/
  | xd (fs : List (Str × V))
  /-- a bound method, f of x -/
  | met (f x : Addr)
  /-- a range object lo, lo + 1, .. below hi -/
  | rng (lo hi : Int)
  /-- a thing that is known to the object (the script; a dict while a loop walks it): read, never written while it is so -/
  | frz (o : Obj) (u : HO)
  /-- a code object's table -/
  | tbl (ps : Array Value)
  /-- any other thing, by what is true of its one object (a def of one's own: SetO a S n := HO.ext fun h => ..) -/
  | ext (φ : Heap → Prop)

abbrev Hp := Addr → Option HO
def upd (H : Hp) (a : Addr) (o : HO) : Hp := fun b => if b = a then some o else H b
theorem upd_same {H : Hp} {a : Addr} {o : HO} : upd H a o a = some o := by unfold upd; rw [if_pos rfl]
theorem upd_ne {H : Hp} {a b : Addr} {o : HO} (h : b ≠ a) : upd H a o b = H b := by unfold upd; rw [if_neg h]
theorem ne_of {H : Hp} {a b : Addr} {o u : HO} (h : H a = some o) (h' : H b = some u) (d : o ≠ u) : a ≠ b := by
  intro e; subst e; rw [h] at h'; exact d (Option.some.inj h')
theorem ne_of_none {H : Hp} {a b : Addr} {o : HO} (h : H a = some o) (h' : H b = none) : a ≠ b := by
  intro e; subst e; rw [h] at h'; cases h'

section
variable (P : Program) (w : World)
def ObjOk (H : Hp) (h : Heap) (a : Addr) : HO → Prop
  | .lst xs => xs.length ≤ sizeLine ∧ ∃ (its : List Value) (n : Nat), Vals xs its ∧ h.get? a = some { cls := .type "list", data := .seq its.toArray n }
  | .tup xs => xs.length ≤ sizeLine ∧ ∃ its : List Value, Vals xs its ∧ IsTup h a its.toArray
  | .dK kvs => kvs.length ≤ sizeLine ∧ (a == sysModules) = false ∧ ∃ vs, KV kvs vs ∧ h.DictOf (mixKind P w) a vs
  | .dT kvs => kvs.length ≤ sizeLine ∧ (a == sysModules) = false ∧ ∃ xs : List (List Key × Addr × Value),
      Paired (fun (p : List Key × V) (q : List Key × Addr × Value) => p.1 = q.1 ∧ H q.2.1 = some (.tup (p.1.map kV)) ∧ RelV p.2 q.2.2) kvs xs ∧
      ∃ o es ep, h.get? a = some o ∧ o.ExactDict ∧ o.data = .dict es ep ∧ es.toList = xs.map (entryOfKey (tupleKind (mixKind P w))) ∧ (xs.map (·.1)).Nodup
  | .set S n => h.SetOf (intKind P w) a S n
  | .ins C dx fs => H dx = some (.own a) ∧ fs.length ≤ 1000 ∧ dx ≠ a ∧ h.get? a = some (PySem.W.instObj C dx) ∧
      ∃ mA, h.Ns1 dx mA ∧ (∀ f, RelO (fs.lookup f) (mA f)) ∧ PySem.Within mA (fs.map (·.1))
  | .own _ => ∃ o, h.get? a = some o
  | .xd fs => ∃ mA, h.Ns1 a mA ∧ ∀ f, RelO (fs.lookup f) (mA f)
  | .rng lo hi => ∃ t u v, h.get? a = some { cls := .type "range", data := .fields #[.int lo t, .int hi u, .int 1 v] }
  | .frz o u => h.get? a = some o ∧ ObjOk H h a u
  | .tbl ps => h.get? a = some { cls := .none, data := .fields ps }
  | .met f x => h.get? a = some (PySem.W.methodObj (.ref f) (.ref x))
  | .ext φ => φ h ∧ (∃ o, h.get? a = some o) ∧ ∀ h1 h2 : Heap, φ h1 → (∀ o, h1.get? a = some o → h2.get? a = some o) → φ h2
def HOk (H : Hp) (h : Heap) : Prop := ∀ a o, H a = some o → ObjOk P w H h a o
end

section
variable {P : Program} {w : World} {H H' : Hp} {h h' : Heap} {a : Addr} {o : HO}
theorem ObjOk.lt (x : ObjOk P w H h a o) : a < h.objs.size := by
  cases o with
  | lst xs => obtain ⟨_, _, _, _, e⟩ := x; exact Heap.lt_size e
  | tup xs => obtain ⟨_, _, _, p⟩ := x; exact p.lt
  | dK kvs => obtain ⟨_, _, _, _, o, _, _, e, _⟩ := x; exact Heap.lt_size e
  | dT kvs => obtain ⟨_, _, _, _, o, _, _, e, _⟩ := x; exact Heap.lt_size e
  | set S n => obtain ⟨o, _, _, _, e, _⟩ := x; exact Heap.lt_size e
  | ins C dx fs => obtain ⟨_, _, _, e, _⟩ := x; exact Heap.lt_size e
  | own y => obtain ⟨_, e⟩ := x; exact Heap.lt_size e
  | xd fs => obtain ⟨_, ⟨_, _, _, e, _⟩, _⟩ := x; exact Heap.lt_size e
  | rng lo hi => obtain ⟨_, _, _, e⟩ := x; exact Heap.lt_size e
  | frz ob u => obtain ⟨e, _⟩ := x; exact Heap.lt_size e
  | tbl ps => exact Heap.lt_size (show h.get? a = some _ from x)
  | met f y => exact Heap.lt_size (show h.get? a = some _ from x)
  | ext φ => obtain ⟨_, ⟨_, e⟩, _⟩ := x; exact Heap.lt_size e
theorem Paired.mapP {α β : Type} {F G : α → β → Prop} : ∀ {l₁ : List α} {l₂ : List β}, Paired F l₁ l₂ → (∀ a b, F a b → G a b) → Paired G l₁ l₂
  | _, _, .nil, _ => .nil
  | _, _, .cons r t, f => .cons (f _ _ r) (Paired.mapP t f)
theorem ObjOk.stay (x : ObjOk P w H h a o) (k : ∀ b u, (b = a ∨ H b = some (.own a)) → h.get? b = some u → h'.get? b = some u)
    (ho : ∀ b, H b = some (.own a) → H' b = some (.own a)) (ht : ∀ b xs, H b = some (.tup xs) → H' b = some (.tup xs)) : ObjOk P w H' h' a o := by
  induction o with
  | lst xs => obtain ⟨z, its, n, r, e⟩ := x; exact ⟨z, its, n, r, k _ _ (.inl rfl) e⟩
  | tup xs => obtain ⟨z, its, r, ob, e, c⟩ := x; exact ⟨z, its, r, ob, k _ _ (.inl rfl) e, c⟩
  | dK kvs => obtain ⟨z, y, vs, r, ob, es, ep, e, c⟩ := x; exact ⟨z, y, vs, r, ob, es, ep, k _ _ (.inl rfl) e, c⟩
  | dT kvs =>
    obtain ⟨z, y, xs, r, ob, es, ep, e, c⟩ := x
    exact ⟨z, y, xs, Paired.mapP r fun p q z => ⟨z.1, ht _ _ z.2.1, z.2.2⟩, ob, es, ep, k _ _ (.inl rfl) e, c⟩
  | set S n => obtain ⟨ob, es, ep, t, e, c⟩ := x; exact ⟨ob, es, ep, t, k _ _ (.inl rfl) e, c⟩
  | ins C dx fs =>
    obtain ⟨d, z, ne, e, mA, ⟨od, es, ep, e2, c⟩, r⟩ := x
    exact ⟨ho _ d, z, ne, k _ _ (.inl rfl) e, mA, ⟨od, es, ep, k _ _ (.inr d) e2, c⟩, r⟩
  | own y => obtain ⟨ob, e⟩ := x; exact ⟨ob, k _ _ (.inl rfl) e⟩
  | xd fs => obtain ⟨mA, ⟨od, es, ep, e, c⟩, r⟩ := x; exact ⟨mA, ⟨od, es, ep, k _ _ (.inl rfl) e, c⟩, r⟩
  | rng lo hi => obtain ⟨t, u, v, e⟩ := x; exact ⟨t, u, v, k _ _ (.inl rfl) e⟩
  | frz ob u ih => obtain ⟨e, q⟩ := x; exact ⟨k _ _ (.inl rfl) e, ih q⟩
  | tbl ps =>
    have e : h.get? a = some { cls := .none, data := .fields ps } := x
    show h'.get? a = some { cls := .none, data := .fields ps }
    exact k a _ (.inl rfl) e
  | met f y =>
    have e : h.get? a = some (PySem.W.methodObj (.ref f) (.ref y)) := x
    show h'.get? a = some (PySem.W.methodObj (.ref f) (.ref y))
    exact k a _ (.inl rfl) e
  | ext φ => obtain ⟨p, ⟨o, e⟩, st⟩ := x; exact ⟨st _ _ p fun o q => k _ _ (.inl rfl) q, ⟨o, k _ _ (.inl rfl) e⟩, st⟩
theorem HOk.lt (x : HOk P w H h) (e : H a = some o) : a < h.objs.size := (x a o e).lt
theorem HOk.fresh (x : HOk P w H h) (e : h.objs.size ≤ a) : H a = none := by
  cases q : H a with
  | none => rfl
  | some u => exact absurd (Nat.lt_of_lt_of_le (x.lt q) e) (Nat.lt_irrefl _)
theorem HOk.kept (x : HOk P w H h) (k : ∀ b u, h.get? b = some u → h'.get? b = some u) : HOk P w H h' := fun a o e =>
  (x a o e).stay (fun b u _ q => k b u q) (fun _ q => q) fun _ _ q => q
theorem HOk.laid (x : HOk P w H h) (k : ∀ b u, h.get? b = some u → h'.get? b = some u) (hp : h.objs.size ≤ a) (new : ObjOk P w (upd H a o) h' a o) : HOk P w (upd H a o) h' := fun b u e => by
  have hn := x.fresh hp
  by_cases hb : b = a
  · subst hb; rw [upd_same] at e; cases e; exact new
  · rw [upd_ne hb] at e
    exact (x b u e).stay (fun c v _ q => k c v q) (fun c q => by rw [upd_ne (ne_of_none q hn)]; exact q) fun c xs q => by rw [upd_ne (ne_of_none q hn)]; exact q
end

def Rd (H : Hp) (a : Addr) (u : HO) : Prop := H a = some u ∨ ∃ o, H a = some (.frz o u)
theorem Rd.ok {P : Program} {w : World} {H : Hp} {h : Heap} {a : Addr} {u : HO} (r : Rd H a u) (x : HOk P w H h) : ObjOk P w H h a u := by
  rcases r with r | ⟨o, r⟩
  · exact x a u r
  · obtain ⟨_, q⟩ := x a _ r
    exact q
def Mut : Option HO → Prop
  | some (.lst _) => True
  | some (.dK _) => True
  | some (.dT _) => True
  | some (.set _ _) => True
  | some (.ins _ _ _) => True
  | some (.ext _) => True
  | _ => False
section
variable {P : Program} {w : World} {H : Hp} {h h' : Heap} {x e : Addr} {o' : HO}
theorem HOk.write (ok : HOk P w H h) (mu : Mut (H x)) (he : e = x ∨ H e = some (.own x)) (k : ∀ b u, b ≠ e → h.get? b = some u → h'.get? b = some u) (heo : ∃ u, h'.get? e = some u)
    (new : ObjOk P w (upd H x o') h' x o') : HOk P w (upd H x o') h' := fun b u q => by
  have nown : ∀ c y, H c = some (.own y) → c ≠ x := fun c y r z => by subst z; rw [r] at mu; exact mu
  have ntup : ∀ c xs, H c = some (.tup xs) → c ≠ x := fun c xs r z => by subst z; rw [r] at mu; exact mu
  by_cases hb : b = x
  · subst hb; rw [upd_same] at q; cases q; exact new
  · rw [upd_ne hb] at q
    by_cases hbe : b = e
    · have q' : H b = some (.own x) := by
        rcases he with z | z
        · exact absurd (hbe.trans z) hb
        · rw [hbe]; exact z
      rw [q] at q'; cases q'
      obtain ⟨v, hv⟩ := heo
      exact ⟨v, by rw [hbe]; exact hv⟩
    · refine (ok b u q).stay (fun c v hc r => k c v ?_ r) (fun c r => by rw [upd_ne (nown c b r)]; exact r) fun c xs r => by rw [upd_ne (ntup c xs r)]; exact r
      rcases hc with rfl | hc
      · exact hbe
      · rintro rfl
        rcases he with z | z
        · exact nown c b hc z
        · rw [hc] at z; cases z; exact hb rfl
end

structure Un (fs ex : List Addr) (H H' : Hp) (h h' : Heap) : Prop where
  keep : ∀ b o, h.get? b = some o → H b = none → b ∉ fs → b ∉ ex → h'.get? b = some o
  slot : ∀ b o, h.get? b = some o → H b = none → b ∈ fs → b ∉ ex → ∃ sl, h'.get? b = some { o with slots := sl }
  free : ∀ b o, h.get? b = some o → H b = none → b ∉ ex → H' b = none
  there : ∀ b o, h.get? b = some o → b ∉ ex → ∃ o', h'.get? b = some o'
  tups : ∀ b xs, H b = some (.tup xs) → H' b = some (.tup xs)
  frzs : ∀ b o u, H b = some (.frz o u) → H' b = some (.frz o u)
  tbls : ∀ b ps, H b = some (.tbl ps) → ∃ more, H' b = some (.tbl (ps ++ more))
section
variable {fs fs' ex ex' : List Addr} {H H1 H2 : Hp} {h h1 h2 h' : Heap} {a x e : Addr} {o : HO}
theorem Un.any (u : Un fs ex H H1 h h1) {b : Addr} {ob : Obj} (q : h.get? b = some ob) (n : H b = none) (hx : b ∉ ex) : ∃ sl, h1.get? b = some { ob with slots := sl } := by
  by_cases hb : b ∈ fs
  · exact u.slot b ob q n hb hx
  · exact ⟨ob.slots, u.keep b ob q n hb hx⟩
theorem Un.kept (k : ∀ b u, h.get? b = some u → h'.get? b = some u) : Un fs ex H H h h' :=
  ⟨fun b ob q _ _ _ => k b ob q, fun b ob q _ _ _ => ⟨ob.slots, k b ob q⟩, fun _ _ _ n _ => n, fun b ob q _ => ⟨ob, k b ob q⟩, fun _ _ q => q, fun _ _ _ q => q, fun _ ps q => ⟨#[], by rw [q]; simp⟩⟩
theorem Un.refl : Un fs ex H H h h := Un.kept fun _ _ q => q
theorem Un.laid (k : ∀ b u, h.get? b = some u → h'.get? b = some u) (hp : h.objs.size ≤ a) (hn : H a = none) : Un fs ex H (upd H a o) h h' where
  keep := fun b u q _ _ _ => k b u q
  slot := fun b u q _ _ _ => ⟨u.slots, k b u q⟩
  free := fun b u q n _ => by rw [upd_ne (Nat.ne_of_lt (Nat.lt_of_lt_of_le (Heap.lt_size q) hp))]; exact n
  there := fun b u q _ => ⟨u, k b u q⟩
  tups := fun b xs q => by rw [upd_ne (ne_of_none q hn)]; exact q
  frzs := fun b u xs q => by rw [upd_ne (ne_of_none q hn)]; exact q
  tbls := fun b ps q => ⟨#[], by rw [upd_ne (ne_of_none q hn), q]; simp⟩
theorem Un.write (mu : Mut (H x)) (he : e = x ∨ H e = some (.own x)) (k : ∀ b u, b ≠ e → h.get? b = some u → h'.get? b = some u) (heo : ∃ u, h'.get? e = some u) : Un fs ex H (upd H x o) h h' := by
  have hx : ∀ b, H b = none → b ≠ x := fun b n z => by subst z; rw [n] at mu; exact mu
  have hb : ∀ b, H b = none → b ≠ e := fun b n z => by
    subst z
    rcases he with r | r
    · exact hx b n r
    · rw [n] at r; cases r
  have hm : ∀ b u, H b = some u → ¬ Mut (some u) → b ≠ x := fun b u q nm z => by subst z; rw [q] at mu; exact nm mu
  refine ⟨fun b u q n _ _ => k b u (hb b n) q, fun b u q n _ _ => ⟨u.slots, k b u (hb b n) q⟩, fun b u q n _ => by rw [upd_ne (hx b n)]; exact n, fun b u q _ => ?_,
    fun b xs q => by rw [upd_ne (hm b _ q fun z => z)]; exact q, fun b u xs q => by rw [upd_ne (hm b _ q fun z => z)]; exact q, fun b ps q => ⟨#[], by rw [upd_ne (hm b _ q fun z => z), q]; simp⟩⟩
  by_cases hbe : b = e
  · subst hbe; exact heo
  · exact ⟨u, k b u hbe q⟩
end

def trk (h : Heap) (H : Hp) : List Addr := (List.range h.objs.size).filter fun a => (H a).isSome
def hidT (h : Heap) (H : Hp) : Heap := PySem.W.hideAll h (trk h H)
theorem hidT_size (h : Heap) (H : Hp) : (hidT h H).objs.size = h.objs.size := PySem.W.hideAll_size _ _
theorem hidT_get {h : Heap} {H : Hp} {b : Addr} {o : Obj} (e : h.get? b = some o) (n : H b = none) : (hidT h H).get? b = some o :=
  PySem.W.hideAll_get _ e fun hm => by
    have q : (H b).isSome = true := (List.mem_filter.mp hm).2
    rw [n] at q; simp at q
theorem of_hidT {h : Heap} {H : Hp} {b : Addr} {o : Obj} (e : (hidT h H).get? b = some o) : h.get? b = some o ∧ H b = none := by
  have e' : h.get? b = some o := PySem.W.of_hideAll (trk h H) e
  refine ⟨e', ?_⟩
  cases q : H b with
  | none => rfl
  | some x =>
    have hm : b ∈ trk h H := List.mem_filter.mpr ⟨List.mem_range.mpr (Heap.lt_size e'), by simp [q]⟩
    have z : (hidT h H).get? b = none := PySem.W.hideAll_none (trk h H) hm
    rw [z] at e; cases e

end L2

namespace L2
open PySem PySem.Spec PyProof.Rows

structure Mod (K : PySem.W.Frag) (mg : Str → Option Value) (base : Heap) : Prop where
  kin : K.In base
  glob : base.Ns mainGlobals mg
  blt : ∃ mb, base.Ns builtinsNs mb ∧ ∀ x : Str, x ≠ "__name__" → mb x = bootBuiltins x
  nolimit : base.NoLimit

/-- the context: a def's body (or a comprehension's block) running. base: fixed through the whole law; s₀, H₀: the entry; outer: the frames whose slots others may change (a def's callers); stack: all frames that run;
   ex: iterators that were made ahead of the entry and are walked here (a comprehension's); fn: the names whose cells were made at the entry (a def: all; a comprehension's block: its own); calm: not within an except suite; pn: pins that every state bears; xe: what is wanted of an exception that leaves the code -/
structure Cx where
  prog : Program
  w : World
  K : PySem.W.Frag
  mg : Str → Option Value
  base : Heap
  A : Around
  N : List Str
  s₀ : Shared
  H₀ : Hp
  env : Env
  outer : List Env
  stack : List Env
  ex : List Addr
  fn : Str → Bool
  calm : Bool
  pn : List (Addr × Obj)
  xe : Value → Shared → Prop
def frs (l : List Env) : List Addr := l.filterMap (·.frame)
abbrev Cx.fs (X : Cx) : List Addr := frs X.outer

def Vis (sc : Scope) (x : Str) : Prop := sc.names.lookup x = some .local ∨ sc.names.lookup x = some .cell ∨ sc.names.lookup x = some .free
def Loc (sc : Scope) (x : Str) : Prop := sc.names.lookup x = some .local ∨ sc.names.lookup x = some .cell
def Look (env : Env) (h : Heap) (m : Str → Option Value) (x : Str) (u : Value) : Prop :=
  (env.kindOf x = some .local ∧ m x = some u) ∨ ((env.kindOf x = some .cell ∨ env.kindOf x = some .free) ∧ ∃ c, env.cells.lookup x = some c ∧ h.IsCell c (some u))

structure Cx.Ok (X : Cx) : Prop where
  mod : Mod X.K X.mg X.base
  kind : X.env.scope.kind = .function
  glob : X.env.globals = mainGlobals
  blt : X.env.builtins = builtinsNs
  above : X.s₀.heap.objs.size ≤ X.env.locals
  inj : ∀ x y c, X.env.cells.lookup x = some c → X.env.cells.lookup y = some c → x = y
  has : ∀ x, (X.env.kindOf x = some .cell ∨ X.env.kindOf x = some .free) → ∃ c, X.env.cells.lookup x = some c
  cab : ∀ x c, X.fn x = true → X.env.cells.lookup x = some c → X.s₀.heap.objs.size ≤ c
  hd : X.calm = true → X.A.handled = none
  frames : X.A.frames = some X.stack
  stk : X.stack = X.outer ∨ (X.stack = X.env :: X.outer ∧ X.env.frame = some X.env.locals)
  exf : ∀ b ∈ X.ex, b ≠ X.env.locals ∧ ∀ x c, X.env.cells.lookup x = some c → c ≠ b
  bs : ∀ b o, X.base.get? b = some o → X.s₀.heap.get? b = some o ∧ X.H₀ b = none
  bsz : X.base.objs.size ≤ X.s₀.heap.objs.size
  noex : ∀ b o, X.base.get? b = some o → b ∉ X.ex
  exfs : ∀ b ∈ X.ex, b ∉ X.fs
  funs : X.s₀.heap.FunFrames X.base X.outer
  frf : ∀ b ∈ X.fs, X.H₀ b = none

structure Inv (X : Cx) (pins : List (Addr × Obj)) (σ : List (Option V)) (H : Hp) (s : Shared) : Prop where
  ok : X.Ok
  os : s.os = X.s₀.os
  bare : AllBare s.gens
  base : Un X.fs X.ex X.H₀ H X.s₀.heap s.heap
  loc : ∃ m, s.heap.Ns X.env.locals m ∧ ∀ (i : Nat) (x : Str) (v : V), X.N[i]? = some x → σ[i]? = some (some v) → Vis X.env.scope x → ∃ u, RelV v u ∧ Look X.env s.heap m x u
  cell : ∀ x c, X.env.cells.lookup x = some c → ∃ v, s.heap.IsCell c v
  free : H X.env.locals = none
  freeC : ∀ x c, X.env.cells.lookup x = some c → H c = none
  pin : ∀ p ∈ X.pn ++ pins, s.heap.get? p.1 = some p.2 ∧ H p.1 = none ∧ p.1 ≠ X.env.locals ∧ p.1 ∉ X.fs ∧ ∀ v, p.2.data ≠ .cell v
  hok : HOk X.prog X.w H s.heap
  len : σ.length = X.N.length

section
variable {X : Cx} {pins : List (Addr × Obj)} {σ : List (Option V)} {H H' : Hp} {s : Shared} {h' : Heap}

theorem Cx.Ok.nofr (ok : X.Ok) {b : Addr} {o : Obj} (e : X.base.get? b = some o) : b ∉ X.fs := fun hb => by
  have := (ok.funs.mem hb).1
  rw [e] at this; cases this
theorem Inv.bs (I : Inv X pins σ H s) : ∀ b o, X.base.get? b = some o → s.heap.get? b = some o ∧ H b = none := fun b o e =>
  ⟨I.base.keep b o (I.ok.bs b o e).1 (I.ok.bs b o e).2 (I.ok.nofr e) (I.ok.noex b o e), I.base.free b o (I.ok.bs b o e).1 (I.ok.bs b o e).2 (I.ok.noex b o e)⟩
theorem Inv.bk (I : Inv X pins σ H s) : ∀ b o, X.base.get? b = some o → s.heap.get? b = some o := fun b o e => (I.bs b o e).1
theorem Inv.mod (I : Inv X pins σ H s) : Mod X.K X.mg X.base := I.ok.mod
theorem Inv.kIn (I : Inv X pins σ H s) : X.K.In s.heap := I.ok.mod.kin.keeps I.bk
theorem Inv.lt (I : Inv X pins σ H s) : X.env.locals < s.heap.objs.size := let ⟨_, hn, _⟩ := I.loc; hn.lt
theorem Inv.sz (I : Inv X pins σ H s) : X.s₀.heap.objs.size ≤ s.heap.objs.size := Nat.le_trans I.ok.above (Nat.le_of_lt I.lt)
theorem Inv.nofs (I : Inv X pins σ H s) {a : Addr} (h : s.heap.objs.size ≤ a) : a ∉ X.fs := fun hb => by
  obtain ⟨_, o, ho, _⟩ := I.ok.funs.mem hb
  exact absurd (Nat.lt_of_lt_of_le (Heap.lt_size ho) (Nat.le_trans I.sz h)) (Nat.lt_irrefl _)
theorem Inv.cne (I : Inv X pins σ H s) : ∀ x c, X.env.cells.lookup x = some c → c ≠ X.env.locals := fun x c e z => by
  obtain ⟨v, o, ho, hd⟩ := I.cell x c e
  obtain ⟨m, ⟨o', es, ep, ho', hd', _⟩, _⟩ := I.loc
  rw [z, ho'] at ho; cases ho; rw [hd'] at hd; cases hd
theorem Inv.funs (I : Inv X pins σ H s) : s.heap.FunFrames X.base X.outer := by
  have all : ∀ (l : List Env), (∀ b ∈ frs l, b ∈ X.fs) → X.s₀.heap.FunFrames X.base l → s.heap.FunFrames X.base l := by
    intro l
    induction l with
    | nil => intro _ _; trivial
    | cons env r ih =>
      intro hs hl
      obtain ⟨hk, ⟨L, o, hf, hn, ho, hd⟩, hr⟩ := hl
      have hL : L ∈ X.fs := hs L (by unfold frs; rw [List.filterMap_cons, hf]; exact List.mem_cons_self)
      obtain ⟨sl, e⟩ := I.base.slot L o ho (I.ok.frf L hL) hL fun z => I.ok.exfs L z hL
      exact ⟨hk, ⟨L, _, hf, hn, e, hd⟩, ih (fun b hb => hs b (by unfold frs; rw [List.filterMap_cons, hf]; exact List.mem_cons_of_mem _ hb)) hr⟩
  exact all X.outer (fun _ hb => hb) I.ok.funs

theorem Inv.stack (I : Inv X pins σ H s) : s.heap.FunFrames X.base X.stack := by
  rcases I.ok.stk with e | ⟨e, hf⟩
  · rw [e]; exact I.funs
  · rw [e]
    obtain ⟨m, hn, _⟩ := I.loc
    refine .cons (by rw [I.ok.kind]; decide) hf hn ?_ I.funs
    exact Heap.get?_none_of_le (Nat.le_trans I.ok.bsz I.ok.above)
theorem Inv.stkSub (I : Inv X pins σ H s) : ∀ b ∈ frs X.stack, b ∈ X.env.locals :: X.fs := fun b hb => by
  rcases I.ok.stk with e | ⟨e, hf⟩
  · rw [e] at hb; exact List.mem_cons_of_mem _ hb
  · rw [e] at hb
    unfold frs at hb
    rw [List.filterMap_cons, hf] at hb
    exact hb
theorem Inv.stkFree (I : Inv X pins σ H s) : ∀ b ∈ frs X.stack, H b = none := fun b hb => by
  rcases List.mem_cons.mp (I.stkSub b hb) with e | hb
  · rw [e]; exact I.free
  · obtain ⟨_, o, ho, _⟩ := I.ok.funs.mem hb
    exact I.base.free b o ho (I.ok.frf b hb) fun z => I.ok.exfs b z hb

theorem Inv.step {g' : Array GenState} {t' : Nat} {d' : Drawn} {ch : List Addr} (I : Inv X pins σ H s)
    (hch : ∀ b ∈ ch, (b ∈ X.ex ∨ X.s₀.heap.objs.size ≤ b) ∧ b ≠ X.env.locals ∧ (∀ x c, X.env.cells.lookup x = some c → c ≠ b) ∧ ∀ p ∈ X.pn ++ pins, p.1 ≠ b)
    (keep : ∀ b o, b ≠ X.env.locals → b ∉ X.fs → b ∉ ch → s.heap.get? b = some o → H b = none → h'.get? b = some o)
    (slot : ∀ b o, b ≠ X.env.locals → b ∈ X.fs → b ∉ ch → s.heap.get? b = some o → H b = none → ∃ sl, h'.get? b = some { o with slots := sl }) (free : ∀ b o, b ∉ ch → s.heap.get? b = some o → H b = none → H' b = none)
    (there : ∀ b o, b ∉ ch → s.heap.get? b = some o → ∃ o', h'.get? b = some o')
    (tups : ∀ b xs, H b = some (.tup xs) → H' b = some (.tup xs)) (frzs : ∀ b o u, H b = some (.frz o u) → H' b = some (.frz o u)) (tbls : ∀ b ps, H b = some (.tbl ps) → ∃ more, H' b = some (.tbl (ps ++ more)))
    (ns : ∀ m, s.heap.Ns X.env.locals m → h'.Ns X.env.locals m) (hok : HOk X.prog X.w H' h') (hg : AllBare g') :
    Inv X pins σ H' { s with heap := h', gens := g', drawn := d', toks := t' } := by
  have neL : ∀ b o, X.s₀.heap.get? b = some o → b ≠ X.env.locals := fun b o e => Nat.ne_of_lt (Nat.lt_of_lt_of_le (Heap.lt_size e) I.ok.above)
  have neC : ∀ b o, X.s₀.heap.get? b = some o → b ∉ X.ex → b ∉ ch := fun b o e hx hb => by
    rcases (hch b hb).1 with z | z
    · exact hx z
    · exact absurd (Nat.lt_of_lt_of_le (Heap.lt_size e) z) (Nat.lt_irrefl _)
  have cellK : ∀ x c, X.env.cells.lookup x = some c → ∀ v, s.heap.IsCell c v → h'.IsCell c v := fun x c e v ⟨o, ho, hd⟩ => by
    have nch : c ∉ ch := fun z => (hch c z).2.2.1 x c e rfl
    by_cases hc : c ∈ X.fs
    · obtain ⟨sl, q⟩ := slot c o (I.cne x c e) hc nch ho (I.freeC x c e)
      exact ⟨_, q, hd⟩
    · exact ⟨o, keep c o (I.cne x c e) hc nch ho (I.freeC x c e), hd⟩
  refine ⟨I.ok, I.os, hg, ⟨fun b o e n hb hx => ?_, fun b o e n hb hx => ?_, fun b o e n hx => ?_, fun b o e hx => ?_, fun b xs e => tups b xs (I.base.tups b xs e), fun b o xs e => frzs b o xs (I.base.frzs b o xs e), fun b ps e => ?_⟩, ?_, fun x c e => ?_, ?_, fun x c e => ?_, fun p hp => ?_, hok, I.len⟩
  · exact keep b o (neL b o e) hb (neC b o e hx) (I.base.keep b o e n hb hx) (I.base.free b o e n hx)
  · obtain ⟨sl, e1⟩ := I.base.slot b o e n hb hx
    obtain ⟨sl', e2⟩ := slot b _ (neL b o e) hb (neC b o e hx) e1 (I.base.free b o e n hx)
    exact ⟨sl', e2⟩
  · obtain ⟨o', e1⟩ := I.base.there b o e hx
    exact free b o' (neC b o e hx) e1 (I.base.free b o e n hx)
  · obtain ⟨o', e1⟩ := I.base.there b o e hx
    exact there b o' (neC b o e hx) e1
  · obtain ⟨m1, e1⟩ := I.base.tbls b ps e
    obtain ⟨m2, e2⟩ := tbls b _ e1
    exact ⟨m1 ++ m2, by rw [e2, Array.append_assoc]⟩
  · obtain ⟨m, hn, hl⟩ := I.loc
    refine ⟨m, ns m hn, fun i x v e1 e2 e3 => ?_⟩
    obtain ⟨u, r, l⟩ := hl i x v e1 e2 e3
    refine ⟨u, r, ?_⟩
    rcases l with l | ⟨k, c, e, z⟩
    · exact .inl l
    · exact .inr ⟨k, c, e, cellK x c e _ z⟩
  · obtain ⟨v, z⟩ := I.cell x c e
    exact ⟨v, cellK x c e v z⟩
  · obtain ⟨m, ⟨o, _, _, ho, _⟩, _⟩ := I.loc
    exact free _ o (fun z => (hch _ z).2.1 rfl) ho I.free
  · obtain ⟨v, o, ho, hd⟩ := I.cell x c e
    exact free c o (fun z => (hch c z).2.2.1 x c e rfl) ho (I.freeC x c e)
  · obtain ⟨e, n, ne, nf, d⟩ := I.pin p hp
    have nch : p.1 ∉ ch := fun z => (hch p.1 z).2.2.2 p hp rfl
    exact ⟨keep p.1 p.2 ne nf nch e n, free p.1 p.2 nch e n, ne, nf, d⟩
theorem Inv.un {t' : Nat} (I : Inv X pins σ H s) (u : Un X.fs [] H H' s.heap h') (hok : HOk X.prog X.w H' h') : Inv X pins σ H' { s with heap := h', toks := t' } := by
  obtain ⟨m, ⟨o, es, ep, ho, r⟩, _⟩ := id I.loc
  obtain ⟨sl, hL⟩ := u.any ho I.free (by simp)
  exact I.step (g' := s.gens) (d' := s.drawn) (ch := []) (fun _ z => nomatch z) (fun b o _ hb _ e n => u.keep b o e n hb (by simp)) (fun b o _ hb _ e n => u.slot b o e n hb (by simp)) (fun b o _ e n => u.free b o e n (by simp)) (fun b o _ e => u.there b o e (by simp)) u.tups u.frzs u.tbls (fun m' hm => by
    obtain ⟨o', es', ep', ho', r'⟩ := hm
    rw [ho] at ho'; cases ho'
    exact ⟨_, es', ep', hL, r'⟩) hok I.bare
theorem Inv.call {g' : Array GenState} {t' : Nat} {d' : Drawn} {ch : List Addr} (I : Inv X pins σ H s) (u : Un (frs X.stack) ch H H' s.heap h') (hok : HOk X.prog X.w H' h') (hg : AllBare g')
    (hch : ∀ b ∈ ch, (b ∈ X.ex ∨ X.s₀.heap.objs.size ≤ b) ∧ b ≠ X.env.locals ∧ (∀ x c, X.env.cells.lookup x = some c → c ≠ b) ∧ ∀ p ∈ X.pn ++ pins, p.1 ≠ b) :
    Inv X pins σ H' { s with heap := h', gens := g', drawn := d', toks := t' } := by
  obtain ⟨m, ⟨o, es, ep, ho, r⟩, _⟩ := id I.loc
  obtain ⟨sl, hL⟩ := u.any ho I.free fun z => (hch _ z).2.1 rfl
  exact I.step (ch := ch) hch (fun b o hL hb hc e n => u.keep b o e n (fun z => (List.mem_cons.mp (I.stkSub b z)).elim hL hb) hc) (fun b o _ _ hc e n => u.any e n hc) (fun b o hc e n => u.free b o e n hc) (fun b o hc e => u.there b o e hc) u.tups u.frzs u.tbls (fun m' hm => by
    obtain ⟨o', es', ep', ho', r'⟩ := hm
    rw [ho] at ho'; cases ho'
    exact ⟨_, es', ep', hL, r'⟩) hok hg
theorem Inv.turned {t' : Nat} {it : Addr} (I : Inv X pins σ H s) (k : ∀ b o, b ≠ it → s.heap.get? b = some o → h'.get? b = some o) (hn : H it = none) (hL : it ≠ X.env.locals)
    (h1 : it ∈ X.ex ∨ X.s₀.heap.objs.size ≤ it) (h2 : ∀ x c, X.env.cells.lookup x = some c → c ≠ it) (h3 : ∀ p ∈ X.pn ++ pins, p.1 ≠ it) : Inv X pins σ H { s with heap := h', toks := t' } := by
  have nit : ∀ b u, H b = some u → b ≠ it := fun b u e z => by rw [z, hn] at e; cases e
  refine I.step (g' := s.gens) (d' := s.drawn) (ch := [it]) (fun b hb => ?_) (fun b o _ _ hc e _ => k b o (fun z => hc (by simp [z])) e) (fun b o _ _ hc e _ => ⟨o.slots, k b o (fun z => hc (by simp [z])) e⟩) (fun _ _ _ _ n => n)
    (fun b o hc e => ⟨o, k b o (fun z => hc (by simp [z])) e⟩) (fun _ _ e => e) (fun _ _ _ e => e) (fun b ps e => ⟨#[], by rw [e]; simp⟩) (fun m hm => ?_) (fun b u e => ?_) I.bare
  · have e : b = it := by simpa using hb
    subst e
    exact ⟨h1, hL, h2, h3⟩
  · obtain ⟨o, es, ep, ho, r⟩ := hm
    exact ⟨o, es, ep, k _ o (Ne.symm hL) ho, r⟩
  · refine (I.hok b u e).stay (fun c v hc q => k c v ?_ q) (fun _ q => q) fun _ _ q => q
    rcases hc with z | z
    · rw [z]; exact nit b u e
    · exact nit c _ z
theorem Inv.tok (I : Inv X pins σ H s) (t : Nat) : Inv X pins σ H { s with toks := t } := I.un (h' := s.heap) (t' := t) Un.refl I.hok
theorem Inv.kept {t' : Nat} (I : Inv X pins σ H s) (k : ∀ b u, s.heap.get? b = some u → h'.get? b = some u) : Inv X pins σ H { s with heap := h', toks := t' } := I.un (Un.kept k) (I.hok.kept k)
theorem Inv.laid {a : Addr} {o : HO} {t' : Nat} (I : Inv X pins σ H s) (k : ∀ b u, s.heap.get? b = some u → h'.get? b = some u) (hp : s.heap.objs.size ≤ a) (new : ObjOk X.prog X.w (upd H a o) h' a o) :
    Inv X pins σ (upd H a o) { s with heap := h', toks := t' } := I.un (Un.laid k hp (I.hok.fresh hp)) (I.hok.laid k hp new)
theorem Inv.write {x e : Addr} {o : HO} {t' : Nat} (I : Inv X pins σ H s) (mu : Mut (H x)) (he : e = x ∨ H e = some (.own x)) (k : ∀ b u, b ≠ e → s.heap.get? b = some u → h'.get? b = some u) (heo : ∃ u, h'.get? e = some u)
    (new : ObjOk X.prog X.w (upd H x o) h' x o) : Inv X pins σ (upd H x o) { s with heap := h', toks := t' } := I.un (Un.write mu he k heo) (I.hok.write mu he k heo new)
theorem Inv.weak {σ' : List (Option V)} (I : Inv X pins σ H s) (hl : σ'.length = σ.length) (w : ∀ (i : Nat) v, σ'[i]? = some (some v) → σ[i]? = some (some v)) : Inv X pins σ' H s :=
  ⟨I.ok, I.os, I.bare, I.base, let ⟨m, hn, hl'⟩ := I.loc; ⟨m, hn, fun i x v e1 e2 e3 => hl' i x v e1 (w i v e2) e3⟩, I.cell, I.free, I.freeC, I.pin, I.hok, hl.trans I.len⟩
theorem Inv.pins_of {pins' : List (Addr × Obj)} (I : Inv X pins σ H s) (h : ∀ p ∈ pins', s.heap.get? p.1 = some p.2 ∧ H p.1 = none ∧ p.1 ≠ X.env.locals ∧ p.1 ∉ X.fs ∧ ∀ v, p.2.data ≠ .cell v) : Inv X pins' σ H s :=
  ⟨I.ok, I.os, I.bare, I.base, I.loc, I.cell, I.free, I.freeC, fun p hp => (List.mem_append.mp hp).elim (fun z => I.pin p (List.mem_append_left _ z)) (h p), I.hok, I.len⟩

theorem nodup_ix {N : List Str} (hN : N.Nodup) {i j : Nat} {x : Str} (a : N[i]? = some x) (b : N[j]? = some x) : i = j := by
  obtain ⟨h1, e1⟩ := List.getElem?_eq_some_iff.mp a
  obtain ⟨h2, e2⟩ := List.getElem?_eq_some_iff.mp b
  exact (List.getElem_inj hN).mp (e1.trans e2.symm)

theorem store_ok2 {M : Model} {A : Around} {E : Value → Shared → Prop} {i : Nat} {x : Str} {v : V} {u : Value} {Q : Unit → Shared → Prop} (I : Inv X pins σ H s) (hN : X.N.Nodup) (hi : X.N[i]? = some x) (hx : Loc X.env.scope x) (r : RelV v u)
    (h : ∀ s', Inv X pins (σ.set i (some v)) H s' → (∃ a, Heap.SameBut a s.heap s'.heap ∧ (a = X.env.locals ∨ X.env.cells.lookup x = some a)) → Q () s') (hf : X.fn x = true ∨ X.env.scope.names.lookup x = some .local := by first | exact .inl rfl | exact .inr rfl | assumption) : wpAny M A (storeName X.env x u) Q E s := by
  obtain ⟨m, hn, hl⟩ := id I.loc
  have hcls : (X.env.scope.kind == .class || (X.env.scope.kind == .module && X.env.locals != X.env.globals)) = false := by rw [I.ok.kind]; rfl
  have hiσ : i < σ.length := by rw [I.len]; exact (List.getElem?_eq_some_iff.mp hi).1
  have cne := I.cne
  have tracked : ∀ {a : Addr} {h' : Heap}, (∃ o, s.heap.get? a = some o ∧ H a = none) → Heap.SameBut a s.heap h' → HOk X.prog X.w H h' := fun {a h'} ha hs b ob e => by
    obtain ⟨_, _, hfree⟩ := ha
    refine (I.hok b ob e).stay (fun c w' hc q => (hs.2 c ?_).trans q) (fun _ q => q) fun _ _ q => q
    rintro rfl
    rcases hc with rfl | hc
    · rw [hfree] at e; cases e
    · rw [hfree] at hc; cases hc
  rcases hx with hk | hk
  · refine wpAny_storeName_local hk hn (fun h' hn' hs => ?_) hcls
    obtain ⟨oL, _, _, hoL, _⟩ := id hn
    refine h _ ⟨I.ok, I.os, I.bare, ⟨fun b o e n hb hx => ?_, fun b o e n hb hx => ?_, I.base.free, fun b o e hx => ?_, I.base.tups, I.base.frzs, I.base.tbls⟩, ⟨_, hn', fun j y v' e1 e2 e3 => ?_⟩, fun y c e => ?_, I.free, I.freeC, fun p hp => ?_, tracked ⟨oL, hoL, I.free⟩ hs, by simpa using I.len⟩ ⟨_, hs, .inl rfl⟩
    · exact (hs.2 b (Nat.ne_of_lt (Nat.lt_of_lt_of_le (Heap.lt_size e) I.ok.above))).trans (I.base.keep b o e n hb hx)
    · obtain ⟨sl, e1⟩ := I.base.slot b o e n hb hx
      exact ⟨sl, (hs.2 b (Nat.ne_of_lt (Nat.lt_of_lt_of_le (Heap.lt_size e) I.ok.above))).trans e1⟩
    · obtain ⟨o', e1⟩ := I.base.there b o e hx
      exact ⟨o', (hs.2 b (Nat.ne_of_lt (Nat.lt_of_lt_of_le (Heap.lt_size e) I.ok.above))).trans e1⟩
    · by_cases hj : j = i
      · subst hj
        rw [hi] at e1; cases e1
        rw [List.getElem?_set_self hiσ] at e2
        cases e2
        exact ⟨u, r, .inl ⟨hk, by simp⟩⟩
      · rw [List.getElem?_set_ne (Ne.symm hj)] at e2
        obtain ⟨u', r', q⟩ := hl j y v' e1 e2 e3
        refine ⟨u', r', ?_⟩
        rcases q with ⟨k, e⟩ | ⟨k, c, e, z⟩
        · refine .inl ⟨k, ?_⟩
          have : y ≠ x := fun e => hj (nodup_ix hN e1 (e ▸ hi))
          simp [this, e]
        · exact .inr ⟨k, c, e, z.sameBut hs (cne y c e)⟩
    · obtain ⟨w', z⟩ := I.cell y c e
      exact ⟨w', z.sameBut hs (cne y c e)⟩
    · obtain ⟨e, n, ne, nf, d⟩ := I.pin p hp
      exact ⟨(hs.2 p.1 ne).trans e, n, ne, nf, d⟩
  · have hfn : X.fn x = true := by
      rcases hf with z | z
      · exact z
      · rw [z] at hk; cases hk
    obtain ⟨c, hc⟩ := I.ok.has x (.inl hk)
    obtain ⟨w', z⟩ := I.cell x c hc
    refine wpAny_storeName_cell I.ok.kind hk hc z (fun h' hc' hs => ?_)
    obtain ⟨oc, hoc, hocd⟩ := id z
    refine h { s with heap := h' } ⟨I.ok, I.os, I.bare, ⟨fun b o e n hb hx => ?_, fun b o e n hb hx => ?_, I.base.free, fun b o e hx => ?_, I.base.tups, I.base.frzs, I.base.tbls⟩, ⟨m, hn.sameBut hs (Ne.symm (cne x c hc)), fun j y v' e1 e2 e3 => ?_⟩, fun y c' e => ?_, I.free, I.freeC, fun p hp => ?_, tracked ⟨oc, hoc, I.freeC x c hc⟩ hs, by simpa using I.len⟩ ⟨c, hs, .inr hc⟩
    · exact (hs.2 b (Nat.ne_of_lt (Nat.lt_of_lt_of_le (Heap.lt_size e) (I.ok.cab x c hfn hc)))).trans (I.base.keep b o e n hb hx)
    · obtain ⟨sl, e1⟩ := I.base.slot b o e n hb hx
      exact ⟨sl, (hs.2 b (Nat.ne_of_lt (Nat.lt_of_lt_of_le (Heap.lt_size e) (I.ok.cab x c hfn hc)))).trans e1⟩
    · obtain ⟨o', e1⟩ := I.base.there b o e hx
      exact ⟨o', (hs.2 b (Nat.ne_of_lt (Nat.lt_of_lt_of_le (Heap.lt_size e) (I.ok.cab x c hfn hc)))).trans e1⟩
    · by_cases hj : j = i
      · subst hj
        rw [hi] at e1; cases e1
        rw [List.getElem?_set_self hiσ] at e2
        cases e2
        exact ⟨u, r, .inr ⟨.inl hk, c, hc, hc'⟩⟩
      · rw [List.getElem?_set_ne (Ne.symm hj)] at e2
        obtain ⟨u', r', q⟩ := hl j y v' e1 e2 e3
        refine ⟨u', r', ?_⟩
        rcases q with q | ⟨k, c', e, z'⟩
        · exact .inl q
        · refine .inr ⟨k, c', e, z'.sameBut hs ?_⟩
          rintro rfl
          exact hj (nodup_ix hN e1 (I.ok.inj _ _ _ e hc ▸ hi))
    · by_cases hcc : c' = c
      · subst hcc; exact ⟨_, hc'⟩
      · obtain ⟨w2, z2⟩ := I.cell y c' e
        exact ⟨w2, z2.sameBut hs hcc⟩
    · obtain ⟨e, n, ne, nf, d⟩ := I.pin p hp
      refine ⟨(hs.2 p.1 ?_).trans e, n, ne, nf, d⟩
      intro q
      rw [q, hoc] at e
      have q' : oc = p.2 := Option.some.inj e
      exact d w' (by rw [← q']; exact hocd)
theorem store_ok {M : Model} {A : Around} {E : Value → Shared → Prop} {i : Nat} {x : Str} {v : V} {u : Value} {Q : Unit → Shared → Prop} (I : Inv X pins σ H s) (hN : X.N.Nodup) (hi : X.N[i]? = some x) (hx : Loc X.env.scope x) (r : RelV v u)
    (h : ∀ s', Inv X pins (σ.set i (some v)) H s' → Q () s') (hf : X.fn x = true ∨ X.env.scope.names.lookup x = some .local := by first | exact .inl rfl | exact .inr rfl | assumption) : wpAny M A (storeName X.env x u) Q E s :=
  store_ok2 I hN hi hx r (fun s' I' _ => h s' I') hf
theorem Inv.call' {s' : Shared} {ch : List Addr} (I : Inv X pins σ H s) (ho : s'.os = s.os) (u : Un (frs X.stack) ch H H' s.heap s'.heap) (hok : HOk X.prog X.w H' s'.heap) (hg : AllBare s'.gens)
    (hch : ∀ b ∈ ch, (b ∈ X.ex ∨ X.s₀.heap.objs.size ≤ b) ∧ b ≠ X.env.locals ∧ (∀ x c, X.env.cells.lookup x = some c → c ≠ b) ∧ ∀ p ∈ X.pn ++ pins, p.1 ≠ b) : Inv X pins σ H' s' := by
  obtain ⟨h', g', d', t', o'⟩ := s'
  have e : o' = s.os := ho
  subst e
  exact I.call (g' := g') (t' := t') (d' := d') u hok hg hch
end

abbrev XK := Value → Option Addr → Hp → Prop
abbrev St := List (Option V)
abbrev VK := V → Hp → Prop
abbrev TE := St → Hp → VK → Prop
abbrev TT := St → Hp → (Bool → Hp → Prop) → Prop
abbrev TA := St → Hp → (List V → Hp → Prop) → Prop
structure Ends where
  nx : St → Hp → Prop
  rt : VK
  bk : St → Hp → Prop := fun _ _ => False
  ct : St → Hp → Prop := fun _ _ => False
abbrev TS := Ends → St → Hp → Prop

def EP (X : Cx) (pins : List (Addr × Obj)) (σ : St) (Q : VK) (u : Value) (s' : Shared) : Prop := ∃ v H', Inv X pins σ H' s' ∧ RelV v u ∧ Q v H'
def TP (X : Cx) (pins : List (Addr × Obj)) (σ : St) (Q : Bool → Hp → Prop) (b : Bool) (s' : Shared) : Prop := ∃ H', Inv X pins σ H' s' ∧ Q b H'
def AP (X : Cx) (pins : List (Addr × Obj)) (σ : St) (Q : List V → Hp → Prop) (us : List Value) (s' : Shared) : Prop := ∃ vs H', Inv X pins σ H' s' ∧ Vals vs us ∧ Q vs H'
def SP (X : Cx) (pins : List (Addr × Obj)) (D : Ends) (f : Flow) (s' : Shared) : Prop :=
  match f with
  | .next => ∃ σ' H', Inv X pins σ' H' s' ∧ D.nx σ' H'
  | .brk => ∃ σ' H', Inv X pins σ' H' s' ∧ D.bk σ' H'
  | .cont => ∃ σ' H', Inv X pins σ' H' s' ∧ D.ct σ' H'
  | .ret u => ∃ v σ' H', Inv X pins σ' H' s' ∧ RelV v u ∧ D.rt v H'

def PE (X : Cx) (e : Expr) (t : TE) : Prop :=
  ∀ (pins : List (Addr × Obj)) (s : Shared) (σ : St) (H : Hp) (Q : VK), Inv X pins σ H s → t σ H Q → wpAny (model X.prog X.w) X.A (eval e X.env) (EP X pins σ Q) X.xe s
def PT (X : Cx) (e : Expr) (t : TT) : Prop :=
  ∀ (pins : List (Addr × Obj)) (s : Shared) (σ : St) (H : Hp) (Q : Bool → Hp → Prop), Inv X pins σ H s → t σ H Q → wpAny (model X.prog X.w) X.A (isTrue e X.env (eval e X.env)) (TP X pins σ Q) X.xe s
def PW (X : Cx) (e : Expr) (t : TT) : Prop :=
  ∀ (whole : Sem Value) (pins : List (Addr × Obj)) (s : Shared) (σ : St) (H : Hp) (Q : Bool → Hp → Prop), Inv X pins σ H s → t σ H Q → wpAny (model X.prog X.w) X.A (isTrue e X.env whole) (TP X pins σ Q) X.xe s
theorem PW.pt {X : Cx} {e : Expr} {t : TT} (h : PW X e t) : PT X e t := h _
def PA (X : Cx) (es : List Expr) (t : TA) : Prop :=
  ∀ (pos : Pos) (pins : List (Addr × Obj)) (s : Shared) (σ : St) (H : Hp) (Q : List V → Hp → Prop), Inv X pins σ H s → t σ H Q → wpAny (model X.prog X.w) X.A (spliced (backTo pos (starEach es X.env))) (AP X pins σ Q) X.xe s
def PS (X : Cx) (st : Stmt) (t : TS) : Prop :=
  ∀ (pins : List (Addr × Obj)) (s : Shared) (σ : St) (H : Hp) (D : Ends), Inv X pins σ H s → t D σ H → wpAny (model X.prog X.w) X.A (exec st X.env) (SP X pins D) X.xe s
def PSs (X : Cx) (st : List Stmt) (t : TS) : Prop :=
  ∀ (pins : List (Addr × Obj)) (s : Shared) (σ : St) (H : Hp) (D : Ends), Inv X pins σ H s → t D σ H → wpAny (model X.prog X.w) X.A (execs st X.env) (SP X pins D) X.xe s
theorem thn {α : Type} {t : Sem α} {Q Q' : α → Shared → Prop} {M : Model} {A : Around} {E : Value → Shared → Prop} {s : Shared} (h : wpAny M A t Q E s) (hQ : ∀ a s, Q a s → Q' a s) : wpAny M A t Q' E s := wpAny_mono h hQ fun _ _ x => x
end L2

namespace L2
open PySem PySem.Spec PyProof.Rows
section
variable {X : Cx}

def tVar (i : Nat) : TE := fun σ H Q => ∃ v, σ[i]? = some (some v) ∧ Q v H
def tC (v : V) : TE := fun _ H Q => Q v H
theorem pe_var {i : Nat} {x : Str} {pos : Pos} (hN : X.N[i]? = some x) (hv : Vis X.env.scope x) (hd : (x == ("__debug__" : Str)) = false := by decide) (hcd : (x == ("__classdict__" : Str)) = false := by decide) : PE X (.Name x pos) (tVar i) := by
  intro pins s σ H Q I h
  obtain ⟨v, e, h⟩ := h
  obtain ⟨m, hn, hl⟩ := I.loc
  obtain ⟨u, r, l⟩ := hl i x v hN e hv
  have fin : EP X pins σ Q u s := ⟨v, H, I, r, h⟩
  rcases l with ⟨hk, hm⟩ | ⟨hk, c, hc, hcell⟩
  · exact wpAny_Name (wpAny_loadName_local I.ok.kind hk hn hm fin) hd
  · rcases hk with hk | hk
    · exact wpAny_Name (wpAny_loadName_cell I.ok.kind hk hc hcell fin) hd
    · exact wpAny_Name (wpAny_loadName_free I.ok.kind hk hc hcell fin hcd) hd
theorem pe_int {i j pos} : PE X (.Constant (.int i) j pos) (tC (.int i)) := fun _ _ _ H _ I h => wpAny_Constant_int ⟨.int i, H, I.tok _, ⟨_, rfl⟩, h⟩
theorem pe_bl {b j pos} : PE X (.Constant (.bool b) j pos) (tC (.bl b)) := fun _ _ _ H _ I h => Constant_bool ⟨.bl b, H, I, rfl, h⟩
theorem pe_non {j pos} : PE X (.Constant .none j pos) (tC .non) := fun _ _ _ H _ I h => Constant_none ⟨.non, H, I, rfl, h⟩
def Gl (X : Cx) (x : Str) : Prop := X.env.kindOf x = some .globalImplicit
theorem ld_glob {E : Value → Shared → Prop} {pins : List (Addr × Obj)} {s : Shared} {σ : St} {H : Hp} {x : Str} {u : Value} {pos : Pos} {Q : Value → Shared → Prop} (I : Inv X pins σ H s) (hg : Gl X x) (hm : X.mg x = some u) (h : Q u s)
    (hd : (x == ("__debug__" : Str)) = false := by decide) : wpAny (model X.prog X.w) X.A (eval (.Name x pos) X.env) Q E s :=
  Calls.Name_function_global I.ok.kind hg (Calls.loadGlobal_global (by rw [I.ok.glob]; exact I.mod.glob.keeps I.bk) hm h) hd
theorem ld_blt {E : Value → Shared → Prop} {pins : List (Addr × Obj)} {s : Shared} {σ : St} {H : Hp} {x : Str} {u : Value} {pos : Pos} {Q : Value → Shared → Prop} (I : Inv X pins σ H s) (hg : Gl X x) (hm : X.mg x = none) (hv : bootBuiltins x = some u) (h : Q u s)
    (hn : x ≠ "__name__" := by decide) (hd : (x == ("__debug__" : Str)) = false := by decide) : wpAny (model X.prog X.w) X.A (eval (.Name x pos) X.env) Q E s := by
  obtain ⟨mb, h1, h2⟩ := I.mod.blt
  exact Calls.Name_function_global I.ok.kind hg (Calls.loadGlobal_builtin (by rw [I.ok.glob]; exact I.mod.glob.keeps I.bk) hm (by rw [I.ok.blt]; exact h1.keeps I.bk) ((h2 x hn).trans hv) h) hd
theorem pe_glob {x : Str} {v : V} {u : Value} {pos : Pos} (hg : Gl X x) (hm : X.mg x = some u) (r : RelV v u) (hd : (x == ("__debug__" : Str)) = false := by decide) : PE X (.Name x pos) (tC v) :=
  fun _ _ _ H _ I h => ld_glob I hg hm ⟨v, H, I, r, h⟩ hd
theorem pe_bltn {x : Str} {v : V} {u : Value} {pos : Pos} (hg : Gl X x) (hm : X.mg x = none) (hv : bootBuiltins x = some u) (r : RelV v u) (hn : x ≠ "__name__" := by decide) (hd : (x == ("__debug__" : Str)) = false := by decide) : PE X (.Name x pos) (tC v) :=
  fun _ _ _ H _ I h => ld_blt I hg hm hv ⟨v, H, I, r, h⟩ hn hd

variable {a b : Expr} {ta tb : TE} {pos : Pos}
def tB (t : TE) : TT := fun σ H Q => t σ H fun x H1 => ∃ c, x = .bl c ∧ Q c H1
theorem pt_val {e : Expr} {t : TE} (h : PE X e t) (he : ∀ whole, isTrue e X.env whole = (do let v ← whole; standAt e.pos; holding [v] (truthy v)) := by intro _; rfl) : PT X e (tB t) := by
  intro pins s σ H Q I hw
  refine isTrue_plain (thn (h pins s σ H _ I hw) fun v s1 ⟨x, H1, I1, r1, q1⟩ => ?_) (he _)
  obtain ⟨d, rfl, q⟩ := q1
  cases r1
  exact wpAny_truthy_bool ⟨H1, I1, q⟩

variable {tA tB' : TT} {rest : List Expr}
def tAnd (t u : TT) : TT := fun σ H Q => t σ H fun c H1 => if c = true then u σ H1 Q else Q false H1
def tOr (t u : TT) : TT := fun σ H Q => t σ H fun c H1 => if c = true then Q true H1 else u σ H1 Q
def tNot (t : TT) : TT := fun σ H Q => t σ H fun c H1 => Q (!c) H1
theorem pw_and1 (ha : PT X a tA) : PW X (.BoolOp .And [a] pos) tA := by
  intro wh pins s σ H Q I h
  refine isTrue_and (thn (ha pins s σ H Q I h) fun c s1 e => ?_)
  cases c with
  | true => exact isTrue_and_nil e
  | false => exact e
theorem pw_or1 (ha : PT X a tA) : PW X (.BoolOp .Or [a] pos) tA := by
  intro wh pins s σ H Q I h
  refine isTrue_or (thn (ha pins s σ H Q I h) fun c s1 e => ?_)
  cases c with
  | false => exact isTrue_or_nil e
  | true => exact e
theorem pw_and (ha : PT X a tA) (hb : PW X (.BoolOp .And (b :: rest) pos) tB') : PW X (.BoolOp .And (a :: b :: rest) pos) (tAnd tA tB') := by
  intro wh pins s σ H Q I h
  refine isTrue_and (thn (ha pins s σ H _ I h) fun c s1 ⟨H1, I1, q1⟩ => ?_)
  cases c with
  | true => exact hb wh pins s1 σ H1 Q I1 q1
  | false => exact ⟨H1, I1, q1⟩
theorem pw_or (ha : PT X a tA) (hb : PW X (.BoolOp .Or (b :: rest) pos) tB') : PW X (.BoolOp .Or (a :: b :: rest) pos) (tOr tA tB') := by
  intro wh pins s σ H Q I h
  refine isTrue_or (thn (ha pins s σ H _ I h) fun c s1 ⟨H1, I1, q1⟩ => ?_)
  cases c with
  | true => exact ⟨H1, I1, q1⟩
  | false => exact hb wh pins s1 σ H1 Q I1 q1
theorem pt_not (ha : PT X a tA) : PT X (.UnaryOp .Not a pos) (tNot tA) := by
  intro pins s σ H Q I h
  exact isTrue_not (ha pins s σ H (fun c H1 => Q (!c) H1) I h)
def tAndV (ta tb : TE) : TE := fun σ H Q => ta σ H fun x H1 => ∃ c, x = .bl c ∧ if c = true then tb σ H1 Q else Q (.bl false) H1
def tNotV (ta : TE) : TE := fun σ H Q => ta σ H fun x H1 => ∃ c, x = .bl c ∧ Q (.bl (!c)) H1
theorem pe_one {op} {t : TE} (h : PE X a t) : PE X (.BoolOp op [a] pos) t := fun pins s σ H Q I hw => BoolOp_one (h pins s σ H Q I hw)
theorem pe_and (ha : PE X a ta) (hb : PE X (.BoolOp .And (b :: rest) pos) tb) : PE X (.BoolOp .And (a :: b :: rest) pos) (tAndV ta tb) := by
  intro pins s σ H Q I h
  refine BoolOp_and (thn (ha pins s σ H _ I h) fun v s1 ⟨x, H1, I1, r1, q1⟩ => ?_)
  obtain ⟨c, rfl, q1⟩ := q1
  cases r1
  refine wpAny_truthy_bool ?_
  cases c with
  | true => exact hb pins s1 σ H1 Q I1 q1
  | false => exact ⟨.bl false, H1, I1, rfl, q1⟩
theorem pe_not (ha : PE X a ta) : PE X (.UnaryOp .Not a pos) (tNotV ta) := by
  intro pins s σ H Q I h
  refine UnaryOp_ (thn (ha pins s σ H _ I h) fun v s1 ⟨x, H1, I1, r1, q1⟩ => ?_)
  obtain ⟨c, rfl, q1⟩ := q1
  cases r1
  exact not_of (wpAny_truthy_bool ⟨.bl (!c), H1, I1, rfl, q1⟩)
end
end L2

namespace L2
open PySem PySem.Spec PyProof.Rows

def SqL (K : PySem.W.Frag) (H : Hp) (a : Addr) (xs : List V) : Prop :=
  Rd H a (.lst xs) ∨
    ∃ (o : Obj) (its : Array Value) (n : Nat), K.lookup a = some o ∧ o.cls = .type "list" ∧ o.dict = none ∧ o.data = .seq its n ∧ its.size ≤ sizeLine ∧ Vals xs its.toList
def SqT (K : PySem.W.Frag) (H : Hp) (a : Addr) (xs : List V) : Prop :=
  Rd H a (.tup xs) ∨
    ∃ (o : Obj) (its : Array Value) (n : Nat), K.lookup a = some o ∧ o.cls = .type "tuple" ∧ o.data = .seq its n ∧ its.size ≤ sizeLine ∧ Vals xs its.toList
def absV : Value → Option V
  | .none => some .non
  | .bool b => some (.bl b)
  | .int i _ => some (.int i)
  | .str x _ => some (.str x)
  | .bytes b _ => some (.byt b)
  | .float b _ => some (.flt b)
  | .ref a => some (.ref a)
  | .type n => some (.ty n)
  | _ => none
theorem RelV.abs {x : V} {u : Value} (r : RelV x u) : absV u = some x := by
  cases x with
  | non => cases r; rfl
  | bl _ => cases r; rfl
  | int _ => obtain ⟨t, rfl⟩ := r; rfl
  | str _ => obtain ⟨t, rfl⟩ := r; rfl
  | byt _ => obtain ⟨t, rfl⟩ := r; rfl
  | flt _ => obtain ⟨t, rfl⟩ := r; rfl
  | ref _ => cases r; rfl
  | ty _ => cases r; rfl
theorem RelV.inj {x y : V} {u : Value} (r : RelV x u) (q : RelV y u) : x = y := Option.some.inj (r.abs.symm.trans q.abs)
theorem Vals.inj : ∀ {xs ys : List V} {us : List Value}, Vals xs us → Vals ys us → xs = ys
  | _, _, _, .nil, .nil => rfl
  | _, _, _, .cons r t, .cons r' t' => by rw [r.inj r', Vals.inj t t']
section
variable {X : Cx} {pins : List (Addr × Obj)} {σ : St} {H : Hp} {s : Shared} {a : Addr} {xs ys : List V}
theorem SqL.of {K : PySem.W.Frag} (h : H a = some (.lst xs)) : SqL K H a xs := .inl (.inl h)
theorem SqT.of {K : PySem.W.Frag} (h : H a = some (.tup xs)) : SqT K H a xs := .inl (.inl h)
theorem Inv.list (I : Inv X pins σ H s) (h : SqL X.K H a xs) : ∃ its : List Value, Vals xs its ∧ PlainL s.heap a its.toArray ∧ xs.length ≤ sizeLine := by
  rcases h with h | ⟨o, its, n, hk, hc, hd, hs, hz, r⟩
  · obtain ⟨z, its, n, r, e⟩ := h.ok I.hok
    exact ⟨its, r, ⟨_, n, e, rfl, rfl, rfl⟩, z⟩
  · refine ⟨its.toList, r, ⟨o, n, I.kIn a o hk, hc, hd, by simpa using hs⟩, ?_⟩
    have e := r.length
    simp only [Array.length_toList] at e
    lia
theorem Inv.tuple (I : Inv X pins σ H s) (h : SqT X.K H a xs) : ∃ its : List Value, Vals xs its ∧ IsTup s.heap a its.toArray ∧ xs.length ≤ sizeLine := by
  rcases h with h | ⟨o, its, n, hk, hc, hs, hz, r⟩
  · obtain ⟨z, its, r, p⟩ := h.ok I.hok
    exact ⟨its, r, p, z⟩
  · refine ⟨its.toList, r, ⟨o, I.kIn a o hk, hc, n, by simpa using hs⟩, ?_⟩
    have e := r.length
    simp only [Array.length_toList] at e
    lia
theorem Inv.list_inj (I : Inv X pins σ H s) (h : SqL X.K H a xs) (h' : SqL X.K H a ys) : xs = ys := by
  obtain ⟨its, r, ⟨o, n, e, _, _, d⟩, _⟩ := I.list h
  obtain ⟨its', r', ⟨o', n', e', _, _, d'⟩, _⟩ := I.list h'
  rw [e] at e'; cases e'
  rw [d] at d'
  injection d' with d1 _
  have : its = its' := by simpa using congrArg Array.toList d1
  subst this
  exact r.inj r'
theorem Inv.tuple_inj (I : Inv X pins σ H s) (h : SqT X.K H a xs) (h' : SqT X.K H a ys) : xs = ys := by
  obtain ⟨its, r, ⟨o, e, _, n, d⟩, _⟩ := I.tuple h
  obtain ⟨its', r', ⟨o', e', _, n', d'⟩, _⟩ := I.tuple h'
  rw [e] at e'; cases e'
  rw [d] at d'
  injection d' with d1 _
  have : its = its' := by simpa using congrArg Array.toList d1
  subst this
  exact r.inj r'
end

abbrev Cx.wish (X : Cx) (E : Value → Shared → Prop) : Cx := { X with xe := E }
abbrev Cx.nox (X : Cx) : Cx := X.wish fun _ _ => False
theorem Cx.Ok.wish {X : Cx} (ok : X.Ok) (E : Value → Shared → Prop) : (X.wish E).Ok :=
  ⟨ok.mod, ok.kind, ok.glob, ok.blt, ok.above, ok.inj, ok.has, ok.cab, ok.hd, ok.frames, ok.stk, ok.exf, ok.bs, ok.bsz, ok.noex, ok.exfs, ok.funs, ok.frf⟩
theorem Cx.Ok.unwish {X : Cx} {E : Value → Shared → Prop} (ok : (X.wish E).Ok) : X.Ok :=
  ⟨ok.mod, ok.kind, ok.glob, ok.blt, ok.above, ok.inj, ok.has, ok.cab, ok.hd, ok.frames, ok.stk, ok.exf, ok.bs, ok.bsz, ok.noex, ok.exfs, ok.funs, ok.frf⟩
section
variable {X : Cx} {pins : List (Addr × Obj)} {σ : St} {H : Hp} {s : Shared} {E : Value → Shared → Prop}
theorem Inv.wish (I : Inv X pins σ H s) (E : Value → Shared → Prop) : Inv (X.wish E) pins σ H s := ⟨I.ok.wish E, I.os, I.bare, I.base, I.loc, I.cell, I.free, I.freeC, I.pin, I.hok, I.len⟩
theorem Inv.unwish (I : Inv (X.wish E) pins σ H s) : Inv X pins σ H s := ⟨I.ok.unwish, I.os, I.bare, I.base, I.loc, I.cell, I.free, I.freeC, I.pin, I.hok, I.len⟩
theorem SP.unwish {D : Ends} {f : Flow} {s' : Shared} (h : SP (X.wish E) pins D f s') : SP X pins D f s' := by
  cases f with
  | next => obtain ⟨σ', H', I, q⟩ := h; exact ⟨σ', H', I.unwish, q⟩
  | brk => obtain ⟨σ', H', I, q⟩ := h; exact ⟨σ', H', I.unwish, q⟩
  | cont => obtain ⟨σ', H', I, q⟩ := h; exact ⟨σ', H', I.unwish, q⟩
  | ret u => obtain ⟨v, σ', H', I, r, q⟩ := h; exact ⟨v, σ', H', I.unwish, r, q⟩
theorem PSs.nox {st : List Stmt} {t : TS} (h : PSs X.nox st t) : PSs X st t := fun pins s σ H D I hw =>
  wpAny_mono (h pins s σ H D (I.wish _) hw) (fun _ _ q => q.unwish) fun _ _ z => False.elim z
end

section
variable {X : Cx} {st : Stmt} {rest : List Stmt} {t u : TS} {e : Expr} {te : TE} {pos : Pos}
def tNext : TS := fun D σ H => D.nx σ H
def tSeq (t u : TS) : TS := fun D σ H => t { D with nx := u D } σ H
theorem pss_nil : PSs X [] tNext := fun _ _ σ H _ I h => wpAny_execs_nil ⟨σ, H, I, h⟩
theorem pss_cons (h1 : PS X st t) (h2 : PSs X rest u) : PSs X (st :: rest) (tSeq t u) := by
  intro pins s σ H D I h
  refine wpAny_execs_cons (thn (h1 pins s σ H { D with nx := u D } I h) fun f s1 q => ?_)
  cases f with
  | next =>
    obtain ⟨σ', H', I', q⟩ := q
    exact h2 pins s1 σ' H' D I' q
  | ret v => exact q
  | brk => exact q
  | cont => exact q
theorem pss_one (h1 : PS X st t) : PSs X [st] t := by
  intro pins s σ H D I h
  refine wpAny_execs_cons (thn (h1 pins s σ H D I h) fun f s1 q => ?_)
  cases f with
  | next => exact wpAny_execs_nil q
  | ret v => exact q
  | brk => exact q
  | cont => exact q
theorem Inv.quiet {pins : List (Addr × Obj)} {σ : St} {H : Hp} {s : Shared} (I : Inv X pins σ H s) : interactive X.env = false := by simp [interactive, I.ok.kind]
def tDrop (te : TE) : TS := fun D σ H => te σ H fun _ H1 => D.nx σ H1
theorem ps_expr (he : PE X e te) (hs : swapsWith e none pos.line X.env = pure false := by rfl) : PS X (.Expr e pos) (tDrop te) := by
  intro pins s σ H D I h
  exact wpAny_Expr_any (thn (he pins s σ H _ I h) fun v s1 ⟨x, H1, I1, r1, q1⟩ => ⟨σ, H1, I1, q1⟩) I.quiet hs
def tRet (te : TE) : TS := fun D σ H => te σ H D.rt
theorem ps_ret (he : PE X e te) : PS X (.Return (some e) pos) (tRet te) := by
  intro pins s σ H D I h
  exact wpAny_Return_some (thn (he pins s σ H _ I h) fun v s1 ⟨x, H1, I1, r1, q1⟩ => ⟨x, σ, H1, I1, r1, q1⟩)
def tRetN : TS := fun D _ H => D.rt .non H
theorem ps_retN : PS X (.Return none pos) tRetN := fun _ _ σ H _ I h => wpAny_Return_none ⟨.non, σ, H, I, rfl, h⟩
def tIfS (c : TT) (t u : TS) : TS := fun D σ H => c σ H fun b H1 => if b = true then t D σ H1 else u D σ H1
theorem ps_if {c : Expr} {a b : List Stmt} {tc : TT} (hc : PT X c tc) (ha : PSs X a t) (hb : PSs X b u) : PS X (.If c a b pos) (tIfS tc t u) := by
  intro pins s σ H D I h
  refine wpAny_If (thn (hc pins s σ H _ I h) fun d s1 ⟨H1, I1, q1⟩ => ?_)
  cases d with
  | true => exact ha pins s1 σ H1 D I1 q1
  | false => exact hb pins s1 σ H1 D I1 q1
def tNever : TS := fun _ _ _ => False
theorem ps_never : PS X st tNever := fun _ _ _ _ _ _ h => h.elim
end

abbrev TG := V → St → Hp → (St → Hp → Prop) → Prop
abbrev TGs := List V → St → Hp → (St → Hp → Prop) → Prop
def PG (X : Cx) (target : Expr) (t : TG) : Prop :=
  ∀ (pins : List (Addr × Obj)) (s : Shared) (σ : St) (H : Hp) (v : V) (u : Value) (Q : St → Hp → Prop), Inv X pins σ H s → RelV v u → t v σ H Q →
    wpAny (model X.prog X.w) X.A (assign target X.env u) (fun _ s' => ∃ σ' H', Inv X pins σ' H' s' ∧ Q σ' H') X.xe s
def PGs (X : Cx) (ts : List Expr) (t : TGs) : Prop :=
  ∀ (pins : List (Addr × Obj)) (s : Shared) (σ : St) (H : Hp) (vs : List V) (us : List Value) (Q : St → Hp → Prop), Inv X pins σ H s → Vals vs us → t vs σ H Q →
    wpAny (model X.prog X.w) X.A (assignInOrder ((assignEach ts X.env).map (·.2)) us) (fun _ s' => ∃ σ' H', Inv X pins σ' H' s' ∧ Q σ' H') X.xe s
abbrev TSet := V → V → V → Hp → (Hp → Prop) → Prop
def PSet (X : Cx) (t : TSet) : Prop :=
  ∀ (pins : List (Addr × Obj)) (s : Shared) (σ : St) (H : Hp) (o i v : V) (ov iv u : Value) (Q : Hp → Prop), Inv X pins σ H s → RelV o ov → RelV i iv → RelV v u → t o i v H Q →
    wpAny (model X.prog X.w) X.A (setItem ov iv u) (fun _ s' => ∃ H', Inv X pins σ H' s' ∧ Q H') X.xe s
section
variable {X : Cx} {pos : Pos}
def gName (i : Nat) : TG := fun v σ H Q => Q (σ.set i (some v)) H
theorem pg_name {i : Nat} {x : Str} (hN : X.N.Nodup) (hi : X.N[i]? = some x) (hx : Loc X.env.scope x) (hf : X.fn x = true ∨ X.env.scope.names.lookup x = some .local := by first | exact .inl rfl | exact .inr rfl | assumption) : PG X (.Name x pos) (gName i) := by
  intro pins s σ H v u Q I r h
  exact wpAny_assign_Name (store_ok I hN hi hx r (fun s' I' => ⟨_, H, I', h⟩) hf)
def gNil : TGs := fun vs σ H Q => vs = [] ∧ Q σ H
def gCons (t : TG) (u : TGs) : TGs := fun vs σ H Q => ∃ v r, vs = v :: r ∧ t v σ H fun σ' H' => u r σ' H' Q
theorem pgs_nil : PGs X [] gNil := by
  intro pins s σ H vs us Q I r h
  obtain ⟨e, h⟩ := h
  subst e
  cases r
  exact assignInOrder_nil ⟨σ, H, I, h⟩
theorem pgs_cons {e : Expr} {es : List Expr} {t : TG} {u : TGs} (h1 : PG X e t) (h2 : PGs X es u)
    (hs : (assignEach (e :: es) X.env).map (·.2) = assign e X.env :: (assignEach es X.env).map (·.2) := by rfl) : PGs X (e :: es) (gCons t u) := by
  intro pins s σ H vs us Q I r h
  obtain ⟨v, vr, e1, h⟩ := h
  subst e1
  cases r with
  | cons r rr =>
    rw [hs]
    refine assignInOrder_cons (thn (h1 pins s σ H _ _ _ I r h) fun _ s1 ⟨σ1, H1, I1, q1⟩ => ?_)
    exact h2 pins s1 σ1 H1 _ _ Q I1 rr q1
def gTup (K : PySem.W.Frag) (n : Nat) (t : TGs) : TG := fun v σ H Q => ∃ a xs, v = .ref a ∧ SqT K H a xs ∧ xs.length = n ∧ t xs σ H Q
theorem pg_tup {es : List Expr} {k : Nat} {t : TGs} {n : Nat} (hc : X.calm = true) (h : PGs X es t)
    (hn : (assignEach es X.env).length = n := by rfl) (hst : (assignEach es X.env).findIdx? (·.1) = none := by rfl) : PG X (.Tuple es k pos) (gTup X.K n t) := by
  intro pins s σ H v u Q I r hw
  obtain ⟨a, xs, e1, hq, hl, hw⟩ := hw
  subst e1
  cases r
  obtain ⟨its, rv, ht, hz⟩ := I.tuple hq
  refine assign_Tuple_tuple (I.ok.hd hc) ht (by simp [hn, ← hl, rv.length]) hst fun h' hx => ?_
  have I1 : Inv X pins σ H { s with heap := h' } := I.kept (t' := s.toks) fun b o e => hx b o (Nat.ne_of_lt (Heap.lt_size e)) e
  exact h pins _ σ H xs _ Q I1 (by simpa using rv) hw
def gSub (to ti : TE) (t : TSet) : TG := fun v σ H Q => to σ H fun o H1 => ti σ H1 fun i H2 => t o i v H2 fun H3 => Q σ H3
theorem pg_sub {o i : Expr} {to ti : TE} {t : TSet} (ho : PE X o to) (hi : PE X i ti) (hs : PSet X t)
    (ha : ∀ v, assign (.Subscript o i pos) X.env v = (do
      let ov ← holding [v] (eval o X.env)
      let iv ← holding [v, ov] (eval i X.env)
      standAt pos
      holding [v, ov, iv] (setItem ov iv v)
      release [v, ov, iv] []) := by intro _; rfl) : PG X (.Subscript o i pos) (gSub to ti t) := by
  intro pins s σ H v u Q I r h
  rw [ha]
  refine wpAny_bind (wpAny_holding (thn (ho pins s σ H _ I h) fun ov s1 ⟨x, H1, I1, r1, q1⟩ => ?_))
  refine wpAny_bind (wpAny_holding (thn (hi pins s1 σ H1 _ I1 q1) fun iv s2 ⟨y, H2, I2, r2, q2⟩ => ?_))
  refine wpAny_bind (wpAny_standAt (wpAny_bind (wpAny_holding (thn (hs pins s2 σ H2 x y v ov iv u _ I2 r1 r2 r q2) fun _ s3 ⟨H3, I3, q3⟩ => ?_))))
  exact wpAny_release ⟨σ, H3, I3, q3⟩
def tAsg (te : TE) (g : TG) : TS := fun D σ H => te σ H fun x H1 => g x σ H1 D.nx
theorem ps_asg {tg e : Expr} {te : TE} {g : TG} (he : PE X e te) (hg : PG X tg g) (hs : swapsWithSole [tg] e pos.line X.env = pure false := by rfl) (hw : swappedStores [tg] e X.env = pure none := by rfl)
    (h1 : (assignEach [tg] X.env).map (·.2) = [assign tg X.env] := by rfl) : PS X (.Assign [tg] e pos) (tAsg te g) := by
  intro pins s σ H D I h
  refine wpAny_Assign_stores (thn (he pins s σ H _ I h) fun v s1 ⟨x, H1, I1, r1, q1⟩ => ?_) hs hw
  rw [h1]
  exact thn (hg pins s1 σ H1 x v _ I1 r1 q1) fun _ s2 q => q
theorem ps_set {i : Nat} {x : Str} {e : Expr} {te : TE} {pos' : Pos} (hN : X.N.Nodup) (hi : X.N[i]? = some x) (hx : Loc X.env.scope x) (he : PE X e te) (hs : swapsWith e (some (.Name x pos')) pos.line X.env = pure false := by rfl) (hf : X.fn x = true ∨ X.env.scope.names.lookup x = some .local := by first | exact .inl rfl | exact .inr rfl | assumption) :
    PS X (.Assign [.Name x pos'] e pos) (tAsg te (gName i)) := by
  intro pins s σ H D I h
  refine wpAny_Assign_Name (thn (he pins s σ H _ I h) fun v s1 ⟨y, H1, I1, r1, q1⟩ => ?_) hs
  exact store_ok I1 hN hi hx r1 (fun s2 I2 => ⟨_, H1, I2, q1⟩) hf
end

section
variable {X : Cx} {pos : Pos}
def tWhile (c : TT) (tb : TS) : TS := fun D σ H => ∃ W : Nat → St → Hp → Prop, (∃ m, W m σ H) ∧ ∀ m σ H, W m σ H →
  c σ H fun b H1 => if b = true then ∃ N : St → Hp → Prop, (∀ σ' H', N σ' H' → ∃ m', m' < m ∧ W m' σ' H') ∧ tb { D with nx := N, ct := N, bk := D.nx } σ H1 else D.nx σ H1
theorem ps_while {c : Expr} {body : List Stmt} {tc : TT} {tb : TS} (hp : PassesOwn (model X.prog X.w) X.A X.env X.xe) (hc : PT X c tc) (hb : PSs X body tb) : PS X (.While c body [] pos) (tWhile tc tb) := by
  intro pins s σ H D I h
  obtain ⟨W, ⟨m0, w0⟩, turn⟩ := h
  refine wpAny_While (codeAny_whileLoop (fun n s' => ∃ σ' H', Inv X pins σ' H' s' ∧ W n σ' H') ?_ m0 ⟨σ, H, I, w0⟩)
  rintro n s1 ⟨σ1, H1, I1, w1⟩
  refine wpAny_passesOwn hp (thn (hc pins s1 σ1 H1 _ I1 (turn n σ1 H1 w1)) fun b s2 ⟨H2, I2, q2⟩ => ?_)
  cases b with
  | true =>
    obtain ⟨N, hN, q2⟩ := q2
    rw [if_pos rfl]
    refine wpAny_passesOwn hp (thn (hb pins s2 σ1 H2 _ I2 q2) fun f s3 q3 => ?_)
    cases f with
    | next =>
      obtain ⟨σ3, H3, I3, n3⟩ := q3
      obtain ⟨m', hm, w3⟩ := hN σ3 H3 n3
      exact ⟨m', hm, σ3, H3, I3, w3⟩
    | cont =>
      obtain ⟨σ3, H3, I3, n3⟩ := q3
      obtain ⟨m', hm, w3⟩ := hN σ3 H3 n3
      exact ⟨m', hm, σ3, H3, I3, w3⟩
    | brk => exact q3
    | ret v => exact q3
  | false =>
    rw [if_neg Bool.false_ne_true]
    exact wpAny_execs_nil ⟨σ1, H2, I2, q2⟩
end

structure It where
  go : Nat → Hp → Prop
  yld : Nat → Hp → V → Hp → Prop
  stop : Nat → Hp → Prop
def FpOk (X : Cx) (pins : List (Addr × Obj)) (H : Hp) (b : Addr) : Prop :=
  H b = none ∧ b ≠ X.env.locals ∧ b ∉ X.fs ∧ (b ∈ X.ex ∨ X.s₀.heap.objs.size ≤ b) ∧ (∀ x c, X.env.cells.lookup x = some c → c ≠ b) ∧ ∀ p ∈ X.pn ++ pins, p.1 ≠ b
theorem Inv.fpOk {X : Cx} {pins : List (Addr × Obj)} {σ : St} {H H' : Hp} {s : Shared} {b : Addr} (I : Inv X pins σ H s) (hb : s.heap.objs.size ≤ b) (hn : H' b = none) : FpOk X pins H' b := by
  refine ⟨hn, Nat.ne_of_gt (Nat.lt_of_lt_of_le I.lt hb), I.nofs hb, .inr (Nat.le_trans I.sz hb), fun x c e z => ?_, fun p hp z => ?_⟩
  · obtain ⟨v, q⟩ := I.cell x c e
    exact absurd (Nat.lt_of_lt_of_le q.lt (by rw [z]; exact hb)) (Nat.lt_irrefl _)
  · exact absurd (Nat.lt_of_lt_of_le (Heap.lt_size (I.pin p hp).1) (by rw [z]; exact hb)) (Nat.lt_irrefl _)
structure Turn (P : Program) (w : World) (K : PySem.W.Frag) (tg : Expr) (J : It) (fp : List Addr) (it : Addr) (tn : Nat → Heap → Prop) : Prop where
  mem : it ∈ fp
  obj : ∀ i h, tn i h → ∀ b ∈ fp, ∃ o, h.get? b = some o ∧ ∀ v, o.data ≠ .cell v
  keep : ∀ i h h', tn i h → (∀ b ∈ fp, ∀ o, h.get? b = some o → h'.get? b = some o) → tn i h'
  item : ∀ (X : Cx), X.prog = P → X.w = w → X.K = K → X.calm = true → ∀ (i : Nat) (pins : List (Addr × Obj)) (s : Shared) (σ : St) (H : Hp) (E : Value → Shared → Prop), Inv X pins σ H s → (∀ b ∈ fp, FpOk X pins H b) → tn i s.heap → J.go i H →
    wpAny (model P w) X.A (pyNext (.ref it)) (fun r s1 => ∃ u, r = some u ∧
      wpAny (model P w) X.A (letOwnedTupleGo tg (.ref it) u) (fun _ s2 => ∃ x H', Inv X pins σ H' s2 ∧ RelV x u ∧ J.yld i H x H' ∧ tn (i + 1) s2.heap ∧ ∀ b ∈ fp, H' b = none) E s1) E s
  done : ∀ (X : Cx), X.prog = P → X.w = w → X.K = K → X.calm = true → ∀ (i : Nat) (pins : List (Addr × Obj)) (s : Shared) (σ : St) (H : Hp) (E : Value → Shared → Prop), Inv X pins σ H s → (∀ b ∈ fp, FpOk X pins H b) → tn i s.heap → J.stop i H →
    wpAny (model P w) X.A (pyNext (.ref it)) (fun r s1 => r = none ∧ Inv X pins σ H s1) E s
  self : ∀ (A : Around) (i : Nat) (s : Shared) (Q : Value → Shared → Prop) (E : Value → Shared → Prop), tn i s.heap → Q (.ref it) s → wpAny (model P w) A (pyIter (.ref it)) Q E s
abbrev TI := St → Hp → (It → Hp → Prop) → Prop
def PIE (X : Cx) (pins : List (Addr × Obj)) (σ : St) (tg : Expr) (R : It → Hp → Prop) (itv : Value) (s2 : Shared) : Prop :=
  ∃ (it : Addr) (fp : List Addr) (tn : Nat → Heap → Prop) (J : It) (H' : Hp), itv = .ref it ∧ Inv X pins σ H' s2 ∧ Turn X.prog X.w X.K tg J fp it tn ∧ tn 0 s2.heap ∧ (∀ b ∈ fp, FpOk X pins H' b) ∧ R J H'
def PI (X : Cx) (tg iter : Expr) (wi : TI) : Prop :=
  ∀ (pins : List (Addr × Obj)) (s : Shared) (σ : St) (H : Hp) (R : It → Hp → Prop), Inv X pins σ H s → wi σ H R →
    wpAny (model X.prog X.w) X.A (eval iter X.env) (fun v s1 => wpAny (model X.prog X.w) X.A (pyIter v) (PIE X pins σ tg R) X.xe s1) X.xe s

theorem go_of {M : Model} {A : Around} {E : Value → Shared → Prop} {s : Shared} {tg : Expr} {it : Addr} {u : Value} {o : Obj} {n : String} {vs : Array Value} {Q : Unit → Shared → Prop} (ho : s.heap.get? it = some o) (hc : o.cls = .type n) (hd : o.data = .fields vs)
    (hn : ["enumerate", "zip", "dict_itemiterator", "dict_reverseitemiterator", "odict_iterator", "itertools.zip_longest", "itertools.pairwise"].contains n = false) (hQ : Q () s) : wpAny M A (letOwnedTupleGo tg (.ref it) u) Q E s := by
  unfold letOwnedTupleGo
  cases tg <;> first
    | exact wpAny_pure hQ
    | (cases u <;> first
        | exact wpAny_pure hQ
        | (refine wpAny_bind (wpAny_load ho ?_)
           rw [hc, hd]
           show wpAny M A (if (["enumerate", "zip", "dict_itemiterator", "dict_reverseitemiterator", "odict_iterator", "itertools.zip_longest", "itertools.pairwise"].contains n && vs[0]? == some (rawInt _)) = true then _ else _) Q E s
           rw [if_neg (by intro h; rw [hn, Bool.false_and] at h; cases h)]
           exact wpAny_pure hQ))

def Itl (K : PySem.W.Frag) (a : Addr) : It :=
  ⟨fun i H => ∃ xs x, SqL K H a xs ∧ xs[i]? = some x, fun i H x H' => H' = H ∧ ∀ xs, SqL K H a xs → xs[i]? = some x, fun i H => ∃ xs, SqL K H a xs ∧ xs.length ≤ i⟩
def Itt (K : PySem.W.Frag) (a : Addr) : It :=
  ⟨fun i H => ∃ xs x, SqT K H a xs ∧ xs[i]? = some x, fun i H x H' => H' = H ∧ ∀ xs, SqT K H a xs → xs[i]? = some x, fun i H => ∃ xs, SqT K H a xs ∧ xs.length ≤ i⟩
def Itr (lo : Int) (n : Nat) : It := ⟨fun i _ => i < n, fun i H x H' => H' = H ∧ x = .int (lo + i), fun i _ => n ≤ i⟩
theorem turn_list {P : Program} {w : World} {K : PySem.W.Frag} {tg : Expr} (a it : Addr) : Turn P w K tg (Itl K a) [it] it (fun i h => h.IsListIter it a i) where
  mem := by simp
  obj := fun i h st b hb => by
    have e : b = it := by simpa using hb
    subst e
    obtain ⟨o, e, c, d⟩ := st
    exact ⟨o, e, fun v z => by rw [d] at z; cases z⟩
  keep := fun i h h' st k => st.at fun o e => k it (by simp) o e
  item := by
    intro X hP hw hK hc i pins s σ H E I hf st hg
    subst hP hw hK
    obtain ⟨xs, x, hq, hx⟩ := hg
    obtain ⟨its, rv, p, hz⟩ := I.list hq
    obtain ⟨u, hu, ru⟩ := rv.get hx
    obtain ⟨f0, f1, f2, f3, f4, f5⟩ := hf it (by simp)
    refine wpAny_pyNext_list_item st p.isList (x := u) (by simpa using hu) fun h' st' sb => ?_
    have I1 : Inv X pins σ H { s with heap := h' } := I.turned (t' := s.toks) (fun b o hb e => (sb.2 b hb).trans e) f0 f1 f3 f4 f5
    obtain ⟨o, e, c, d⟩ := id st'
    exact ⟨u, rfl, go_of (s := { s with heap := h' }) e c d (by decide) ⟨x, H, I1, ru, ⟨rfl, fun ys hy => by rw [I.list_inj hy hq]; exact hx⟩, st', fun b hb => (hf b hb).1⟩⟩
  done := by
    intro X hP hw hK hc i pins s σ H E I hf st hg
    subst hP hw hK
    obtain ⟨xs, hq, hx⟩ := hg
    obtain ⟨its, rv, p, hz⟩ := I.list hq
    obtain ⟨f0, f1, f2, f3, f4, f5⟩ := hf it (by simp)
    have hl := rv.length
    exact wpAny_pyNext_list_end (I.ok.hd hc) st p.isList (by simp; lia) fun h' eb => ⟨rfl, I.turned (t' := s.toks) (fun b o hb e => eb b o hb e) f0 f1 f3 f4 f5⟩
  self := fun _ _ _ _ _ st h => wpAny_pyIter_listiter st h
theorem turn_tuple {P : Program} {w : World} {K : PySem.W.Frag} {tg : Expr} (a it : Addr) : Turn P w K tg (Itt K a) [it] it (fun i h => h.IsTupleIter it a i) where
  mem := by simp
  obj := fun i h st b hb => by
    have e : b = it := by simpa using hb
    subst e
    obtain ⟨o, e, c, d⟩ := st
    exact ⟨o, e, fun v z => by rw [d] at z; cases z⟩
  keep := fun i h h' st k => st.at fun o e => k it (by simp) o e
  item := by
    intro X hP hw hK hc i pins s σ H E I hf st hg
    subst hP hw hK
    obtain ⟨xs, x, hq, hx⟩ := hg
    obtain ⟨its, rv, p, hz⟩ := I.tuple hq
    obtain ⟨u, hu, ru⟩ := rv.get hx
    obtain ⟨f0, f1, f2, f3, f4, f5⟩ := hf it (by simp)
    refine wpAny_pyNext_tuple_item st (show s.heap.IsTuple a its.toArray from p) (x := u) (by simpa using hu) fun h' st' sb => ?_
    have I1 : Inv X pins σ H { s with heap := h' } := I.turned (t' := s.toks) (fun b o hb e => (sb.2 b hb).trans e) f0 f1 f3 f4 f5
    obtain ⟨o, e, c, d⟩ := id st'
    exact ⟨u, rfl, go_of (s := { s with heap := h' }) e c d (by decide) ⟨x, H, I1, ru, ⟨rfl, fun ys hy => by rw [I.tuple_inj hy hq]; exact hx⟩, st', fun b hb => (hf b hb).1⟩⟩
  done := by
    intro X hP hw hK hc i pins s σ H E I hf st hg
    subst hP hw hK
    obtain ⟨xs, hq, hx⟩ := hg
    obtain ⟨its, rv, p, hz⟩ := I.tuple hq
    obtain ⟨f0, f1, f2, f3, f4, f5⟩ := hf it (by simp)
    have hl := rv.length
    exact wpAny_pyNext_tuple_end (I.ok.hd hc) st (show s.heap.IsTuple a its.toArray from p) (by simp; lia) fun h' eb => ⟨rfl, I.turned (t' := s.toks) (fun b o hb e => eb b o hb e) f0 f1 f3 f4 f5⟩
  self := fun _ _ _ _ _ st h => wpAny_pyIter_tupleiter st h
theorem turn_range {P : Program} {w : World} {K : PySem.W.Frag} {tg : Expr} (it : Addr) (lo : Int) (n : Nat) : Turn P w K tg (Itr lo n) [it] it (fun i h => IsRangeIter h it (lo + (i : Nat) * 1) ((n : Int) - (i : Nat)) 1) where
  mem := by simp
  obj := fun i h st b hb => by
    have e : b = it := by simpa using hb
    subst e
    exact ⟨_, st, fun v z => by
      have z' : Data.fields _ = Data.cell v := z
      cases z'⟩
  keep := fun i h h' st k => k it (by simp) _ st
  item := by
    intro X hP hw hK hc i pins s σ H E I hf st hg
    subst hP hw hK
    obtain ⟨f0, f1, f2, f3, f4, f5⟩ := hf it (by simp)
    have W := Walks.range (prog := X.prog) (w := X.w) (I.ok.hd hc) it lo 1 n
    refine W.item i s _ _ hg st fun v h' tk hv st' kk => ?_
    obtain ⟨t, rfl⟩ := hv
    have I1 : Inv X pins σ H { s with heap := h', toks := tk } := I.turned (fun b o hb e => kk b o (by simpa using hb) e) f0 f1 f3 f4 f5
    refine ⟨_, rfl, go_of (s := { s with heap := h', toks := tk }) (n := "range_iterator") st' rfl rfl (by decide) ⟨.int (lo + i), H, I1, ⟨t, ?_⟩, ⟨rfl, rfl⟩, st', fun b hb => (hf b hb).1⟩⟩
    rw [Int.mul_one]
  done := by
    intro X hP hw hK hc i pins s σ H E I hf st hg
    subst hP hw hK
    obtain ⟨f0, f1, f2, f3, f4, f5⟩ := hf it (by simp)
    exact wpAny_pyNext_range_end (I.ok.hd hc) st (by have : n ≤ i := hg; lia) fun h' eb => ⟨rfl, I.turned (t' := s.toks) (fun b o hb e => eb b o hb e) f0 f1 f3 f4 f5⟩
  self := fun _ _ _ _ _ st h => wpAny_pyIter_rangeiter st h
end L2

namespace L2
open PySem PySem.Spec PyProof.Rows
section
variable {X : Cx} {tg : Expr}
def iList (K : PySem.W.Frag) (tl : TE) : TI := fun σ H R => tl σ H fun x H1 => ∃ a, x = .ref a ∧ (∃ xs, SqL K H1 a xs) ∧ R (Itl K a) H1
def iTup (K : PySem.W.Frag) (tl : TE) : TI := fun σ H R => tl σ H fun x H1 => ∃ a, x = .ref a ∧ (∃ xs, SqT K H1 a xs) ∧ R (Itt K a) H1
theorem pi_list {l : Expr} {tl : TE} (hl : PE X l tl) : PI X tg l (iList X.K tl) := by
  intro pins s σ H R I h
  refine thn (hl pins s σ H _ I h) fun v s1 ⟨x, H1, I1, r1, q1⟩ => ?_
  obtain ⟨a, e, ⟨xs, hq⟩, q⟩ := q1
  subst e
  cases r1
  obtain ⟨its, rv, p, hz⟩ := I1.list hq
  refine wpAny_pyIter_list p.isList ?_
  refine ⟨s1.heap.objs.size, [s1.heap.objs.size], _, _, H1, rfl, I1.kept (t' := s1.toks) fun b o e => Heap.get?_push_of_some _ e, turn_list a _, ⟨_, Heap.get?_push_size _ rfl, rfl, rfl⟩, fun b hb => ?_, q⟩
  have e : b = s1.heap.objs.size := by simpa using hb
  subst e
  exact I1.fpOk (Nat.le_refl _) (I1.hok.fresh (Nat.le_refl _))
theorem pi_tup {l : Expr} {tl : TE} (hl : PE X l tl) : PI X tg l (iTup X.K tl) := by
  intro pins s σ H R I h
  refine thn (hl pins s σ H _ I h) fun v s1 ⟨x, H1, I1, r1, q1⟩ => ?_
  obtain ⟨a, e, ⟨xs, hq⟩, q⟩ := q1
  subst e
  cases r1
  obtain ⟨its, rv, p, hz⟩ := I1.tuple hq
  refine wpAny_pyIter_tuple (show s1.heap.IsTuple a its.toArray from p) ?_
  refine ⟨s1.heap.objs.size, [s1.heap.objs.size], _, _, H1, rfl, I1.kept (t' := s1.toks) fun b o e => Heap.get?_push_of_some _ e, turn_tuple a _, ⟨_, Heap.get?_push_size _ rfl, rfl, rfl⟩, fun b hb => ?_, q⟩
  have e : b = s1.heap.objs.size := by simpa using hb
  subst e
  exact I1.fpOk (Nat.le_refl _) (I1.hok.fresh (Nat.le_refl _))
theorem range_it {pins : List (Addr × Obj)} {σ : St} {H : Hp} {s : Shared} {R : It → Hp → Prop} {E : Value → Shared → Prop} {lo hi : Int} {t u v : Tok} {tk : Nat} (I : Inv X pins σ H s) (h1 : -(2 ^ 62) ≤ lo) (h2 : lo < 2 ^ 62) (h3 : -(2 ^ 62) ≤ hi) (h4 : hi < 2 ^ 62)
    (q : R (Itr lo (hi - lo).toNat) H) : wpAny (model X.prog X.w) X.A (pyIter (.ref s.heap.objs.size)) (PIE X pins σ tg R) E { s with heap := s.heap.push { cls := .type "range", data := .fields #[.int lo t, .int hi u, .int 1 v] }, toks := tk } := by
  refine wpAny_pyIter_range (IsRange.new ..) (small_one h1 h2 h3 h4) ?_
  have I1 : Inv X pins σ H { s with heap := s.heap.push { cls := .type "range", data := .fields #[.int lo t, .int hi u, .int 1 v] }, toks := tk } := I.kept fun b o e => Heap.get?_push_of_some _ e
  refine ⟨(s.heap.push { cls := .type "range", data := .fields #[.int lo t, .int hi u, .int 1 v] }).objs.size, [(s.heap.push { cls := .type "range", data := .fields #[.int lo t, .int hi u, .int 1 v] }).objs.size], _, _, H, rfl,
    I1.kept (t' := tk) fun b o e => Heap.get?_push_of_some _ e, turn_range _ lo (hi - lo).toNat, ?_, fun b hb => ?_, q⟩
  · have e1 : lo + ((0 : Nat) : Int) * 1 = lo := by simp
    have e2 : (((hi - lo).toNat : Nat) : Int) - ((0 : Nat) : Int) = Builtin.Range.rangeSize lo hi 1 := by rw [rangeSize_one]; split <;> lia
    show IsRangeIter _ _ (lo + ((0 : Nat) : Int) * 1) ((((hi - lo).toNat : Nat) : Int) - ((0 : Nat) : Int)) 1
    rw [e1, e2]
    exact Heap.get?_push_size _ rfl
  · have e : b = (s.heap.push { cls := .type "range", data := .fields #[.int lo t, .int hi u, .int 1 v] }).objs.size := by simpa using hb
    subst e
    exact I1.fpOk (Nat.le_refl _) (I1.hok.fresh (Nat.le_refl _))
def iRng1 (ta : TA) : TI := fun σ H R => ta σ H fun vs H1 => ∃ j : Int, vs = [.int j] ∧ -(2 ^ 62) ≤ j ∧ j < 2 ^ 62 ∧ R (Itr 0 j.toNat) H1
def iRng2 (ta : TA) : TI := fun σ H R => ta σ H fun vs H1 => ∃ i j : Int, vs = [.int i, .int j] ∧ (-(2 ^ 62) ≤ i ∧ i < 2 ^ 62 ∧ -(2 ^ 62) ≤ j ∧ j < 2 ^ 62) ∧ R (Itr i (j - i).toNat) H1
theorem pi_range1 {a : Expr} {ta : TA} {p pos : Pos} (hg : Gl X "range") (hm : X.mg "range" = none) (ha : PA X [a] ta) (hs : starEach [a] X.env = [(false, eval a X.env)] := by rfl) : PI X tg (.Call (.Name "range" p) [a] [] pos) (iRng1 ta) := by
  intro pins s σ H R I h
  refine Call_ (ld_blt I hg hm boot_range (PyProof.Rows.callWith_type1 (thn (ha pos pins s σ H _ I h) fun us s1 ⟨vs, H1, I1, r1, q1⟩ => ?_) hs rfl))
  obtain ⟨j, e, q1, q2, q⟩ := q1
  subst e
  cases r1 with
  | cons r rr =>
    cases rr
    obtain ⟨t, rfl⟩ := r
    exact call_range_1 (range_it I1 (by lia) (by lia) q1 q2 (by simpa using q))
theorem pi_range2 {a b : Expr} {ta : TA} {p pos : Pos} (hg : Gl X "range") (hm : X.mg "range" = none) (ha : PA X [a, b] ta) (hs : starEach [a, b] X.env = [(false, eval a X.env), (false, eval b X.env)] := by rfl) (hs2 : starEach [b] X.env = [(false, eval b X.env)] := by rfl) :
    PI X tg (.Call (.Name "range" p) [a, b] [] pos) (iRng2 ta) := by
  intro pins s σ H R I h
  refine Call_ (ld_blt I hg hm boot_range (PyProof.Rows.callWith_type1 (thn (ha pos pins s σ H _ I h) fun us s1 ⟨vs, H1, I1, r1, q1⟩ => ?_) (by rw [hs, hs2]) (by rw [hs2]; rfl)))
  obtain ⟨i, j, e, ⟨q1, q2, q3, q4⟩, q⟩ := q1
  subst e
  cases r1 with
  | cons r rr =>
    cases rr with
    | cons r' rr =>
      cases rr
      obtain ⟨t, rfl⟩ := r
      obtain ⟨t', rfl⟩ := r'
      exact call_range_2 (range_it I1 q1 q2 q3 q4 q)

def tFor (wi : TI) (g : TG) (tb : TS) : TS := fun D σ H => wi σ H fun J H1 => ∃ W : Nat → Nat → St → Hp → Prop, (∃ m, W 0 m σ H1) ∧ ∀ i m σ H, W i m σ H →
  (J.stop i H ∧ D.nx σ H) ∨ (J.go i H ∧ ∃ N : St → Hp → Prop, (∀ σ' H', N σ' H' → ∃ m', m' < m ∧ W (i + 1) m' σ' H') ∧ ∀ x H', J.yld i H x H' → g x σ H' fun σ2 H2 => tb { D with nx := N, ct := N, bk := D.nx } σ2 H2)
def pinsAt (fp : List Addr) (h : Heap) : List (Addr × Obj) := fp.filterMap fun b => (h.get? b).map fun o => (b, o)
theorem mem_pinsAt {fp : List Addr} {h : Heap} {b : Addr} {o : Obj} (hb : b ∈ fp) (e : h.get? b = some o) : (b, o) ∈ pinsAt fp h := List.mem_filterMap.mpr ⟨b, hb, by rw [e]; rfl⟩
theorem of_pinsAt {fp : List Addr} {h : Heap} {p : Addr × Obj} (hp : p ∈ pinsAt fp h) : p.1 ∈ fp ∧ h.get? p.1 = some p.2 := by
  obtain ⟨b, hb, e⟩ := List.mem_filterMap.mp hp
  cases q : h.get? b with
  | none => rw [q] at e; cases e
  | some o =>
    rw [q] at e
    have e' : (b, o) = p := Option.some.inj e
    subst e'
    exact ⟨hb, q⟩
theorem Inv.pinned {pins : List (Addr × Obj)} {σ : St} {H : Hp} {s : Shared} {fp : List Addr} (I : Inv X pins σ H s) (hf : ∀ b ∈ fp, FpOk X pins H b) (ho : ∀ b ∈ fp, ∃ o, s.heap.get? b = some o ∧ ∀ v, o.data ≠ .cell v) : Inv X (pins ++ pinsAt fp s.heap) σ H s :=
  I.pins_of fun p hp => (List.mem_append.mp hp).elim (fun z => I.pin p (List.mem_append_right _ z)) fun z => by
    obtain ⟨hb, e⟩ := of_pinsAt z
    obtain ⟨f0, f1, f2, _⟩ := hf p.1 hb
    obtain ⟨o, e', d⟩ := ho p.1 hb
    rw [e] at e'; cases e'
    exact ⟨e, f0, f1, f2, d⟩
theorem Inv.unpinned {pins pl : List (Addr × Obj)} {σ : St} {H : Hp} {s : Shared} (I : Inv X (pins ++ pl) σ H s) : Inv X pins σ H s := I.pins_of fun p hp => I.pin p (List.mem_append_right _ (List.mem_append_left _ hp))
theorem ps_for {iter : Expr} {body : List Stmt} {wi : TI} {g : TG} {tb : TS} {pos : Pos} (hp : PassesOwn (model X.prog X.w) X.A X.env X.xe) (hc : X.calm = true) (hi : PI X tg iter wi) (hg : PG X tg g) (hb : PSs X body tb)
    (hs : ∀ x, foldedSetIterable iter X.env x = pure x := by intro _; rfl) : PS X (.For tg iter body [] pos) (tFor wi g tb) := by
  intro pins s σ H D I h
  refine wpAny_For (thn (hi pins s σ H _ I h) fun v s1 h1 => thn h1 fun itv s2 h2 => ?_) hs
  obtain ⟨it, fp, tn, J, H2, e, I2, T, st2, f2, W, ⟨m0, w0⟩, turn⟩ := h2
  subst e
  -- what stays true of the iterator's objects through the loop
  have stat : ∀ {H' : Hp}, (∀ b ∈ fp, H' b = none) → ∀ b ∈ fp, FpOk X pins H' b := fun hn b hb => ⟨hn b hb, (f2 b hb).2⟩
  refine codeAny_forLoop_any (fun n s' => ∃ i σ' H', Inv X pins σ' H' s' ∧ tn i s'.heap ∧ (∀ b ∈ fp, H' b = none) ∧ W i n σ' H') ?_ m0 ⟨0, σ, H2, I2, st2, fun b hb => (f2 b hb).1, w0⟩
  rintro n s3 ⟨i, σ3, H3, I3, st3, fr3, w3⟩
  rcases turn i n σ3 H3 w3 with ⟨stop, qn⟩ | ⟨go, N, hN, step⟩
  · refine wpAny_passesOwn hp (thn (T.done X rfl rfl rfl hc i pins s3 σ3 H3 X.xe I3 (stat fr3) st3 stop) fun r s4 ⟨hr, I4⟩ => ?_)
    subst hr
    exact wpAny_execs_nil ⟨σ3, H3, I4, qn⟩
  · refine wpAny_passesOwn hp (thn (T.item X rfl rfl rfl hc i pins s3 σ3 H3 X.xe I3 (stat fr3) st3 go) fun r s4 ⟨u, hr, h4⟩ => ?_)
    subst hr
    refine wpAny_passesOwn hp (thn h4 fun _ s5 ⟨x, H5, I5, r5, y5, st5, fr5⟩ => ?_)
    have I5' := I5.pinned (stat fr5) (T.obj _ _ st5)
    refine wpAny_passesOwn hp (thn (hg _ s5 σ3 H5 x u _ I5' r5 (step x H5 y5)) fun _ s6 ⟨σ6, H6, I6, q6⟩ => ?_)
    refine wpAny_passesOwn hp (thn (hb _ s6 σ6 H6 _ I6 q6) fun f s7 q7 => ?_)
    have again : ∀ {σ7 : St} {H7 : Hp}, Inv X (pins ++ pinsAt fp s5.heap) σ7 H7 s7 → N σ7 H7 → ∃ m, m < n ∧ ∃ i σ' H', Inv X pins σ' H' s7 ∧ tn i s7.heap ∧ (∀ b ∈ fp, H' b = none) ∧ W i m σ' H' := fun {σ7 H7} I7 n7 => by
      obtain ⟨m', hm, w7⟩ := hN σ7 H7 n7
      refine ⟨m', hm, i + 1, σ7, H7, I7.unpinned, T.keep _ _ _ st5 fun b hb o e => (I7.pin (b, o) (List.mem_append_right _ (List.mem_append_right _ (mem_pinsAt hb e)))).1, fun b hb => ?_, w7⟩
      obtain ⟨o, e, d⟩ := T.obj _ _ st5 b hb
      exact (I7.pin (b, o) (List.mem_append_right _ (List.mem_append_right _ (mem_pinsAt hb e)))).2.1
    cases f with
    | next => obtain ⟨σ7, H7, I7, n7⟩ := q7; exact again I7 n7
    | cont => obtain ⟨σ7, H7, I7, n7⟩ := q7; exact again I7 n7
    | brk => obtain ⟨σ7, H7, I7, q7⟩ := q7; exact ⟨σ7, H7, I7.unpinned, q7⟩
    | ret v => obtain ⟨x7, σ7, H7, I7, r7, q7⟩ := q7; exact ⟨x7, σ7, H7, I7.unpinned, r7, q7⟩
end

theorem for_list {K : PySem.W.Frag} {a : Addr} {xs : List V} {g : TG} {tb : TS} {D : Ends} {σ : St} {H : Hp} (Pv : Nat → St → Hp → Prop) (h0 : Pv 0 σ H) (hl : ∀ i σ H, i ≤ xs.length → Pv i σ H → SqL K H a xs)
    (hs : ∀ i x σ H, xs[i]? = some x → Pv i σ H → g x σ H fun σ2 H2 => tb { D with nx := Pv (i + 1), ct := Pv (i + 1), bk := D.nx } σ2 H2) (hd : ∀ σ H, Pv xs.length σ H → D.nx σ H) :
    ∃ W : Nat → Nat → St → Hp → Prop, (∃ m, W 0 m σ H) ∧ ∀ i m σ H, W i m σ H →
      ((Itl K a).stop i H ∧ D.nx σ H) ∨ ((Itl K a).go i H ∧ ∃ N : St → Hp → Prop, (∀ σ' H', N σ' H' → ∃ m', m' < m ∧ W (i + 1) m' σ' H') ∧ ∀ x H', (Itl K a).yld i H x H' → g x σ H' fun σ2 H2 => tb { D with nx := N, ct := N, bk := D.nx } σ2 H2) := by
  refine ⟨fun i m σ H => m = xs.length - i ∧ i ≤ xs.length ∧ Pv i σ H, ⟨xs.length, by simp, Nat.zero_le _, h0⟩, ?_⟩
  rintro i m σ H ⟨rfl, hi, p⟩
  have q := hl i σ H hi p
  by_cases hlt : i < xs.length
  · refine .inr ⟨⟨xs, xs[i], q, by simp [hlt]⟩, Pv (i + 1), fun σ' H' p' => ⟨xs.length - (i + 1), by lia, rfl, hlt, p'⟩, fun x H' y => ?_⟩
    obtain ⟨e, y⟩ := y
    subst e
    exact hs i x σ _ (y xs q) p
  · have e : i = xs.length := by lia
    subst e
    exact .inl ⟨⟨xs, q, Nat.le_refl _⟩, hd σ H p⟩
theorem for_range {lo : Int} {n : Nat} {g : TG} {tb : TS} {D : Ends} {σ : St} {H : Hp} (Pv : Nat → St → Hp → Prop) (h0 : Pv 0 σ H)
    (hs : ∀ i σ H, i < n → Pv i σ H → g (.int (lo + i)) σ H fun σ2 H2 => tb { D with nx := Pv (i + 1), ct := Pv (i + 1), bk := D.nx } σ2 H2) (hd : ∀ σ H, Pv n σ H → D.nx σ H) :
    ∃ W : Nat → Nat → St → Hp → Prop, (∃ m, W 0 m σ H) ∧ ∀ i m σ H, W i m σ H →
      ((Itr lo n).stop i H ∧ D.nx σ H) ∨ ((Itr lo n).go i H ∧ ∃ N : St → Hp → Prop, (∀ σ' H', N σ' H' → ∃ m', m' < m ∧ W (i + 1) m' σ' H') ∧ ∀ x H', (Itr lo n).yld i H x H' → g x σ H' fun σ2 H2 => tb { D with nx := N, ct := N, bk := D.nx } σ2 H2) := by
  refine ⟨fun i m σ H => m = n - i ∧ i ≤ n ∧ Pv i σ H, ⟨n, by simp, Nat.zero_le _, h0⟩, ?_⟩
  rintro i m σ H ⟨rfl, hi, p⟩
  by_cases hlt : i < n
  · refine .inr ⟨hlt, Pv (i + 1), fun σ' H' p' => ⟨n - (i + 1), by lia, rfl, hlt, p'⟩, fun x H' y => ?_⟩
    obtain ⟨e, y⟩ := y
    subst e y
    exact hs i σ _ hlt p
  · have e : i = n := by lia
    subst e
    exact .inl ⟨Nat.le_refl _, hd σ H p⟩
end L2

namespace L2
open PySem PySem.Spec PyProof.Rows

abbrev R2 := V → V → Hp → VK → Prop
def OpR (X : Cx) (f : Value → Value → Sem Value) (r : R2) : Prop :=
  ∀ (pins : List (Addr × Obj)) (s : Shared) (σ : St) (H : Hp) (x y : V) (v u : Value) (Q : VK), Inv X pins σ H s → RelV x v → RelV y u → r x y H Q →
    wpAny (model X.prog X.w) X.A (f v u) (EP X pins σ Q) X.xe s
def UnR (X : Cx) (f : Value → Sem Value) (r : V → Hp → VK → Prop) : Prop :=
  ∀ (pins : List (Addr × Obj)) (s : Shared) (σ : St) (H : Hp) (x : V) (v : Value) (Q : VK), Inv X pins σ H s → RelV x v → r x H Q →
    wpAny (model X.prog X.w) X.A (f v) (EP X pins σ Q) X.xe s
def CallR (X : Cx) (f : Value) (r : List V → Hp → VK → Prop) : Prop :=
  ∀ (pins : List (Addr × Obj)) (s : Shared) (σ : St) (H : Hp) (xs : List V) (us : List Value) (Q : VK), Inv X pins σ H s → Vals xs us → r xs H Q →
    wpAny (model X.prog X.w) X.A (call f us) (EP X pins σ Q) X.xe s
def tOp (r : R2) (ta tb : TE) : TE := fun σ H Q => ta σ H fun x H1 => tb σ H1 fun y H2 => r x y H2 Q
def tUn (r : V → Hp → VK → Prop) (ta : TE) : TE := fun σ H Q => ta σ H fun x H1 => r x H1 Q
def rI (C : Int → Int → Prop) (g : Int → Int → V) : R2 := fun x y H Q => ∃ i j, x = .int i ∧ y = .int j ∧ C i j ∧ Q (g i j) H
def rI0 (g : Int → Int → V) : R2 := fun x y H Q => ∃ i j, x = .int i ∧ y = .int j ∧ Q (g i j) H
def rU (g : Int → V) : V → Hp → VK → Prop := fun x H Q => ∃ i, x = .int i ∧ Q (g i) H

section
variable {X : Cx} {a b c : Expr} {ta tb tc : TE} {pos : Pos}

theorem binT (ha : PE X a ta) (hb : PE X b tb) {pins : List (Addr × Obj)} {s : Shared} {σ : St} {H : Hp} {R : V → V → Hp → Prop} (I : Inv X pins σ H s)
    (h : ta σ H fun x H1 => tb σ H1 fun y H2 => R x y H2) {Q : Value → Shared → Prop} {f : Value → Value → Sem Value}
    (hf : ∀ v u s2 x y H2, Inv X pins σ H2 s2 → RelV x v → RelV y u → R x y H2 → wpAny (model X.prog X.w) X.A (f v u) Q X.xe s2) :
    wpAny (model X.prog X.w) X.A (eval a X.env) (fun v s₁ => wpAny (model X.prog X.w) X.A (eval b X.env) (fun u s₂ => wpAny (model X.prog X.w) X.A (f v u) Q X.xe s₂) X.xe s₁) X.xe s := by
  refine thn (ha pins s σ H _ I h) fun v s1 ⟨x, H1, I1, r1, q1⟩ => ?_
  refine thn (hb pins s1 σ H1 _ I1 q1) fun u s2 ⟨y, H2, I2, r2, q2⟩ => ?_
  exact hf v u s2 x y H2 I2 r1 r2 q2

theorem pe_op {op : Operator} {r : R2} (ho : OpR X (binaryOp op) r) (ha : PE X a ta) (hb : PE X b tb) : PE X (.BinOp a op b pos) (tOp r ta tb) := by
  intro pins s σ H Q I h
  exact wpAny_BinOp (binT ha hb I h fun v u s2 x y H2 I2 rx ry q => ho pins s2 σ H2 x y v u Q I2 rx ry q)
theorem pe_un {op : UnaryOp} {r : V → Hp → VK → Prop} (ho : UnR X (unaryOp op) r) (ha : PE X a ta) : PE X (.UnaryOp op a pos) (tUn r ta) := by
  intro pins s σ H Q I h
  exact UnaryOp_ (thn (ha pins s σ H _ I h) fun v s1 ⟨x, H1, I1, r1, q1⟩ => ho pins s1 σ H1 x v Q I1 r1 q1)
theorem opI {f : Value → Value → Sem Value} {C : Int → Int → Prop} {g : Int → Int → Int}
    (rule : ∀ (i j : Int) (t u : Tok) (s : Shared) (Q : Value → Shared → Prop) (E : Value → Shared → Prop), C i j → Q (.int (g i j) s.toks) { s with toks := s.toks + 1 } → wpAny (model X.prog X.w) X.A (f (.int i t) (.int j u)) Q E s) :
    OpR X f (rI C fun i j => .int (g i j)) := by
  intro pins s σ H x y v u Q I rx ry h
  obtain ⟨i, j, rfl, rfl, hc, q⟩ := h
  obtain ⟨t, rfl⟩ := rx
  obtain ⟨t', rfl⟩ := ry
  exact rule i j t t' s _ _ hc ⟨.int (g i j), H, I.tok _, ⟨_, rfl⟩, q⟩
theorem opI0 {f : Value → Value → Sem Value} {g : Int → Int → Int}
    (rule : ∀ (i j : Int) (t u : Tok) (s : Shared) (Q : Value → Shared → Prop) (E : Value → Shared → Prop), Q (.int (g i j) s.toks) { s with toks := s.toks + 1 } → wpAny (model X.prog X.w) X.A (f (.int i t) (.int j u)) Q E s) :
    OpR X f (rI0 fun i j => .int (g i j)) := by
  intro pins s σ H x y v u Q I rx ry h
  obtain ⟨i, j, rfl, rfl, q⟩ := h
  obtain ⟨t, rfl⟩ := rx
  obtain ⟨t', rfl⟩ := ry
  exact rule i j t t' s _ _ ⟨.int (g i j), H, I.tok _, ⟨_, rfl⟩, q⟩
theorem opB0 {f : Value → Value → Sem Value} {g : Int → Int → Bool}
    (rule : ∀ (i j : Int) (t u : Tok) (s : Shared) (Q : Value → Shared → Prop) (E : Value → Shared → Prop), Q (.bool (g i j)) s → wpAny (model X.prog X.w) X.A (f (.int i t) (.int j u)) Q E s) :
    OpR X f (rI0 fun i j => .bl (g i j)) := by
  intro pins s σ H x y v u Q I rx ry h
  obtain ⟨i, j, rfl, rfl, q⟩ := h
  obtain ⟨t, rfl⟩ := rx
  obtain ⟨t', rfl⟩ := ry
  exact rule i j t t' s _ _ ⟨.bl (g i j), H, I, rfl, q⟩

def CDiv (i j : Int) : Prop := 0 < j ∧ j < 1073741824
def CPow (i j : Int) : Prop := 0 ≤ j ∧ j ≤ 1000000 ∧ i.natAbs < 2 ^ 64
def CMul (i j : Int) : Prop := (-(2 ^ 64) < i ∧ i < 2 ^ 64) ∨ (-(2 ^ 64) < j ∧ j < 2 ^ 64)
theorem CMul.ok {i j : Int} (h : CMul i j) : IntMulOk i j := by
  rcases h with ⟨h1, h2⟩ | ⟨h1, h2⟩
  · exact .of_left (intBits_le_64 h1 h2)
  · exact .of_right (intBits_le_64 h1 h2)
theorem op_add : OpR X (binaryOp .Add) (rI0 fun i j => .int (i + j)) := opI0 fun _ _ _ _ _ _ _ q => add_int q
theorem op_sub : OpR X (binaryOp .Sub) (rI0 fun i j => .int (i - j)) := opI0 fun _ _ _ _ _ _ _ q => sub_int q
theorem op_mul : OpR X (binaryOp .Mult) (rI CMul fun i j => .int (i * j)) := opI fun _ _ _ _ _ _ _ hc q => mul_int q hc.ok
theorem op_fdiv : OpR X (binaryOp .FloorDiv) (rI CDiv fun i j => .int (i / j)) := opI fun i j _ _ _ _ _ hc q => by
  have h1 : (0 : Int) < j := hc.1
  have h2 : j < 1073741824 := hc.2
  exact floordiv_int (by lia) (by rw [Int.fdiv_eq_ediv_of_nonneg i (by lia)]; exact q) (.inl (PyProof.noPylong_small (by lia)))
theorem op_mod : OpR X (binaryOp .Mod) (rI (fun _ j => 0 < j) fun i j => .int (i % j)) := opI fun i j _ _ _ _ _ hc q => by
  have h1 : (0 : Int) < j := hc
  exact mod_int' (by lia) (by rw [Int.fmod_eq_emod_of_nonneg i (by lia)]; exact q)
theorem op_shl : OpR X (binaryOp .LShift) (rI CPow fun i j => .int (i * 2 ^ j.toNat)) := opI fun _ _ _ _ _ _ _ hc q => lshift_int_small hc.1 hc.2.1 hc.2.2 q
theorem unI {f : Value → Sem Value} {g : Int → Int}
    (rule : ∀ (i : Int) (t : Tok) (s : Shared) (Q : Value → Shared → Prop) (E : Value → Shared → Prop), Q (.int (g i) s.toks) { s with toks := s.toks + 1 } → wpAny (model X.prog X.w) X.A (f (.int i t)) Q E s) :
    UnR X f (rU fun i => .int (g i)) := by
  intro pins s σ H x v Q I rx h
  obtain ⟨i, rfl, q⟩ := h
  obtain ⟨t, rfl⟩ := rx
  exact rule i t s _ _ ⟨.int (g i), H, I.tok _, ⟨_, rfl⟩, q⟩
theorem un_neg : UnR X (unaryOp .USub) (rU fun i => .int (-i)) := unI fun _ _ _ _ _ q => neg_int q
end

def scal : V → V → Bool
  | .non, .non => true | .non, .int _ => true | .int _, .non => true | .non, .bl _ => true | .bl _, .non => true | .non, .str _ => true | .str _, .non => true
  | .int _, .int _ => true | .bl _, .bl _ => true | .str _, .str _ => true | .byt _, .byt _ => true
  | .int _, .str _ => true | .str _, .int _ => true | .bl _, .str _ => true | .str _, .bl _ => true
  | _, _ => false
def rEq : R2 := fun x y H Q => scal x y = true ∧ Q (.bl (decide (x = y))) H
def rNe : R2 := fun x y H Q => scal x y = true ∧ Q (.bl (!decide (x = y))) H

theorem dec_int {i j : Int} : decide (V.int i = V.int j) = (i == j) := by
  rw [Bool.eq_iff_iff]
  simp
theorem dec_bl {i j : Bool} : decide (V.bl i = V.bl j) = (i == j) := by
  rw [Bool.eq_iff_iff]
  simp
theorem dec_str {i j : Str} : decide (V.str i = V.str j) = (i == j) := by
  rw [Bool.eq_iff_iff]
  simp
theorem dec_byt {i j : Array UInt8} : decide (V.byt i = V.byt j) = (i.toList == j.toList) := by
  rw [Bool.eq_iff_iff]
  cases i
  cases j
  simp

section
variable {X : Cx} {a b c : Expr} {ta tb tc : TE} {pos : Pos}
theorem fin_bl {pins : List (Addr × Obj)} {σ : St} {H : Hp} {s : Shared} {Q : VK} {k k' : Bool} (I : Inv X pins σ H s) (q : Q (.bl k) H) (e : k = k') : EP X pins σ Q (.bool k') s := by
  subst e
  exact ⟨.bl k, H, I, rfl, q⟩
theorem op_eq : OpR X (compareOp .Eq) rEq := by
  intro pins s σ H x y v u Q I rx ry h
  obtain ⟨hs, q⟩ := h
  cases x with
  | non =>
    cases rx
    cases y with
    | non => cases ry; exact PySem.EqNone.eq_none_none (fin_bl I q (by simp))
    | bl j => cases ry; exact PySem.EqNone.eq_none_bool (fin_bl I q (by simp))
    | int j => obtain ⟨t', rfl⟩ := ry; exact PySem.EqNone.eq_none_int (fin_bl I q (by simp))
    | str j => obtain ⟨t', rfl⟩ := ry; exact PySem.EqNone.eq_none_str (fin_bl I q (by simp))
    | _ => exact absurd (show false = true from hs) Bool.false_ne_true
  | bl i =>
    cases rx
    cases y with
    | non => cases ry; exact PySem.EqNone.eq_bool_none (fin_bl I q (by simp))
    | bl j => cases ry; exact eq_bool (fin_bl I q dec_bl)
    | str j => obtain ⟨t', rfl⟩ := ry; exact PySem.EqMixed.eq_bool_str (fin_bl I q (by simp))
    | _ => exact absurd (show false = true from hs) Bool.false_ne_true
  | int i =>
    obtain ⟨t, rfl⟩ := rx
    cases y with
    | non => cases ry; exact PySem.EqNone.eq_int_none (fin_bl I q (by simp))
    | int j => obtain ⟨t', rfl⟩ := ry; exact eq_int (fin_bl I q dec_int)
    | str j => obtain ⟨t', rfl⟩ := ry; exact PySem.EqMixed.eq_int_str (fin_bl I q (by simp))
    | _ => exact absurd (show false = true from hs) Bool.false_ne_true
  | str i =>
    obtain ⟨t, rfl⟩ := rx
    cases y with
    | non => cases ry; exact PySem.EqNone.eq_str_none (fin_bl I q (by simp))
    | bl j => cases ry; exact PySem.EqMixed.eq_str_bool (fin_bl I q (by simp))
    | int j => obtain ⟨t', rfl⟩ := ry; exact PySem.EqMixed.eq_str_int (fin_bl I q (by simp))
    | str j => obtain ⟨t', rfl⟩ := ry; exact eq_str (fin_bl I q dec_str)
    | _ => exact absurd (show false = true from hs) Bool.false_ne_true
  | byt i =>
    obtain ⟨t, rfl⟩ := rx
    cases y with
    | byt j => obtain ⟨t', rfl⟩ := ry; exact PySem.W.eq_bytes (fin_bl I q dec_byt)
    | _ => exact absurd (show false = true from hs) Bool.false_ne_true
  | _ => cases y <;> exact absurd (show false = true from hs) Bool.false_ne_true
theorem op_ne : OpR X (compareOp .NotEq) rNe := by
  intro pins s σ H x y v u Q I rx ry h
  obtain ⟨hs, q⟩ := h
  cases x with
  | non =>
    cases rx
    cases y with
    | non => cases ry; exact PySem.EqNone.ne_none_none (fin_bl I q (by simp))
    | bl j => cases ry; exact PySem.EqNone.ne_none_bool (fin_bl I q (by simp))
    | int j => obtain ⟨t', rfl⟩ := ry; exact PySem.EqNone.ne_none_int (fin_bl I q (by simp))
    | str j => obtain ⟨t', rfl⟩ := ry; exact PySem.EqNone.ne_none_str (fin_bl I q (by simp))
    | _ => exact absurd (show false = true from hs) Bool.false_ne_true
  | bl i =>
    cases rx
    cases y with
    | non => cases ry; exact PySem.EqNone.ne_bool_none (fin_bl I q (by simp))
    | bl j => cases ry; exact ne_bool (fin_bl I q (congrArg not dec_bl))
    | str j => obtain ⟨t', rfl⟩ := ry; exact PySem.EqMixed.ne_bool_str (fin_bl I q (by simp))
    | _ => exact absurd (show false = true from hs) Bool.false_ne_true
  | int i =>
    obtain ⟨t, rfl⟩ := rx
    cases y with
    | non => cases ry; exact PySem.EqNone.ne_int_none (fin_bl I q (by simp))
    | int j => obtain ⟨t', rfl⟩ := ry; exact ne_int (fin_bl I q (congrArg not dec_int))
    | str j => obtain ⟨t', rfl⟩ := ry; exact PySem.EqMixed.ne_int_str (fin_bl I q (by simp))
    | _ => exact absurd (show false = true from hs) Bool.false_ne_true
  | str i =>
    obtain ⟨t, rfl⟩ := rx
    cases y with
    | non => cases ry; exact PySem.EqNone.ne_str_none (fin_bl I q (by simp))
    | bl j => cases ry; exact PySem.EqMixed.ne_str_bool (fin_bl I q (by simp))
    | int j => obtain ⟨t', rfl⟩ := ry; exact PySem.EqMixed.ne_str_int (fin_bl I q (by simp))
    | str j => obtain ⟨t', rfl⟩ := ry; exact ne_str (fin_bl I q (congrArg not dec_str))
    | _ => exact absurd (show false = true from hs) Bool.false_ne_true
  | byt i =>
    obtain ⟨t, rfl⟩ := rx
    cases y with
    | byt j => obtain ⟨t', rfl⟩ := ry; exact PySem.W.ne_bytes (fin_bl I q (congrArg not dec_byt))
    | _ => exact absurd (show false = true from hs) Bool.false_ne_true
  | _ => cases y <;> exact absurd (show false = true from hs) Bool.false_ne_true

theorem op_lt : OpR X (compareOp .Lt) (rI0 fun i j => .bl (decide (i < j))) := opB0 fun _ _ _ _ _ _ _ q => lt_int q
theorem op_le : OpR X (compareOp .LtE) (rI0 fun i j => .bl (decide (i ≤ j))) := opB0 fun _ _ _ _ _ _ _ q => le_int q
theorem op_gt : OpR X (compareOp .Gt) (rI0 fun i j => .bl (decide (j < i))) := opB0 fun _ _ _ _ _ _ _ q => gt_int q
theorem op_isN : OpR X (compareOp .Is) (fun x y H Q => y = .non ∧ Q (.bl (decide (x = .non))) H) := by
  intro pins s σ H x y v u Q I rx ry h
  obtain ⟨rfl, q⟩ := h
  cases ry
  refine is_none_gen (fin_bl I q ?_)
  cases x <;> first
    | (cases rx; rfl)
    | (obtain ⟨t, rfl⟩ := rx; rfl)
theorem nomark (b : Expr) {op : CmpOp} (h : op ≠ .In := by decide) (h2 : op ≠ .NotIn := by decide) : behindInMarks op b = false := by
  have e1 : (op == CmpOp.In) = false := by cases op <;> first | rfl | exact absurd rfl h
  have e2 : (op == CmpOp.NotIn) = false := by cases op <;> first | rfl | exact absurd rfl h2
  cases b <;> simp [behindInMarks, e1, e2]
theorem pe_cmpR {op : CmpOp} {r : R2} (ho : OpR X (compareOp op) r) (ha : PE X a ta) (hb : PE X b tb) (hm : behindInMarks op b = false) : PE X (.Compare a [op] [b] pos) (tOp r ta tb) := by
  intro pins s σ H Q I h
  exact wpAny_Compare1 (binT ha hb I h fun v u s2 x y H2 I2 rx ry q => ho pins s2 σ H2 x y v u Q I2 rx ry q) hm
def tTest (t : TE) : TT := fun σ H Q => t σ H fun x H' => ∃ k, x = .bl k ∧ Q k H'
theorem pt_cmpR {op : CmpOp} {r : R2} (ho : OpR X (compareOp op) r) (ha : PE X a ta) (hb : PE X b tb) (hm : behindInMarks op b = false) : PT X (.Compare a [op] [b] pos) (tTest (tOp r ta tb)) := by
  intro pins s σ H Q I h
  refine wpAny_isTrue_Compare1 (thn (ha pins s σ H _ I h) fun v s1 ⟨x, H1, I1, r1, q1⟩ => thn (hb pins s1 σ H1 _ I1 q1) fun u s2 ⟨y, H2, I2, r2, q2⟩ =>
    thn (ho pins s2 σ H2 x y v u _ I2 r1 r2 q2) fun c s3 ⟨z, H3, I3, r3, k, e, q3⟩ => ?_) hm
  subst e
  cases r3
  exact wpAny_truthy_bool ⟨H3, I3, q3⟩
def tChain (r r' : R2) (ta tb tc : TE) : TE := fun σ H Q => ta σ H fun x H1 => tb σ H1 fun y H2 => r x y H2 fun z H3 => ∃ k, z = .bl k ∧
  (if k = true then tc σ H3 fun w' H4 => r' y w' H4 Q else Q (.bl false) H3)
theorem pe_chain {op op' : CmpOp} {r r' : R2} (ho : OpR X (compareOp op) r) (ho' : OpR X (compareOp op') r') (ha : PE X a ta) (hb : PE X b tb) (hc : PE X c tc)
    (hm : lastMarks [op, op'] [b, c] = false := by with_unfolding_all rfl) : PE X (.Compare a [op, op'] [b, c] pos) (tChain r r' ta tb tc) := by
  intro pins s σ H Q I h
  refine Compare_chain (thn (ha pins s σ H _ I h) fun v s1 ⟨x, H1, I1, r1, q1⟩ => chain_link (thn (hb pins s1 σ H1 _ I1 q1) fun u s2 ⟨y, H2, I2, r2, q2⟩ =>
    thn (ho pins s2 σ H2 x y v u _ I2 r1 r2 q2) fun d s3 ⟨z, H3, I3, r3, k, e, q3⟩ => ?_)) hm
  subst e
  cases r3
  refine wpAny_truthy_bool ?_
  cases k with
  | false => exact ite_ff ⟨.bl false, H3, I3, rfl, q3⟩
  | true => exact ite_tt (chain_last (thn (hc pins s3 σ H3 _ I3 q3) fun w' s4 ⟨z', H4, I4, r4, q4⟩ => ho' pins s4 σ H4 y z' u w' Q I4 r2 r4 q4))
theorem pt_chain {op op' : CmpOp} {r r' : R2} (ho : OpR X (compareOp op) r) (ho' : OpR X (compareOp op') r') (ha : PE X a ta) (hb : PE X b tb) (hc : PE X c tc)
    (hm : lastMarks [op, op'] [b, c] = false := by with_unfolding_all rfl) : PT X (.Compare a [op, op'] [b, c] pos) (tTest (tChain r r' ta tb tc)) := by
  intro pins s σ H Q I h
  refine isTrue_chain (thn (ha pins s σ H _ I h) fun v s1 ⟨x, H1, I1, r1, q1⟩ => test_link (thn (hb pins s1 σ H1 _ I1 q1) fun u s2 ⟨y, H2, I2, r2, q2⟩ =>
    thn (ho pins s2 σ H2 x y v u _ I2 r1 r2 q2) fun d s3 ⟨z, H3, I3, r3, k, e, q3⟩ => ?_)) hm
  subst e
  cases r3
  refine wpAny_truthy_bool ?_
  cases k with
  | false =>
    obtain ⟨k', e', q'⟩ := q3
    cases e'
    exact ite_ff ⟨H3, I3, q'⟩
  | true =>
    refine ite_tt (test_last (thn (hc pins s3 σ H3 _ I3 q3) fun w' s4 ⟨z', H4, I4, r4, q4⟩ => thn (ho' pins s4 σ H4 y z' u w' _ I4 r2 r4 q4) fun d' s5 ⟨z2, H5, I5, r5, k2, e2, q5⟩ => ?_))
    subst e2
    cases r5
    exact wpAny_truthy_bool ⟨H5, I5, q5⟩

theorem line63 : (sizeLine : Nat) < 2 ^ 63 := by rw [sizeLine_eq]; decide
theorem vals1 {x : V} {us : List Value} (r : Vals [x] us) : ∃ u, us = [u] ∧ RelV x u := by
  cases r with
  | cons r1 r2 => cases r2; exact ⟨_, rfl, r1⟩
theorem vals2 {x y : V} {us : List Value} (r : Vals [x, y] us) : ∃ u w', us = [u, w'] ∧ RelV x u ∧ RelV y w' := by
  cases r with
  | cons r1 r2 =>
    cases r2 with
    | cons r3 r4 => cases r4; exact ⟨_, _, rfl, r1, r3⟩
theorem call_min2 (hc : X.calm = true) : CallR X (.builtin "min") (fun xs H Q => ∃ i j, xs = [.int i, .int j] ∧ Q (.int (if j < i then j else i)) H) := by
  intro pins s σ H xs us Q I r h
  obtain ⟨i, j, rfl, q⟩ := h
  obtain ⟨u, w', rfl, ⟨t, rfl⟩, ⟨t', rfl⟩⟩ := vals2 r
  refine min_two_ints (I.ok.hd hc) fun h' tk k => ⟨_, H, I.kept k, ?_, q⟩
  by_cases hj : j < i
  · rw [if_pos hj, if_pos hj]; exact ⟨_, rfl⟩
  · rw [if_neg hj, if_neg hj]; exact ⟨_, rfl⟩
theorem call_int1 : CallR X (.type "int") (fun xs H Q => (∃ i, xs = [.int i] ∧ Q (.int i) H) ∨ ∃ k, xs = [.bl k] ∧ Q (.int (if k then 1 else 0)) H) := by
  intro pins s σ H xs us Q I r h
  rcases h with ⟨i, rfl, q⟩ | ⟨k, rfl, q⟩
  · obtain ⟨u, rfl, t, rfl⟩ := vals1 r
    exact call_int_int ⟨.int i, H, I, ⟨_, rfl⟩, q⟩
  · obtain ⟨u, rfl, r1⟩ := vals1 r
    cases r1
    exact call_int_bool ⟨.int (if k then 1 else 0), H, I.tok _, ⟨_, rfl⟩, q⟩
end
end L2

namespace L2
open PySem PySem.Spec PyProof.Rows

structure ObjM (h : Heap) (x dx C : Addr) (mA : Str → Option Value) : Prop where
  obj : h.get? x = some (PySem.W.instObj C dx)
  ns : h.Ns1 dx mA
  ne : dx ≠ x

theorem lookIn_ns {h : Heap} {dx : Addr} {mA : Str → Option Value} (n : h.Ns1 dx mA) : ∃ od, h.get? dx = some od ∧ ∀ name, PySem.W.lookIn name od = some (mA name) := by
  obtain ⟨o, es, ep, ho, hd, hk, _, hm⟩ := n
  refine ⟨o, ho, fun name => ?_⟩
  have e := hm name
  unfold nsFind findBy at e
  rw [← Array.find?_toList] at e
  unfold PySem.W.lookIn
  rw [hd]
  dsimp only
  split
  · rename_i y q
    rw [q] at e
    exact congrArg some e
  · rename_i q
    rw [q] at e
    have a : es.toList.any (·.refKey) = false := by
      rw [List.any_eq_false]
      intro y hy
      obtain ⟨z, t, hkey⟩ := hk y (Array.mem_toList_iff.mp hy)
      simp [DictEntry.refKey, hkey]
    have a' : ¬ es.toList.any (·.refKey) = true := by rw [a]; exact Bool.false_ne_true
    rw [if_neg a']
    exact congrArg some e

theorem ObjM.look {h : Heap} {x dx C : Addr} {mA : Str → Option Value} (I : ObjM h x dx C mA) : ∃ od, PySem.W.InstAt h x (PySem.W.instObj C dx) C (some od) ∧ ∀ name, PySem.W.lookIn name od = some (mA name) :=
  let ⟨od, ho, hl⟩ := lookIn_ns I.ns
  ⟨od, ⟨I.obj, rfl, rfl, ho⟩, hl⟩

section
variable {prog : Program} {w : World} {A : Around} {E : Value → Shared → Prop} {s : Shared} {K : PySem.W.Frag} {x dx C f : Addr} {mA : Str → Option Value} {name : Str} {v : Value}

theorem get_map {expr : Bool} {Q : Value → Shared → Prop} (X : K.In s.heap) (I : ObjM s.heap x dx C mA) (hg : PySem.W.plainGet K C name = true) (hh : PySem.W.hasDictIn K C = true)
    (ha : PySem.W.findIn K (.ref C) name = some none) (hv : mA name = some v) (hv' : PySem.W.handedIn v = true) (h : Q v { s with toks := s.toks + 1 }) :
    wpAny (model prog w) A (getAttr (.ref x) name expr) Q E s := by
  obtain ⟨od, J, hl⟩ := I.look
  exact PySem.W.get_value X J (PySem.W.plainGet_of hg).1 (PySem.W.findObj_own hh ha rfl (by rw [hl, hv])) hv' h

theorem get_meth {pl : Sem Bool} {Q : Value × List Value → Shared → Prop} (X : K.In s.heap) (I : ObjM s.heap x dx C mA) (hg : PySem.W.plainGet K C name = true)
    (hf : PySem.W.findIn K (.ref C) name = some (some (.ref f))) (ht : PySem.W.isFn K (.ref f) = true) (hv : mA name = none) (h : Q (.ref f, [.ref x]) s) :
    wpAny (model prog w) A (getMethod (.ref x) name pl) Q E s := by
  obtain ⟨od, J, hl⟩ := I.look
  exact PySem.W.method_fn X J (PySem.W.plainGet_of hg).1 (PySem.W.plainGet_of hg).2 hf (beq_iff_eq.mp ht) (by show (PySem.W.lookIn name od).map (·.isSome) = some false; rw [hl, hv]; rfl) h

theorem set_map {ns : List Str} {Q : Unit → Shared → Prop} (X : K.In s.heap) (I : ObjM s.heap x dx C mA)
    (hs : PySem.W.findIn K (.ref C) "__setattr__" = some (some (.builtin "object.__setattr__"))) (hp : PySem.W.plainOver K C = true) (ht : PySem.W.takerIn K C name = some none) (hh : PySem.W.hasDictIn K C = true)
    (hw : PySem.Within mA ns) (hsz : ns.length ≤ sizeLine)
    (h : ∀ h', ObjM h' x dx C (fun y => if y = name then some v else mA y) → Heap.SameBut dx s.heap h' → Q () { s with heap := h', toks := s.toks + 2 }) :
    wpAny (model prog w) A (setAttr (.ref x) name v) Q E s := by
  obtain ⟨od, J, hl⟩ := I.look
  refine PySem.W.set_plain X J hs (PySem.W.osa_open (s := { s with toks := s.toks + 1 }) (r := none) X J hp ht fun b => ?_)
  obtain ⟨cd, hc, hd'⟩ := PySem.W.any_some hh
  have hx : s.heap.get? x = some ⟨.ref C, some dx, .plain, #[]⟩ := I.obj
  refine wpAny_bind (wpAny_pure (wpAny_bind (wpAny_bind (wpAny_loadPart hx (wpAny_bind (PySem.W.Looks.here (s := { s with toks := s.toks + 1 }) (PySem.W.looks_clsIn X hc) ?_))))))
  rw [hd']
  refine wpAny_pure (a := some dx) (wpAny_bind (wpAny_pure (wpAny_bind ?_)))
  refine wpAny_nsSet1 (s := { s with toks := s.toks + 1 }) I.ns fun h' hn2 hs2 => ?_
  obtain ⟨oD, esD, epD, hoD, hdD, hcD⟩ := hn2.count (PySem.Within.cons name v hw)
  refine wpAny_bind (wpAny_lookBehind hoD (by rw [hdD]; exact pastItsLine_dict (Nat.le_trans hcD (by rw [List.length_cons]; lia))) ?_)
  exact wpAny_pure (h _ ⟨(hs2.2 _ (Ne.symm I.ne)).trans I.obj, hn2, I.ne⟩ hs2)

theorem make_map {R : Result → Shared → Prop} {vs : List Value} {kw : List (Str × Value)} (X : K.In s.heap) (hm : PySem.W.makesIn K C = true)
    (hi : PySem.W.findIn K (.ref C) "__init__" = some (some (.ref f))) (hf : PySem.W.typeIn K (.ref f) = some (.type "function"))
    (h : codeAny (model prog w) (A.under (.builtin "type.__call__" ⟨.ref C :: vs, kw⟩)) (.call (.ref f) ⟨.ref (s.heap.objs.size + 1) :: vs, kw⟩) (PySem.W.InitBack (s.heap.objs.size + 1) R)
      { s with heap := (s.heap.push PySem.W.emptyDict).push (PySem.W.instObj C s.heap.objs.size) }) :
    codeAny (model prog w) A (.call (.ref C) ⟨vs, kw⟩) R s := by
  obtain ⟨hh, g, d, t, os⟩ := s
  exact PySem.W.make_core (PySem.W.makes_of X hm) (PySem.W.looks_findIn X hi) (fun self => PySem.W.bind_fn X self hf) (.inl rfl) h
end

def putF (f : Str) (v : V) : List (Str × V) → List (Str × V)
  | [] => [(f, v)]
  | (g, x) :: r => if g = f then (g, v) :: r else (g, x) :: putF f v r
theorem lookup_putF (f g : Str) (v : V) : ∀ fs : List (Str × V), (putF f v fs).lookup g = if g = f then some v else fs.lookup g
  | [] => by
    show List.lookup g [(f, v)] = _
    by_cases h : g = f
    · have hb : (g == f) = true := beq_iff_eq.mpr h
      simp only [List.lookup, hb, if_pos h]
    · have hb : (g == f) = false := beq_eq_false_iff_ne.mpr h
      simp only [List.lookup, hb, if_neg h]
  | (k, x) :: r => by
    have ih := lookup_putF f g v r
    rw [show putF f v ((k, x) :: r) = (if k = f then (k, v) :: r else (k, x) :: putF f v r) from rfl]
    by_cases hk : k = f
    · rw [if_pos hk]
      by_cases h : g = k
      · have hb : (g == k) = true := beq_iff_eq.mpr h
        simp only [List.lookup, hb, if_pos (h.trans hk)]
      · have hb : (g == k) = false := beq_eq_false_iff_ne.mpr h
        simp only [List.lookup, hb, if_neg (fun e : g = f => h (e.trans hk.symm))]
    · rw [if_neg hk]
      by_cases h : g = k
      · have hb : (g == k) = true := beq_iff_eq.mpr h
        simp only [List.lookup, hb, if_neg (fun e : g = f => hk (h.symm.trans e))]
      · have hb : (g == k) = false := beq_eq_false_iff_ne.mpr h
        simp only [List.lookup, hb]
        exact ih
theorem keys_putF (f : Str) (v : V) : ∀ fs : List (Str × V), f ∈ (putF f v fs).map (·.1) ∧ ∀ g, g ∈ fs.map (·.1) → g ∈ (putF f v fs).map (·.1)
  | [] => ⟨by simp [putF], fun g h => by simp at h⟩
  | (k, x) :: r => by
    obtain ⟨i1, i2⟩ := keys_putF f v r
    rw [show putF f v ((k, x) :: r) = (if k = f then (k, v) :: r else (k, x) :: putF f v r) from rfl]
    by_cases hk : k = f
    · rw [if_pos hk]
      subst hk
      exact ⟨by simp, fun g h => by simpa using h⟩
    · rw [if_neg hk]
      refine ⟨?_, fun g h => ?_⟩
      · rw [List.map_cons]
        exact List.mem_cons_of_mem _ i1
      · rw [List.map_cons] at h ⊢
        rcases List.mem_cons.mp h with e | e
        · exact List.mem_cons.mpr (.inl e)
        · exact List.mem_cons_of_mem _ (i2 g e)
theorem length_putF (f : Str) (v : V) : ∀ fs : List (Str × V), (putF f v fs).length ≤ fs.length + 1
  | [] => by simp [putF]
  | (k, x) :: r => by
    have ih := length_putF f v r
    rw [show putF f v ((k, x) :: r) = (if k = f then (k, v) :: r else (k, x) :: putF f v r) from rfl]
    by_cases hk : k = f
    · rw [if_pos hk, List.length_cons, List.length_cons]; lia
    · rw [if_neg hk, List.length_cons, List.length_cons]; lia

theorem RelO.some_of {v : V} {o : Option Value} (r : RelO (some v) o) : ∃ u, o = some u ∧ RelV v u := by
  cases o with
  | none => exact (show False from r).elim
  | some u => exact ⟨u, rfl, r⟩
theorem RelO.none_of {o : Option Value} (r : RelO none o) : o = none := by
  cases o with
  | none => rfl
  | some u => exact (show False from r).elim
theorem handed_of {v : V} {u : Value} (r : RelV v u) : PySem.W.handedIn u = true := by
  cases v with
  | non => cases (show u = Value.none from r); rfl
  | bl b => cases (show u = Value.bool b from r); rfl
  | int i => obtain ⟨t, e⟩ := (show ∃ t, u = Value.int i t from r); cases e; rfl
  | str x => obtain ⟨t, e⟩ := (show ∃ t, u = Value.str x t from r); cases e; rfl
  | byt b => obtain ⟨t, e⟩ := (show ∃ t, u = Value.bytes b t from r); cases e; rfl
  | flt b => obtain ⟨t, e⟩ := (show ∃ t, u = Value.float b t from r); cases e; rfl
  | ref a => cases (show u = Value.ref a from r); rfl
  | ty n => cases (show u = Value.type n from r); rfl

section
variable {P : Program} {w : World} {H H' : Hp} {h h' : Heap} {a C dx : Addr} {fs fs' : List (Str × V)}
theorem ins_get (hok : HOk P w H h) (e : H a = some (.ins C dx fs)) : ∃ mA, ObjM h a dx C mA ∧ (∀ f, RelO (fs.lookup f) (mA f)) ∧ PySem.Within mA (fs.map (·.1)) ∧ fs.length ≤ 1000 ∧ H dx = some (.own a) := by
  obtain ⟨d, z, ne, ob, mA, n, r, q⟩ := (show ObjOk P w H h a (.ins C dx fs) from hok a _ e)
  exact ⟨mA, ⟨ob, n, ne⟩, r, q, z, d⟩
end

structure Cls (K : PySem.W.Frag) (C : Addr) : Prop where
  pg : PySem.W.plainGet K C Str.empty = true
  hd : PySem.W.hasDictIn K C = true
  po : PySem.W.plainOver K C = true
  sa : PySem.W.findIn K (.ref C) "__setattr__" = some (some (.builtin "object.__setattr__"))
theorem Cls.get {K : PySem.W.Frag} {C : Addr} (c : Cls K C) (f : Str) : PySem.W.plainGet K C f = true := c.pg
def NoAttr (K : PySem.W.Frag) (C : Addr) (f : Str) : Prop := PySem.W.findIn K (.ref C) f = some none
theorem NoAttr.taker {K : PySem.W.Frag} {C : Addr} {f : Str} (n : NoAttr K C f) : PySem.W.takerIn K C f = some none := by
  unfold PySem.W.takerIn
  rw [show PySem.W.findIn K (.ref C) f = some none from n]
  rfl
structure Meth (K : PySem.W.Frag) (C : Addr) (m : Str) (f : Addr) : Prop where
  at_ : PySem.W.findIn K (.ref C) m = some (some (.ref f))
  fn : PySem.W.isFn K (.ref f) = true
  kp : PySem.W.keepIn K (.ref f) = true

section
variable {X : Cx} {pins : List (Addr × Obj)} {σ : St} {H : Hp} {s : Shared} {a C dx : Addr} {fs : List (Str × V)} {f : Str} {v : V} {A : Around} {E : Value → Shared → Prop}

theorem getattr_ok {b : Bool} {Q : Value → Shared → Prop} (I : Inv X pins σ H s) (e : H a = some (.ins C dx fs)) (c : Cls X.K C) (n : NoAttr X.K C f) (l : fs.lookup f = some v)
    (h : ∀ u s', Inv X pins σ H s' → RelV v u → Q u s') : wpAny (model X.prog X.w) A (getAttr (.ref a) f b) Q E s := by
  obtain ⟨mA, O, r, _, _, _⟩ := ins_get I.hok e
  obtain ⟨u, hu, ru⟩ := RelO.some_of (v := v) (o := mA f) (by rw [← l]; exact r f)
  exact get_map I.kIn O (c.get f) c.hd n hu (handed_of ru) (h u _ (I.tok _) ru)

theorem getmeth_ok {m : Str} {g : Addr} {pl : Sem Bool} {Q : Value × List Value → Shared → Prop} (I : Inv X pins σ H s) (e : H a = some (.ins C dx fs)) (c : Cls X.K C) (k : Meth X.K C m g) (l : fs.lookup m = none)
    (h : Q (.ref g, [.ref a]) s) : wpAny (model X.prog X.w) A (getMethod (.ref a) m pl) Q E s := by
  obtain ⟨mA, O, r, _, _, _⟩ := ins_get I.hok e
  have hn : mA m = none := RelO.none_of (by rw [← l]; exact r m)
  exact get_meth I.kIn O (c.get m) k.at_ k.fn hn h

theorem setattr_ok {y : V} {u : Value} {Q : Unit → Shared → Prop} (I : Inv X pins σ H s) (e : H a = some (.ins C dx fs)) (c : Cls X.K C) (n : NoAttr X.K C f) (hl : fs.length < 1000) (ry : RelV y u)
    (h : ∀ s', Inv X pins σ (upd H a (.ins C dx (putF f y fs))) s' → Q () s') : wpAny (model X.prog X.w) A (setAttr (.ref a) f u) Q E s := by
  obtain ⟨mA, O, r, wi, _, ho⟩ := ins_get I.hok e
  have hz : (fs.map (·.1)).length ≤ sizeLine := by rw [List.length_map, sizeLine_eq]; lia
  refine set_map I.kIn O c.sa c.po n.taker c.hd wi hz fun h' O' sb => h _ ?_
  have hd : ∃ o, h'.get? dx = some o := let ⟨o, _, _, e', _⟩ := O'.ns; ⟨o, e'⟩
  refine I.write (x := a) (e := dx) (by rw [e]; exact True.intro) (.inr ho) (fun b q hb z => (sb.2 b hb).trans z) hd ?_
  refine ⟨by rw [upd_ne O.ne]; exact ho, ?_, O.ne, O'.obj, _, O'.ns, fun g => ?_, fun g hg => ?_⟩
  · have := length_putF f y fs; lia
  · show RelO ((putF f y fs).lookup g) (if g = f then some u else mA g)
    rw [lookup_putF]
    by_cases q : g = f
    · rw [if_pos q, if_pos q]; exact ry
    · rw [if_neg q, if_neg q]; exact r g
  · by_cases q : g = f
    · rw [q]; exact (keys_putF f y fs).1
    · refine (keys_putF f y fs).2 g (wi g fun z => hg ?_)
      show (if g = f then some u else mA g) = none
      rw [if_neg q]; exact z

theorem Inv.made (I : Inv X pins σ H s) : Inv X pins σ (upd (upd H s.heap.objs.size (.own (s.heap.objs.size + 1))) (s.heap.objs.size + 1) (.ins C s.heap.objs.size []))
    { s with heap := (s.heap.push PySem.W.emptyDict).push (PySem.W.instObj C s.heap.objs.size) } := by
  have e1 : (s.heap.push PySem.W.emptyDict).get? s.heap.objs.size = some PySem.W.emptyDict := Heap.get?_push_size s.heap rfl
  have e2 : ((s.heap.push PySem.W.emptyDict).push (PySem.W.instObj C s.heap.objs.size)).get? (s.heap.objs.size + 1) = some (PySem.W.instObj C s.heap.objs.size) := by
    have := Heap.get?_push_size (s.heap.push PySem.W.emptyDict) (o := PySem.W.instObj C s.heap.objs.size) rfl
    rwa [Heap.size_push] at this
  have e3 : (s.heap.push PySem.W.emptyDict).Ns s.heap.objs.size (fun _ => none) := ⟨PySem.W.emptyDict, #[], _, e1, rfl, (fun e he => absurd he (by simp)), fun _ => rfl⟩
  have I1 := I.laid (a := s.heap.objs.size) (o := .own (s.heap.objs.size + 1)) (h' := s.heap.push PySem.W.emptyDict) (t' := s.toks) (fun b u q => Heap.get?_push_of_some _ q) (Nat.le_refl _) ⟨_, e1⟩
  refine I1.laid (a := s.heap.objs.size + 1) (o := .ins C s.heap.objs.size []) (t' := s.toks) (fun b u q => Heap.get?_push_of_some _ q) (Nat.le_of_eq (Heap.size_push _ _)) ?_
  have ne : s.heap.objs.size ≠ s.heap.objs.size + 1 := Nat.ne_of_lt (Nat.lt_succ_self _)
  refine ⟨by rw [upd_ne ne, upd_same], Nat.zero_le _, ne, e2, fun _ => none, (Heap.Ns1.of_empty e3).at fun o q => Heap.get?_push_of_some _ q, fun _ => True.intro, fun y hy => absurd rfl hy⟩

theorem attr_of {prog : Program} {w : World} {env : Env} {e : Expr} {f : Str} {pos : Pos} {s : Shared} {Q : Value → Shared → Prop} (hb : attributeBase e f env (eval e env) = eval e env)
    (h : wpAny (model prog w) A (eval e env) (fun o s₁ => wpAny (model prog w) A (getAttr o f true) Q E s₁) E s) : wpAny (model prog w) A (eval (.Attribute e f pos) env) Q E s :=
  Attribute_any_ h (by rw [arm_eval_Attribute, hb])
end

def tFld (K : PySem.W.Frag) (ta : TE) (f : Str) : TE := fun σ H Q => ta σ H fun x H1 => ∃ a C dx fs v, x = .ref a ∧ H1 a = some (.ins C dx fs) ∧ Cls K C ∧ NoAttr K C f ∧ fs.lookup f = some v ∧ Q v H1
def sFld (K : PySem.W.Frag) (ta tv : TE) (f : Str) : TS := fun D σ H => tv σ H fun y H1 => ta σ H1 fun x H2 => ∃ a C dx fs, x = .ref a ∧ H2 a = some (.ins C dx fs) ∧ Cls K C ∧ NoAttr K C f ∧ fs.length < 1000 ∧
  D.nx σ (upd H2 a (.ins C dx (putF f y fs)))
section
variable {X : Cx} {o e value : Expr} {f : Str} {pos pos' tpos : Pos} {ta tv : TE}
theorem pe_fld (he : PE X e ta) (hb : attributeBase e f X.env (eval e X.env) = eval e X.env) : PE X (.Attribute e f pos) (tFld X.K ta f) := by
  intro pins s σ H Q I h
  refine attr_of hb (thn (he pins s σ H _ I h) fun u s1 ⟨x, H1, I1, rx, a, C, dx, fs, v, ex, ea, c, n, l, q⟩ => ?_)
  subst ex
  obtain rfl : u = Value.ref a := rx
  exact getattr_ok I1 ea c n l fun u' s2 I2 ru => ⟨v, H1, I2, ru, q⟩
theorem ps_fld (ha : PE X o ta) (hv : PE X value tv) (hs : swapsWith value (some (.Attribute o f pos')) pos.line X.env = pure false) : PS X (.Assign [.Attribute o f pos'] value pos) (sFld X.K ta tv f) := by
  intro pins s σ H D I h
  refine plainObj_wpAny_Assign_Attribute (thn (hv pins s σ H _ I h) fun u s1 ⟨y, H1, I1, ry, q⟩ => thn (ha pins s1 σ H1 _ I1 q) fun ov s2 ⟨x, H2, I2, rx, a, C, dx, fs, ex, ea, c, n, l, q2⟩ => ?_) hs
  subst ex
  obtain rfl : ov = Value.ref a := rx
  exact setattr_ok I2 ea c n l ry fun s3 I3 => ⟨σ, _, I3, q2⟩
end

section
variable {X : Cx} {pins : List (Addr × Obj)} {σ : St} {H : Hp} {s : Shared} {A : Around} {E : Value → Shared → Prop} {Q : Value → Shared → Prop} {c : Value} {b : Bool}
inductive TyOf (K : PySem.W.Frag) (H : Hp) : V → Value → Prop where
  | non : TyOf K H .non (.type "NoneType")
  | bl (x : Bool) : TyOf K H (.bl x) (.type "bool")
  | int (i : Int) : TyOf K H (.int i) (.type "int")
  | str (x : Str) : TyOf K H (.str x) (.type "str")
  | flt (x : UInt64) : TyOf K H (.flt x) (.type "float")
  | lst {a : Addr} {xs : List V} (e : H a = some (.lst xs)) : TyOf K H (.ref a) (.type "list")
  | frz {a : Addr} {o : Obj} {xs : List V} (e : H a = some (.frz o (.lst xs))) : TyOf K H (.ref a) (.type "list")
  | tup {a : Addr} {xs : List V} (e : H a = some (.tup xs)) : TyOf K H (.ref a) (.type "tuple")
  | dK {a : Addr} {kvs : List (Key × V)} (e : H a = some (.dK kvs)) : TyOf K H (.ref a) (.type "dict")
  | dT {a : Addr} {kvs : List (List Key × V)} (e : H a = some (.dT kvs)) : TyOf K H (.ref a) (.type "dict")
  | ins {a C dx : Addr} {fs : List (Str × V)} (e : H a = some (.ins C dx fs)) (cl : Cls K C) (ha : PySem.W.findIn K (.ref C) "__class__" = some (some (.builtin "object.__class__")))
      (hn : PySem.W.specialIn K (.builtin "object.__class__") "__get__" = some (some (.builtin "getset_descriptor.__get__"))) (htk : PySem.W.takesIn K (.builtin "object.__class__") = some true)
      (hm : PySem.W.mroIn K C (.type "object") = some true) : TyOf K H (.ref a) (.ref C)
theorem isinst_ok {x : V} {u t : Value} (I : Inv X pins σ H s) (rx : RelV x u) (ty : TyOf X.K H x t) (e : PySem.W.kitOne X.K t c = some b) (h : ∀ tk, Q (.bool b) { s with toks := tk }) :
    wpAny (model X.prog X.w) A (call (.builtin "isinstance") [u, c]) Q E s := by
  cases ty with
  | non => cases (show u = Value.none from rx); exact PySem.W.kia_one PySem.W.kitx_none I.kIn True.intro e (fun z => nomatch z) h
  | bl y => cases (show u = Value.bool y from rx); exact PySem.W.kia_one PySem.W.kitx_bool I.kIn True.intro e (fun z => nomatch z) h
  | int i => obtain ⟨t, q⟩ := (show ∃ t, u = Value.int i t from rx); cases q; exact PySem.W.kia_one PySem.W.kitx_int I.kIn True.intro e (fun z => nomatch z) h
  | str y => obtain ⟨t, q⟩ := (show ∃ t, u = Value.str y t from rx); cases q; exact PySem.W.kia_one PySem.W.kitx_str I.kIn True.intro e (fun z => nomatch z) h
  | flt y => obtain ⟨t, q⟩ := (show ∃ t, u = Value.float y t from rx); cases q; exact PySem.W.kia_one PySem.W.kitx_float I.kIn True.intro e (fun z => nomatch z) h
  | @lst a xs ea =>
    cases (show u = Value.ref a from rx)
    obtain ⟨_, _, n, _, h1⟩ := (show ObjOk X.prog X.w H s.heap a (.lst xs) from I.hok a _ ea)
    exact PySem.W.kia_one PySem.W.kitx_list I.kIn ⟨_, h1, rfl⟩ e (fun z => nomatch z) h
  | @frz a ob xs ea =>
    cases (show u = Value.ref a from rx)
    obtain ⟨_, _, _, n, _, h1⟩ := (show ObjOk X.prog X.w H s.heap a (.frz ob (.lst xs)) from I.hok a _ ea)
    exact PySem.W.kia_one PySem.W.kitx_list I.kIn ⟨_, h1, rfl⟩ e (fun z => nomatch z) h
  | @tup a xs ea =>
    cases (show u = Value.ref a from rx)
    obtain ⟨_, _, _, p⟩ := (show ObjOk X.prog X.w H s.heap a (.tup xs) from I.hok a _ ea)
    obtain ⟨o, h1, h2, _⟩ := p
    exact PySem.W.kia_one PySem.W.kitx_tuple I.kIn ⟨o, h1, h2⟩ e (fun z => nomatch z) h
  | @dK a kvs ea =>
    cases (show u = Value.ref a from rx)
    obtain ⟨_, _, vs, _, p⟩ := (show ObjOk X.prog X.w H s.heap a (.dK kvs) from I.hok a _ ea)
    obtain ⟨o, es, ep, h1, h2, _⟩ := p
    exact PySem.W.kia_one PySem.W.kitx_dict I.kIn ⟨o, h1, h2.1⟩ e (fun z => nomatch z) h
  | @dT a kvs ea =>
    cases (show u = Value.ref a from rx)
    obtain ⟨_, _, xs, _, o, es, ep, h1, h2, _⟩ := (show ObjOk X.prog X.w H s.heap a (.dT kvs) from I.hok a _ ea)
    exact PySem.W.kia_one PySem.W.kitx_dict I.kIn ⟨o, h1, h2.1⟩ e (fun z => nomatch z) h
  | @ins a C dx fs ea cl ha hn htk hm =>
    cases (show u = Value.ref a from rx)
    obtain ⟨mA, O, _⟩ := ins_get I.hok ea
    obtain ⟨od, J, _⟩ := O.look
    exact PySem.W.kia_one (PySem.W.kitx_own (cl.get _) cl.hd ha hn htk hm) I.kIn J e (fun z => nomatch z) h
end
end L2

namespace L2
open PySem PySem.Spec PyProof.Rows

structure Room (k : Nat) (A : Around) : Prop where
  hd : A.handled = none
  dp : A.depth + 3 * k + 5 < recursionLimit
  un : A.units + 16 * k + 200 < cLine
theorem Room.mono {j k : Nat} {A : Around} (r : Room k A) (h : j ≤ k) : Room j A := ⟨r.hd, by have := r.dp; lia, by have := r.un; lia⟩
theorem Room.deeper {k : Nat} {A : Around} (r : Room (k + 1) A) (env : Env) : Room k (A.deeper env) :=
  ⟨r.hd, by have := r.dp; show A.depth + 1 + 3 * k + 5 < _; lia, by have := r.un; show A.units + 3 + 16 * k + 200 < _; lia⟩
theorem Room.in1 {k : Nat} {A : Around} (r : Room (k + 1) A) : Room k A.in1 :=
  ⟨r.hd, by have := r.dp; show A.depth + 3 * k + 5 < _; lia, by have := r.un; show A.units + 1 + 16 * k + 200 < _; lia⟩
theorem make_depth {A : Around} {C : Addr} {us : List Value} {kw : List (Str × Value)} : (A.under (.builtin "type.__call__" ⟨.ref C :: us, kw⟩)).depth = A.depth + 1 := by
  first | rfl | simp [Around.under, Code.weight, Code.isCreation, Code.isGuard, Code.isCaller, Code.frames, Code.isFrame, guardIds]
theorem make_units {A : Around} {C : Addr} {us : List Value} {kw : List (Str × Value)} : (A.under (.builtin "type.__call__" ⟨.ref C :: us, kw⟩)).units = A.units + 1 := by
  first | rfl | simp [Around.under, Code.cUnits, Code.frames, Code.isFrame]
theorem Room.make {k : Nat} {A : Around} (r : Room (k + 1) A) (C : Addr) (us : List Value) (kw : List (Str × Value)) : Room k (A.under (.builtin "type.__call__" ⟨.ref C :: us, kw⟩)) :=
  ⟨r.hd, by have := r.dp; rw [make_depth]; lia, by have := r.un; rw [make_units]; lia⟩
theorem Room.depth {k : Nat} {A : Around} (r : Room k A) : A.depth < recursionLimit := by have := r.dp; lia
theorem Room.units {k : Nat} {A : Around} (r : Room k A) : A.units + 64 < cLine := by have := r.un; lia
def tNil : TA := fun _ H Q => Q [] H
def tCons (ta : TE) (tr : TA) : TA := fun σ H Q => ta σ H fun x H1 => tr σ H1 fun xs H2 => Q (x :: xs) H2
section
variable {X : Cx} {e : Expr} {es : List Expr} {te : TE} {t : TA} {pos : Pos}
theorem pa_nil : PA X [] tNil := fun _ _ _ _ H Q I h => Calls.spliced_nil ⟨[], H, I, .nil, h⟩
theorem pa_cons (ha : PE X e te) (hr : PA X es t) (hs : starEach (e :: es) X.env = (false, eval e X.env) :: starEach es X.env := by rfl) : PA X (e :: es) (tCons te t) := by
  intro pos pins s σ H Q I h
  rw [hs]
  show wpAny _ _ (spliced ((false, eval e X.env) :: backTo pos (starEach es X.env))) _ _ s
  refine Calls.spliced_cons (thn (ha pins s σ H _ I h) fun u s1 ⟨x, H1, I1, r1, q1⟩ => ?_)
  exact thn (hr pos pins s1 σ H1 _ I1 q1) fun us s2 ⟨xs, H2, I2, r2, q2⟩ => ⟨x :: xs, H2, I2, .cons r1 r2, q2⟩

def tTup (t : TA) : TE := fun σ H Q => t σ H fun xs H1 => xs.length ≤ sizeLine ∧ ∀ p, H1 p = none → Q (.ref p) (upd H1 p (.tup xs))
def tLst (t : TA) : TE := fun σ H Q => t σ H fun xs H1 => xs.length ≤ sizeLine ∧ ∀ p, H1 p = none → Q (.ref p) (upd H1 p (.lst xs))
theorem pe_tup {x1} (h : PA X es t) : PE X (.Tuple es x1 pos) (tTup t) := by
  intro pins s σ H Q I hq
  refine wpAny_Tuple_spliced (thn (h pos pins s σ H _ I hq) fun us s1 ⟨xs, H1, I1, r, z, q⟩ => ⟨by rw [← r.length]; exact z, ?_⟩)
  have hf : H1 s1.heap.objs.size = none := I1.hok.fresh (Nat.le_refl _)
  refine ⟨.ref s1.heap.objs.size, upd H1 s1.heap.objs.size (.tup xs), I1.laid (t' := s1.toks) (fun b u e => Heap.get?_push_of_some _ e) (Nat.le_refl _) ?_, rfl, q _ hf⟩
  exact ⟨z, us, r, ⟨_, Heap.get?_push_size _ rfl, rfl, _, rfl⟩⟩
theorem pe_lst (h : PA X es t) : PE X (.List es pos) (tLst t) := by
  intro pins s σ H Q I hq
  refine wpAny_List_spliced (thn (h pos pins s σ H _ I hq) fun us s1 ⟨xs, H1, I1, r, z, q⟩ => ⟨by rw [← r.length]; exact z, ?_⟩)
  have hf : H1 s1.heap.objs.size = none := I1.hok.fresh (Nat.le_refl _)
  refine ⟨.ref s1.heap.objs.size, upd H1 s1.heap.objs.size (.lst xs), I1.laid (t' := s1.toks) (fun b u e => Heap.get?_push_of_some _ e) (Nat.le_refl _) ?_, rfl, q _ hf⟩
  exact ⟨z, us, 0, r, Heap.get?_push_size _ rfl⟩
end

abbrev Sp := List V → Hp → VK → XK → Prop
abbrev CXT := List Env → Hp → Shared → XK → Value → Shared → Prop

structure Env0 (P : Program) (w : World) (K : PySem.W.Frag) (mg : Str → Option Value) (base : Heap) (A : Around) (outer : List Env) (s : Shared) (H : Hp) : Prop where
  frames : A.frames = some outer
  mod : Mod K mg base
  bs : ∀ b o, base.get? b = some o → s.heap.get? b = some o ∧ H b = none
  bsz : base.objs.size ≤ s.heap.objs.size
  funs : s.heap.FunFrames base outer
  frf : ∀ b ∈ frs outer, H b = none
  hok : HOk P w H s.heap
  bare : AllBare s.gens
def CE (outer : List Env) (P : Program) (w : World) (H : Hp) (s : Shared) (Q : VK) (u : Value) (s' : Shared) : Prop :=
  ∃ v H', s'.os = s.os ∧ AllBare s'.gens ∧ Un (frs outer) [] H H' s.heap s'.heap ∧ HOk P w H' s'.heap ∧ RelV v u ∧ Q v H'
def CR (CX : CXT) (outer : List Env) (P : Program) (w : World) (H : Hp) (s : Shared) (Q : VK) (E : XK) (r : Result) (s' : Shared) : Prop :=
  match r with
  | .ok (.ret u) => CE outer P w H s Q u s'
  | .ok _ => False
  | .error e => CX outer H s E e s'
structure FnOk (P : Program) (w : World) (K : PySem.W.Frag) (mg : Str → Option Value) (base : Heap) (CX : CXT) (k : Nat) (f : Addr) (fd : FuncData) (ps : List Str) (sp : Sp) : Prop where
  len : ∀ vs H Q E, sp vs H Q E → vs.length = ps.length
  run : ∀ (A : Around) (outer : List Env) (s : Shared) (H : Hp) (args : Args) (us : List Value) (vs : List V) (Q : VK) (E : XK), Room k A → Env0 P w K mg base A outer s H → BindsTo s fd args (ps.zip us) → Vals vs us → sp vs H Q E →
    codeAny (model P w) A (.call (.ref f) args) (CR CX outer P w H s Q E) s
theorem Env0.make {P : Program} {w : World} {K : PySem.W.Frag} {mg : Str → Option Value} {base : Heap} {A : Around} {outer : List Env} {s : Shared} {H : Hp} (e : Env0 P w K mg base A outer s H) (C : Addr) (us : List Value) (kw : List (Str × Value)) :
    Env0 P w K mg base (A.under (.builtin "type.__call__" ⟨.ref C :: us, kw⟩)) outer s H := ⟨by first | exact e.frames | (simpa [Around.under, Code.envs, Code.isFrame, pushEnvs] using e.frames), e.mod, e.bs, e.bsz, e.funs, e.frf, e.hok, e.bare⟩
theorem Env0.in1 {P : Program} {w : World} {K : PySem.W.Frag} {mg : Str → Option Value} {base : Heap} {A : Around} {outer : List Env} {s : Shared} {H : Hp} (e : Env0 P w K mg base A outer s H) :
    Env0 P w K mg base A.in1 outer s H := ⟨e.frames, e.mod, e.bs, e.bsz, e.funs, e.frf, e.hok, e.bare⟩

section
variable {X : Cx} {pins : List (Addr × Obj)} {σ : St} {H : Hp} {s s' : Shared}
theorem Inv.env0 (I : Inv X pins σ H s) : Env0 X.prog X.w X.K X.mg X.base X.A X.stack s H :=
  ⟨I.ok.frames, I.ok.mod, I.bs, Nat.le_trans I.ok.bsz I.sz, I.stack, I.stkFree, I.hok, I.bare⟩
theorem Inv.after {Q : VK} {u : Value} (I : Inv X pins σ H s) (h : CE X.stack X.prog X.w H s Q u s') : EP X pins σ Q u s' := by
  obtain ⟨v, H', os, bare, un, hok, r, q⟩ := h
  obtain ⟨hh, g, d, t, os'⟩ := s'
  obtain rfl : os' = s.os := os
  exact ⟨v, H', I.call (h' := hh) (g' := g) (d' := d) (t' := t) (ch := []) un hok bare (fun b z => absurd z (by simp)), r, q⟩
end

def tCall (sp : Sp) (dvs : List V) (E : XK) (t : TA) : TE := fun σ H Q => t σ H fun vs H1 => sp (vs ++ dvs) H1 Q E
def tMeth (C : Addr) (m : Str) (sp : Sp) (dvs : List V) (E : XK) (ta : TE) (t : TA) : TE := fun σ H Q => ta σ H fun x H1 => ∃ a dx fs, x = .ref a ∧ H1 a = some (.ins C dx fs) ∧ fs.lookup m = none ∧
  t σ H1 fun vs H2 => sp (x :: (vs ++ dvs)) H2 Q E
def tMake (C : Addr) (sp : Sp) (dvs : List V) (E : XK) (t : TA) : TE := fun σ H Q => t σ H fun vs H1 => ∀ x dx, H1 x = none → H1 dx = none → dx ≠ x →
  sp (.ref x :: (vs ++ dvs)) (upd (upd H1 dx (.own x)) x (.ins C dx [])) (fun v H2 => v = .non ∧ Q (.ref x) H2) E

def Binds (K : PySem.W.Frag) (fd : FuncData) (ps : List Str) (ds : List Value) : Prop :=
  ∀ (s : Shared) (us : List Value), K.In s.heap → (us ++ ds).length = ps.length → BindsTo s fd ⟨us, []⟩ (ps.zip (us ++ ds))
theorem Binds.all {K : PySem.W.Frag} {fd : FuncData} {ps : List Str} (h : ∀ us : List Value, us.length = ps.length → bindArgs fd ⟨us, []⟩ = pure (ps.zip us)) : Binds K fd ps [] := fun s us _ hl => by
  rw [List.append_nil] at hl ⊢
  exact .of_eq (h us hl)

def Passes (CX : CXT) (X : Cx) (E : XK) : Prop := ∀ (pins : List (Addr × Obj)) (σ : St) (H : Hp) (s : Shared) (e : Value) (s' : Shared), Inv X pins σ H s → CX X.stack H s E e s' → X.xe e s'

section
variable {X : Cx} {CX : CXT} {k : Nat} {f C : Addr} {fd : FuncData} {ps : List Str} {sp : Sp} {dvs : List V} {ds : List Value} {E : XK} {x m : Str} {p pos apos : Pos} {e o : Expr} {es : List Expr} {ta : TE} {t : TA}

theorem run_fn {pins : List (Addr × Obj)} {σ : St} {H : Hp} {s : Shared} {Q : VK} {us : List Value} {vs : List V} (F : FnOk X.prog X.w X.K X.mg X.base CX k f fd ps sp) (hr : Room k X.A) (hb : Binds X.K fd ps ds) (hd : Vals dvs ds) (hx : Passes CX X E)
    (I : Inv X pins σ H s) (r : Vals vs us) (h : sp (vs ++ dvs) H Q E) : wpAny (model X.prog X.w) X.A (call (.ref f) us) (EP X pins σ Q) X.xe s := by
  have r2 : Vals (vs ++ dvs) (us ++ ds) := r.append hd
  have hl : (us ++ ds).length = ps.length := by rw [← r2.length]; exact F.len _ _ _ _ h
  refine wpAny_call (codeAny_mono (F.run X.A X.stack s H ⟨us, []⟩ (us ++ ds) (vs ++ dvs) Q E hr I.env0 (hb s us I.kIn hl) r2 h) fun r s' hq => ?_)
  cases r with
  | error e => exact hx pins σ H s e s' I hq
  | ok fl =>
    cases fl with
    | ret u => exact I.after hq
    | next => exact False.elim hq
    | brk => exact False.elim hq
    | cont => exact False.elim hq

theorem pe_call (F : FnOk X.prog X.w X.K X.mg X.base CX k f fd ps sp) (hr : Room k X.A) (hg : Gl X x) (hm : X.mg x = some (.ref f)) (hk : PySem.W.keepIn X.K (.ref f) = true) (hb : Binds X.K fd ps ds) (hd : Vals dvs ds) (hx : Passes CX X E)
    (ha : PA X (e :: es) t) (hdb : (x == ("__debug__" : Str)) = false := by decide) (he : starEach (e :: es) X.env = (false, eval e X.env) :: starEach es X.env := by rfl) (hpl : (backTo pos (starEach es X.env)).any (·.1) = false := by rfl) :
    PE X (.Call (.Name x p) (e :: es) [] pos) (tCall sp dvs E t) := by
  intro pins s σ H Q I h
  refine wpAny_Call_Name_kw (ld_glob I hg hm ?_ hdb)
  refine PySem.W.callWith_K (h₀ := X.base) I.ok.mod.kin hk (thn (ha pos pins s σ H _ I h) fun us s1 ⟨vs, H1, I1, r, q⟩ => ⟨I1.kIn, ?_⟩) he hpl
  exact run_fn F hr hb hd hx I1 r q
theorem pe_meth {pl : Sem Bool} (he : PE X o ta) (c : Cls X.K C) (hm : Meth X.K C m f) (F : FnOk X.prog X.w X.K X.mg X.base CX k f fd ps sp) (hr : Room k X.A) (hb : Binds X.K fd ps ds) (hd : Vals dvs ds) (hx : Passes CX X E) (ha : PA X (e :: es) t)
    (hst : starEach (e :: es) X.env = (false, eval e X.env) :: starEach es X.env := by rfl) (hpl : (backTo pos (starEach es X.env)).any (·.1) = false := by rfl)
    (ht : eval (.Call (.Attribute o m apos) (e :: es) [] pos) X.env = (do
      let ov ← eval o X.env
      standAt apos.atName
      let (f, first) ← holding [ov] (getMethod ov m pl)
      callWith pos f first (backTo pos (starEach (e :: es) X.env)) (backToKw pos (keywordEach [] X.env))) := by rfl) :
    PE X (.Call (.Attribute o m apos) (e :: es) [] pos) (tMeth C m sp dvs E ta t) := by
  intro pins s σ H Q I h
  refine PySem.W.methodCall_KW (pl := pl) (thn (he pins s σ H _ I h) fun u s1 ⟨x, H1, I1, rx, a, dx, fs, ex, ea, l, q⟩ => ?_) ht
  subst ex
  obtain rfl : u = Value.ref a := rx
  refine getmeth_ok I1 ea c hm l ?_
  refine PySem.W.callWith_K (first := [.ref a]) (h₀ := X.base) I.ok.mod.kin hm.kp (thn (ha pos pins s1 σ H1 _ I1 q) fun us s2 ⟨vs, H2, I2, r, q2⟩ => ⟨I2.kIn, ?_⟩) hst hpl
  exact run_fn (us := .ref a :: us) (vs := .ref a :: vs) F hr hb hd hx I2 (.cons rfl r) q2
structure Mk (K : PySem.W.Frag) (C f : Addr) : Prop where
  makes : PySem.W.makesIn K C = true
  init : PySem.W.findIn K (.ref C) "__init__" = some (some (.ref f))
  fn : PySem.W.isFn K (.ref f) = true
  kp : PySem.W.keepIn K (.ref C) = true

theorem run_make {pins : List (Addr × Obj)} {σ : St} {H : Hp} {s : Shared} {Q : VK} {us : List Value} {vs : List V} (M : Mk X.K C f) (F : FnOk X.prog X.w X.K X.mg X.base CX k f fd ps sp) (hr : Room (k + 1) X.A) (hb : Binds X.K fd ps ds) (hd : Vals dvs ds)
    (hx : Passes CX X E) (I : Inv X pins σ H s) (r : Vals vs us)
    (h : ∀ x dx, H x = none → H dx = none → dx ≠ x → sp (.ref x :: (vs ++ dvs)) (upd (upd H dx (.own x)) x (.ins C dx [])) (fun v H2 => v = .non ∧ Q (.ref x) H2) E) :
    wpAny (model X.prog X.w) X.A (call (.ref C) us) (EP X pins σ Q) X.xe s := by
  have hq := h (s.heap.objs.size + 1) s.heap.objs.size (I.hok.fresh (Nat.le_succ _)) (I.hok.fresh (Nat.le_refl _)) (Nat.ne_of_lt (Nat.lt_succ_self _))
  have I2 := Inv.made (C := C) I
  have r2 : Vals (V.ref (s.heap.objs.size + 1) :: (vs ++ dvs)) (Value.ref (s.heap.objs.size + 1) :: (us ++ ds)) := .cons rfl (r.append hd)
  have hl : (Value.ref (s.heap.objs.size + 1) :: us ++ ds).length = ps.length := by
    have e := r2.length
    rw [F.len _ _ _ _ hq] at e
    exact e.symm
  refine wpAny_call (make_map (f := f) I.kIn M.makes M.init (beq_iff_eq.mp M.fn) (codeAny_mono (F.run _ X.stack _ _ ⟨Value.ref (s.heap.objs.size + 1) :: us, []⟩ (Value.ref (s.heap.objs.size + 1) :: (us ++ ds)) _ _ E (hr.make C us [])
    (I2.env0.make C us []) (hb _ (Value.ref (s.heap.objs.size + 1) :: us) I2.kIn hl) r2 hq) fun r s' hq' => ?_))
  cases r with
  | error e => exact hx pins σ _ _ e s' I2 hq'
  | ok fl =>
    cases fl with
    | ret u =>
      obtain ⟨v, H', I3, rv, ev, q3⟩ := I2.after hq'
      subst ev
      exact ⟨rv, ⟨V.ref (s.heap.objs.size + 1), H', I3, rfl, q3⟩⟩
    | next => exact False.elim hq'
    | brk => exact False.elim hq'
    | cont => exact False.elim hq'
theorem pe_make0 (M : Mk X.K C f) (F : FnOk X.prog X.w X.K X.mg X.base CX k f fd ps sp) (hr : Room (k + 1) X.A) (hg : Gl X x) (hm : X.mg x = some (.ref C)) (hb : Binds X.K fd ps ds) (hd : Vals dvs ds) (hx : Passes CX X E)
    (hdb : (x == ("__debug__" : Str)) = false := by decide) : PE X (.Call (.Name x p) [] [] pos) (tMake C sp dvs E tNil) := by
  intro pins s σ H Q I h
  refine wpAny_Call_Name_kw (ld_glob I hg hm ?_ hdb)
  exact PySem.W.callWith_K0 I.kIn M.kp (run_make (us := []) M F hr hb hd hx I .nil h)
end

def PK (X : Cx) (kws : List Keyword) (t : TA) : Prop :=
  ∀ (pos : Pos) (pins : List (Addr × Obj)) (s : Shared) (σ : St) (H : Hp) (Q : List V → Hp → Prop), Inv X pins σ H s → t σ H Q → wpAny (model X.prog X.w) X.A (evalAll ((backToKw pos (keywordEach kws X.env)).map (·.2))) (AP X pins σ Q) X.xe s
section
variable {X : Cx} {CX : CXT} {k : Nat} {f C : Addr} {fd : FuncData} {ps ks : List Str} {sp : Sp} {E : XK} {x m : Str} {p pos apos kpos : Pos} {e o : Expr} {es : List Expr} {kws : List Keyword} {te ta : TE} {t tk : TA} {nm : Option Str}
theorem pk_nil : PK X [] tNil := fun _ _ _ _ H Q I h => wpAny_evalAll_nil ⟨[], H, I, .nil, h⟩
theorem pk_cons (ha : PE X e te) (hr : PK X kws t) : PK X (⟨nm, e, kpos⟩ :: kws) (tCons te t) := by
  intro pos pins s σ H Q I h
  show wpAny _ _ (evalAll ((do let v ← eval e X.env; standAt pos; pure v) :: (backToKw pos (keywordEach kws X.env)).map (·.2))) _ _ s
  refine wpAny_evalAll_cons (wpAny_bind (thn (ha pins s σ H _ I h) fun u s1 ⟨x, H1, I1, r1, q1⟩ => wpAny_bind (wpAny_standAt (wpAny_pure ?_))))
  exact thn (hr pos pins s1 σ H1 _ I1 q1) fun us s2 ⟨xs, H2, I2, r2, q2⟩ => ⟨x :: xs, H2, I2, .cons r1 r2, q2⟩

variable {g : List Value → List Value → List Value} {gV : List V → List V → List V}
end

structure FnScope (N P : List Str) (sc : Scope) : Prop where
  kind : sc.kind = .function
  co : sc.isCoroutine = false
  gen : sc.isGenerator = false
  nd : N.Nodup
  pre : N.take P.length = P
  par : ∀ x ∈ P, sc.names.lookup x = some .local ∨ sc.names.lookup x = some .cell
  nofree : ∀ y ∈ sc.names, y.2 ≠ .free

theorem bindL_out {kindOf : Str → Option NameKind} {x : Str} : ∀ {binds : List (Str × Value)} {m : Str → Option Value}, (∀ v, (x, v) ∉ binds) → bindL kindOf binds m x = m x
  | [], _, _ => rfl
  | (n, v) :: r, m, h => by
    unfold bindL
    rw [bindL_out fun w hw => h w (List.mem_cons_of_mem _ hw)]
    split
    · have : x ≠ n := by rintro rfl; exact h v List.mem_cons_self
      simp [this]
    · rfl
theorem bindC_out {kindOf : Str → Option NameKind} {x : Str} : ∀ {binds : List (Str × Value)} {m : Str → Option Value}, (∀ v, (x, v) ∉ binds) → bindC kindOf binds m x = m x
  | [], _, _ => rfl
  | (n, v) :: r, m, h => by
    unfold bindC
    rw [bindC_out fun w hw => h w (List.mem_cons_of_mem _ hw)]
    split
    · rfl
    · have : x ≠ n := by rintro rfl; exact h v List.mem_cons_self
      simp [this]
theorem bindL_get {kindOf : Str → Option NameKind} {x : Str} {v : Value} : ∀ {P : List Str} {vs : List Value} {i : Nat} {m : Str → Option Value}, P.Nodup → P[i]? = some x → vs[i]? = some v → kindOf x = some .local →
    bindL kindOf (P.zip vs) m x = some v
  | [], _, _, _, _, h, _, _ => by simp at h
  | _ :: _, [], _, _, _, _, h, _ => by simp at h
  | p :: P, w :: vs, 0, m, nd, h1, h2, hk => by
    simp at h1 h2; subst h1; subst h2
    show bindL kindOf ((p, w) :: P.zip vs) m p = _
    unfold bindL
    rw [bindL_out fun v hv => (List.nodup_cons.mp nd).1 (List.of_mem_zip hv).1, if_pos hk]
    simp
  | p :: P, w :: vs, i + 1, m, nd, h1, h2, hk => by
    show bindL kindOf ((p, w) :: P.zip vs) m x = _
    unfold bindL
    exact bindL_get (i := i) (List.nodup_cons.mp nd).2 (by simpa using h1) (by simpa using h2) hk
theorem bindC_get {kindOf : Str → Option NameKind} {x : Str} {v : Value} : ∀ {P : List Str} {vs : List Value} {i : Nat} {m : Str → Option Value}, P.Nodup → P[i]? = some x → vs[i]? = some v → kindOf x ≠ some .local →
    bindC kindOf (P.zip vs) m x = some v
  | [], _, _, _, _, h, _, _ => by simp at h
  | _ :: _, [], _, _, _, _, h, _ => by simp at h
  | p :: P, w :: vs, 0, m, nd, h1, h2, hk => by
    simp at h1 h2; subst h1; subst h2
    show bindC kindOf ((p, w) :: P.zip vs) m p = _
    unfold bindC
    rw [bindC_out fun v hv => (List.nodup_cons.mp nd).1 (List.of_mem_zip hv).1, if_neg hk]
    simp
  | p :: P, w :: vs, i + 1, m, nd, h1, h2, hk => by
    show bindC kindOf ((p, w) :: P.zip vs) m x = _
    unfold bindC
    exact bindC_get (i := i) (List.nodup_cons.mp nd).2 (by simpa using h1) (by simpa using h2) hk

def start (N : List Str) (vs : List V) : St := vs.map some ++ List.replicate (N.length - vs.length) none

def cxOf (CX : CXT) (P : Program) (w : World) (K : PySem.W.Frag) (mg : Str → Option Value) (base : Heap) (N : List Str) (qual : Str) (scope : Scope) (f : Addr) (cd : Value) (A : Around) (outer : List Env) (s : Shared) (H : Hp) (E : XK) : Cx where
  prog := P
  w := w
  K := K
  mg := mg
  base := base
  A := A.deeper (envOfC qual scope s.heap.objs.size f cd)
  N := N
  s₀ := s
  H₀ := H
  env := envOfC qual scope s.heap.objs.size f cd
  outer := outer
  stack := envOfC qual scope s.heap.objs.size f cd :: outer
  ex := []
  calm := true
  fn := fun _ => true
  pn := []
  xe := fun e s' => wpAny (model P w) (A.deeper (envOfC qual scope s.heap.objs.size f cd)) (leaving (envOfC qual scope s.heap.objs.size f cd) e) (fun _ s'' => CX outer H s E e s'') (fun e' s'' => CX outer H s E e' s'') s'

theorem cell_has {sc : Scope} {n : Nat} {x : Str} (h : sc.names.lookup x = some .cell) : ∃ c, (cellsFrom n sc.names []).lookup x = some c := by
  have q := PySem.W.cellsFrom_some sc.names n [] (.inl h)
  exact Option.isSome_iff_exists.mp q

theorem inv_start {CX : CXT} {P : Program} {w : World} {K : PySem.W.Frag} {mg : Str → Option Value} {base : Heap} {N ps : List Str} {qual : Str} {scope : Scope} {f : Addr} {cd : Value} {A : Around} {outer : List Env} {s s1 : Shared} {H : Hp} {E : XK} {us : List Value} {vs : List V}
    (S : FnScope N ps scope) (hd : A.handled = none) (e0 : Env0 P w K mg base A outer s H) (hl : vs.length = ps.length) (r : Vals vs us)
    (x : InCallC s s.heap.objs.size (bindL (envOfC qual scope s.heap.objs.size f cd).kindOf (ps.zip us) fun _ => none) (cellsFrom (s.heap.objs.size + 1) scope.names []) (bindC (envOfC qual scope s.heap.objs.size f cd).kindOf (ps.zip us) fun _ => none) s1) :
    Inv (cxOf CX P w K mg base N qual scope f cd A outer s H E) [] (start N vs) H s1 := by
  have hpl : ps.length ≤ N.length := by have := congrArg List.length S.pre; rw [List.length_take] at this; lia
  obtain ⟨h1, tk, rfl, hk⟩ := x.done
  have noA : ∀ b : Addr, b ∉ (cxOf CX P w K mg base N qual scope f cd A outer s H E).ex := fun b z => absurd (show b ∈ ([] : List Addr) from z) (by simp)
  refine ⟨⟨e0.mod, S.kind, rfl, rfl, Nat.le_refl _, fun y z c h1 h2 => ?_, fun y hy => ?_, fun y c _ h => ?_, fun _ => hd, Around.frames_deeper e0.frames, .inr ⟨rfl, rfl⟩, fun b z => absurd z (noA b), e0.bs, e0.bsz, fun b _ _ => noA b, fun b z => absurd z (noA b), e0.funs, e0.frf⟩,
    rfl, e0.bare, Un.kept hk, ⟨_, x.toInCall.ns, fun i y v h1 h2 h3 => ?_⟩, fun y c h => ⟨_, x.cell y c h⟩, e0.hok.fresh (Nat.le_refl _), fun y c h => ?_, fun p hp => absurd (show p ∈ ([] : List (Addr × Obj)) from hp) (by simp), e0.hok.kept hk, ?_⟩
  · exact name_of_addr x.apart (PySem.mem_of_lookup h1) (PySem.mem_of_lookup h2)
  · have hy : scope.names.lookup y = some .cell ∨ scope.names.lookup y = some .free := hy
    rcases hy with hy | hy
    · exact cell_has hy
    · exact absurd rfl (S.nofree _ (PySem.mem_of_lookup hy))
  · exact Nat.le_of_lt (x.above y c (PySem.mem_of_lookup h))
  · have hi : i < vs.length := by
      unfold start at h2
      by_cases hi : i < vs.length
      · exact hi
      · rw [List.getElem?_append_right (by simpa using hi)] at h2
        rw [List.getElem?_replicate] at h2
        split at h2 <;> cases h2
    have ha : vs[i]? = some v := by
      unfold start at h2
      rw [List.getElem?_append_left (by simpa using hi), List.getElem?_map] at h2
      cases e : vs[i]? with
      | none => rw [e] at h2; cases h2
      | some a => rw [e] at h2; cases h2; rfl
    obtain ⟨u, hu, rv⟩ := r.get ha
    have hp : ps[i]? = some y := by
      rw [← S.pre, List.getElem?_take_of_lt (by lia)]; exact h1
    have ndP : ps.Nodup := by rw [← S.pre]; exact S.nd.sublist (List.take_sublist _ _)
    refine ⟨u, rv, ?_⟩
    rcases S.par y (List.mem_of_getElem? hp) with k | k
    · exact .inl ⟨k, bindL_get ndP hp hu k⟩
    · obtain ⟨c, e⟩ := cell_has (n := s.heap.objs.size + 1) k
      refine .inr ⟨.inl k, c, e, ?_⟩
      have q := x.cell y c e
      rw [bindC_get ndP hp hu (by show scope.names.lookup y ≠ _; rw [k]; decide)] at q
      exact q
  · exact e0.hok.fresh (Nat.le_of_lt (x.above y c (PySem.mem_of_lookup h)))
  · unfold start
    show _ = N.length
    rw [List.length_append, List.length_map, List.length_replicate]
    lia

theorem fn_of {CX : CXT} {P : Program} {w : World} {K : PySem.W.Frag} {mg : Str → Option Value} {base : Heap} {k : Nat} {f : Addr} {name qual : Str} {params : Arguments} {body : List Stmt} {scope : Scope} {dV kV doc pm cdv ct oc : Value} {an od : Option Addr}
    {osl : Array (Option Value)} {N ps : List Str} {sp : Sp} (lk : K.lookup f = some ⟨oc, od, .func (PySem.W.fnOf name qual params body scope dV kV doc pm an cdv ct), osl⟩) (hcd : PySem.W.codeIn K cdv qual = true) (S : FnScope N ps scope)
    (len : ∀ vs H Q E, sp vs H Q E → vs.length = ps.length)
    (hbody : ∀ (A : Around) (outer : List Env) (s : Shared) (H : Hp) (vs : List V) (Q : VK) (E : XK), Room k (A.deeper (envOfC qual scope s.heap.objs.size f cdv)) → sp vs H Q E →
      ∃ t, PSs (cxOf CX P w K mg base N qual scope f cdv A outer s H E) body t ∧ t { nx := fun _ H' => Q .non H', rt := Q } (start N vs) H) :
    FnOk P w K mg base CX (k + 1) f (PySem.W.fnOf name qual params body scope dV kV doc pm an cdv ct) ps sp := by
  refine ⟨len, fun A outer s H args us vs Q E hr e0 hb r hsp => ?_⟩
  have hl := len _ _ _ _ hsp
  have KX : K.In s.heap := e0.mod.kin.keeps fun b o e => (e0.bs b o e).1
  have lim : s.heap.NoLimit := e0.mod.nolimit.keeps fun b o e => (e0.bs b o e).1
  have hkind : ∀ y ∈ ps.zip us, scope.names.lookup y.1 = some .local ∨ (scope.names.lookup y.1 = some .cell ∧ ((cellsFrom (s.heap.objs.size + 1) scope.names []).lookup y.1).isSome = true) := fun ⟨n, v⟩ hy => by
    rcases S.par n (List.of_mem_zip hy).1 with q | q
    · exact .inl q
    · exact .inr ⟨q, PySem.W.cellsFrom_some _ _ _ (.inl q)⟩
  refine codeAny_call_function hr.depth (KX _ _ lk) rfl S.co S.gen rfl (PySem.W.codeRec_of KX hcd) (hb _ _ _ _ ?_)
  refine wpAny_newFunctionEnv_cells S.kind hkind fun env he s1 x => ?_
  subst he
  refine ⟨lim.keeps x.toInCall.keep, codeAny_func ?_⟩
  obtain ⟨t, ht, hq⟩ := hbody A outer s H vs Q E (hr.deeper _) hsp
  have I : Inv (cxOf CX P w K mg base N qual scope f cdv A outer s H E) [] (start N vs) H s1 := inv_start S hr.hd e0 hl r x
  refine wpAny_mono (ht [] s1 (start N vs) H _ I hq) (fun fl s' hs => ?_) fun e s' hs => hs
  have fin : ∀ {σ' : St} {H' : Hp} {v : V} {u : Value}, Inv (cxOf CX P w K mg base N qual scope f cdv A outer s H E) [] σ' H' s' → RelV v u → Q v H' → CE outer P w H s Q u s' :=
    fun {σ' H' v u} J rv q => ⟨v, H', J.os, J.bare, J.base, J.hok, rv, q⟩
  cases fl with
  | ret u =>
    obtain ⟨v, σ', H', J, rv, q⟩ := hs
    exact fin J rv q
  | next =>
    obtain ⟨σ', H', J, q⟩ := hs
    exact fin (v := V.non) (u := Value.none) J rfl q
  | brk =>
    obtain ⟨_, _, _, q⟩ := hs
    exact False.elim q
  | cont =>
    obtain ⟨_, _, _, q⟩ := hs
    exact False.elim q
end L2

namespace L2
open PySem PySem.Spec PyProof.Rows
section
variable {X : Cx} {x : Str} {p pos : Pos} {e : Expr} {es : List Expr} {t : TA} {id T : String} {r : List V → Hp → VK → Prop}

def tCB (r : List V → Hp → VK → Prop) (t : TA) : TE := fun σ H Q => t σ H fun vs H1 => r vs H1 Q
theorem pe_callB (hc : CallR X (.builtin id) r) (hg : Gl X x) (hm : X.mg x = none) (hv : bootBuiltins x = some (.builtin id)) (ha : PA X (e :: es) t) (hn : x ≠ "__name__" := by decide) (hdb : (x == ("__debug__" : Str)) = false := by decide)
    (he : starEach (e :: es) X.env = (false, eval e X.env) :: starEach es X.env := by rfl) (hpl : (backTo pos (starEach es X.env)).any (·.1) = false := by rfl) : PE X (.Call (.Name x p) (e :: es) [] pos) (tCB r t) := by
  intro pins s σ H Q I h
  refine wpAny_Call_Name_kw (ld_blt I hg hm hv ?_ hn hdb)
  exact PyProof.Rows.callWith_builtin1 (thn (ha pos pins s σ H _ I h) fun us s1 ⟨vs, H1, I1, r1, q1⟩ => hc pins s1 σ H1 vs us Q I1 r1 q1) he hpl
theorem pe_callTy (hc : CallR X (.type T) r) (hg : Gl X x) (hm : X.mg x = none) (hv : bootBuiltins x = some (.type T)) (ha : PA X (e :: es) t) (hn : x ≠ "__name__" := by decide) (hdb : (x == ("__debug__" : Str)) = false := by decide)
    (he : starEach (e :: es) X.env = (false, eval e X.env) :: starEach es X.env := by rfl) (hpl : (backTo pos (starEach es X.env)).any (·.1) = false := by rfl) : PE X (.Call (.Name x p) (e :: es) [] pos) (tCB r t) := by
  intro pins s σ H Q I h
  refine wpAny_Call_Name_kw (ld_blt I hg hm hv ?_ hn hdb)
  exact PyProof.Rows.callWith_type1 (thn (ha pos pins s σ H _ I h) fun us s1 ⟨vs, H1, I1, r1, q1⟩ => hc pins s1 σ H1 vs us Q I1 r1 q1) he hpl
end
end L2

namespace HT
open PySem PyProof.Rows

section
open PySem.SeqAt
open PySem.AutoSeq1 (wpAny_loadPart')
open PySem.MeetsSeq PySem.MeetsSeq2 PySem.MeetsSeq3

end

section
variable {prog : Program} {w : World} {A : Around} {E : Value → Shared → Prop} {s : Shared}

end
end HT

namespace L2
open PySem PySem.Spec PyProof.Rows

section
variable {X : Cx} {e : Expr} {te : TE} {lo hi : Option Expr} {tl th : TO} {pos p2 : Pos}

end
end L2

namespace L2
open PySem PySem.Spec PyProof.Rows

def ixN (n : Nat) (i : Int) : Option Nat := if 0 ≤ i then (if i < n then some i.toNat else none) else if -(n : Int) ≤ i then some (i + n).toNat else none
def atI {α : Type} (xs : List α) (i : Int) : Option α := (ixN xs.length i).bind fun j => xs[j]?
theorem ixN_seq {n : Nat} {i : Int} {j : Nat} (h : ixN n i = some j) : seqIndex? i n = some j ∧ j < n ∧ -(n : Int) ≤ i ∧ i < n := by
  unfold ixN at h
  by_cases h0 : 0 ≤ i
  · rw [if_pos h0] at h
    by_cases h1 : i < n
    · rw [if_pos h1] at h
      have e : i.toNat = j := Option.some.inj h
      exact ⟨by rw [seqIndex_of h0 h1, e], by lia, by lia, h1⟩
    · rw [if_neg h1] at h; cases h
  · rw [if_neg h0] at h
    by_cases h1 : -(n : Int) ≤ i
    · rw [if_pos h1] at h
      have e : (i + n).toNat = j := Option.some.inj h
      exact ⟨by rw [seqIndex_neg (by lia) h1, e], by lia, h1, by lia⟩
    · rw [if_neg h1] at h; cases h
theorem atI_get {α : Type} {xs : List α} {i : Int} {v : α} (h : atI xs i = some v) : ∃ j, seqIndex? i xs.length = some j ∧ xs[j]? = some v ∧ j < xs.length ∧ -(xs.length : Int) ≤ i ∧ i < xs.length := by
  unfold atI at h
  cases e : ixN xs.length i with
  | none => rw [e] at h; cases h
  | some j =>
    rw [e] at h
    obtain ⟨h1, h2, h3, h4⟩ := ixN_seq e
    exact ⟨j, h1, h, h2, h3, h4⟩
theorem atI_nat {α : Type} {xs : List α} {j : Nat} {v : α} (h : xs[j]? = some v) : atI xs (j : Int) = some v := by
  have hj : j < xs.length := (List.getElem?_eq_some_iff.mp h).1
  have e : ixN xs.length (j : Int) = some j := by
    unfold ixN
    rw [if_pos (by lia), if_pos (by lia)]; simp
  unfold atI; rw [e]; exact h
def PlainIx (b : Expr) : Prop := ∀ o i, subscripted b false o i = operate [o, i] (getItem o i)
def IxR (X : Cx) (r : R2) : Prop :=
  ∀ (value slice : Expr) (pins : List (Addr × Obj)) (s : Shared) (σ : St) (H : Hp) (x y : V) (v u : Value) (Q : VK), Inv X pins σ H s → RelV x v → RelV y u → r x y H Q →
    subscripted slice false v u = operate [v, u] (getItem v u) → wpAny (model X.prog X.w) X.A (subscriptTail value slice v u) (EP X pins σ Q) X.xe s
def MtR (X : Cx) (id : String) (r : V → List V → Hp → VK → Prop) : Prop :=
  ∀ (pins : List (Addr × Obj)) (s : Shared) (σ : St) (H : Hp) (x : V) (xs : List V) (v : Value) (us : List Value) (Q : VK), Inv X pins σ H s → RelV x v → Vals xs us → r x xs H Q →
    wpAny (model X.prog X.w) X.A (call (.builtin id) (v :: us)) (EP X pins σ Q) X.xe s
section
variable {X : Cx} {a b : Expr} {ta tb : TE} {pos : Pos}
theorem pe_ix {r : R2} (hr : IxR X r) (ha : PE X a ta) (hb : PE X b tb) (hs : PlainIx b) : PE X (.Subscript a b pos) (tOp r ta tb) := by
  intro pins s σ H Q I h
  exact Subscript_ (binT ha hb I h fun v u s2 x y H2 I2 rx ry q => hr a b pins s2 σ H2 x y v u Q I2 rx ry q (hs _ _))

def rIxL (K : PySem.W.Frag) : R2 := fun x y H Q => ∃ p xs i v, x = .ref p ∧ y = .int i ∧ SqL K H p xs ∧ atI xs i = some v ∧ Q v H
def rIxT (K : PySem.W.Frag) : R2 := fun x y H Q => ∃ p xs i v, x = .ref p ∧ y = .int i ∧ SqT K H p xs ∧ atI xs i = some v ∧ Q v H
theorem ix_list : IxR X (rIxL X.K) := by
  intro value slice pins s σ H x y v u Q I rx ry h hs
  obtain ⟨p, xs, i, z, rfl, rfl, hq, he, q⟩ := h
  cases rx
  obtain ⟨t, rfl⟩ := ry
  obtain ⟨its, r, pl, hz⟩ := I.list hq
  obtain ⟨j, h1, h2, h3, h4, h5⟩ := atI_get he
  obtain ⟨w, ew, rw'⟩ := r.get h2
  have hl := r.length
  have hn := line63
  have fin : EP X pins σ Q w s := ⟨z, H, I, rw', q⟩
  by_cases h0 : 0 ≤ i
  · have hj : i.toNat = j := by
      rw [seqIndex_of h0 h5] at h1
      exact Option.some.inj h1
    exact item_listR pl.isList h0 (by lia) (by rw [hj]; simpa using ew) fin hs
  · have hj : (i + (its.toArray.size : Int)).toNat = j := by
      rw [seqIndex_neg (by lia) h4] at h1
      rw [List.size_toArray, ← hl]
      exact Option.some.inj h1
    exact subscriptTail_builtinR (x := w) pl.isList.typeIs slot_list_getitem.lookup
      (wpAny_getItem_list_neg (Q := fun r s' => r = w ∧ EP X pins σ Q r s') pl.isList (by lia) (by rw [List.size_toArray] <;> lia) (by lia) (by rw [hj]; simpa using ew) ⟨rfl, fin⟩) hs
theorem ix_tup : IxR X (rIxT X.K) := by
  intro value slice pins s σ H x y v u Q I rx ry h hs
  obtain ⟨p, xs, i, z, rfl, rfl, hq, he, q⟩ := h
  cases rx
  obtain ⟨t, rfl⟩ := ry
  obtain ⟨its, r, pl, hz⟩ := I.tuple hq
  obtain ⟨j, h1, h2, h3, h4, h5⟩ := atI_get he
  obtain ⟨w, ew, rw'⟩ := r.get h2
  have hl := r.length
  have hn := line63
  have fin : EP X pins σ Q w s := ⟨z, H, I, rw', q⟩
  exact subscriptTail_builtinR (x := w) pl.typeIs slot_tuple_getitem.lookup
    (getItem_tuple (j := j) (Q := fun r s' => r = w ∧ EP X pins σ Q r s') pl (by lia) (by lia) (by rw [List.size_toArray, ← hl]; exact h1) (by simpa using ew) ⟨rfl, fin⟩) hs
theorem mapSeq_set (its : List Value) (n j : Nat) (u : Value) : Obj.mapSeq (·.setIfInBounds j u) { cls := .type "list", data := .seq its.toArray n } = { cls := .type "list", data := .seq (its.set j u).toArray n } := by
  simp [Obj.mapSeq]
theorem Inv.lst {pins : List (Addr × Obj)} {σ : St} {H : Hp} {s : Shared} {p : Addr} {xs : List V} (I : Inv X pins σ H s) (h : H p = some (.lst xs)) :
    ∃ (its : List Value) (n : Nat), Vals xs its ∧ s.heap.get? p = some { cls := .type "list", data := .seq its.toArray n } ∧ xs.length ≤ sizeLine := by
  obtain ⟨z, its, n, r, e⟩ := I.hok p _ h
  exact ⟨its, n, r, e, z⟩
theorem Inv.lstUpd {pins : List (Addr × Obj)} {σ : St} {H : Hp} {s : Shared} {p : Addr} {xs ys : List V} {its its' : List Value} {n n' : Nat} {f : Obj → Obj} (I : Inv X pins σ H s) (h : H p = some (.lst xs))
    (ho : s.heap.get? p = some { cls := .type "list", data := .seq its.toArray n }) (hf : f { cls := .type "list", data := .seq its.toArray n } = { cls := .type "list", data := .seq its'.toArray n' }) (r : Vals ys its') (hz : ys.length ≤ sizeLine) (t : Nat) :
    Inv X pins σ (upd H p (.lst ys)) { s with heap := s.heap.update p f, toks := t } := by
  have e : (s.heap.update p f).get? p = some { cls := .type "list", data := .seq its'.toArray n' } := by
    rw [Heap.get?_update_self f ho (by rw [hf] <;> rfl), hf]
  refine I.write (x := p) (e := p) (by rw [h]; trivial) (.inl rfl) (fun b u hb q => (Heap.get?_update_other _ _ (Ne.symm hb)).trans q) ⟨_, e⟩ ?_
  exact ⟨hz, its', n', r, e⟩
def rSetL : V → V → V → Hp → (Hp → Prop) → Prop := fun o i v H Q => ∃ p xs k j, o = .ref p ∧ i = .int k ∧ H p = some (.lst xs) ∧ ixN xs.length k = some j ∧ Q (upd H p (.lst (xs.set j v)))
theorem set_list : PSet X rSetL := by
  intro pins s σ H o i v ov iv u Q I ro ri rv h
  obtain ⟨p, xs, k, j, rfl, rfl, hp, hj, q⟩ := h
  cases ro
  obtain ⟨t, rfl⟩ := ri
  obtain ⟨its, n, r, ho, hz⟩ := I.lst hp
  obtain ⟨h1, h2, h3, h4⟩ := ixN_seq hj
  have hl := r.length
  have hn := line63
  have I' : Inv X pins σ (upd H p (.lst (xs.set j v))) { s with heap := s.heap.update p (Obj.mapSeq (·.setIfInBounds j u)) } :=
    I.lstUpd hp ho (mapSeq_set its n j u) (r.set rv j) (by rw [List.length_set]; exact hz) s.toks
  by_cases h0 : 0 ≤ k
  · have hk : k.toNat = j := by
      rw [seqIndex_of h0 h4] at h1
      exact Option.some.inj h1
    exact PySem.W.ki_setAt ho h0 (by lia) (by rw [List.size_toArray, ← hl]; exact h4) (by rw [hk]; exact ⟨_, I', q⟩)
  · have hk : (k + (its.toArray.size : Int)).toNat = j := by
      rw [seqIndex_neg (by lia) h3] at h1
      rw [List.size_toArray, ← hl]
      exact Option.some.inj h1
    exact PySem.W.ki_setBack ho (by lia) (by rw [List.size_toArray, ← hl]; exact h3) (by lia) (by rw [hk]; exact ⟨_, I', q⟩)

theorem call_len_seq : CallR X (.builtin "len") (fun xs H Q => ∃ p ys, xs = [.ref p] ∧ (SqL X.K H p ys ∨ SqT X.K H p ys) ∧ Q (.int ys.length) H) := by
  intro pins s σ H xs us Q I r h
  obtain ⟨p, ys, rfl, hq, q⟩ := h
  obtain ⟨u, rfl, rx⟩ := vals1 r
  cases rx
  have hn := line63
  rcases hq with hq | hq
  · obtain ⟨its, r', pl, hz⟩ := I.list hq
    have hlen := r'.length
    exact Calls.call_len_list pl.isList (by simp only [List.size_toArray] <;> lia) ⟨.int ys.length, H, I.tok _, ⟨s.toks + 1, by rw [List.size_toArray, hlen]⟩, q⟩
  · obtain ⟨its, r', pl, hz⟩ := I.tuple hq
    have hlen := r'.length
    exact len_tuple pl (by simp only [List.size_toArray] <;> lia) ⟨.int ys.length, H, I.tok _, ⟨s.toks + 1, by rw [List.size_toArray, hlen]⟩, q⟩
theorem call_list_of : CallR X (.type "list") (fun xs H Q => ∃ p ys, xs = [.ref p] ∧ (SqL X.K H p ys ∨ SqT X.K H p ys) ∧ ∀ l, H l = none → Q (.ref l) (upd H l (.lst ys))) := by
  intro pins s σ H xs us Q I r h
  obtain ⟨p, ys, rfl, hq, q⟩ := h
  obtain ⟨u, rfl, rx⟩ := vals1 r
  cases rx
  have fin : ∀ (its : List Value), Vals ys its → ys.length ≤ sizeLine → ∀ (h' : Heap) (c' : Nat), (∀ b o', s.heap.get? b = some o' → h'.get? b = some o') →
      h'.get? s.heap.objs.size = some { cls := .type "list", dict := none, data := .seq its.toArray c', slots := #[] } → EP X pins σ Q (.ref s.heap.objs.size) { s with heap := h' } := fun its r' hz h' c' kp e =>
    ⟨.ref s.heap.objs.size, _, I.laid (t' := s.toks) kp (Nat.le_refl _) (show ObjOk X.prog X.w _ h' _ (.lst ys) from ⟨hz, its, c', r', e⟩), rfl, q _ (I.hok.fresh (Nat.le_refl _))⟩
  rcases hq with hq | hq
  · obtain ⟨its, r', pl, hz⟩ := I.list hq
    have hlen := r'.length
    obtain ⟨o, ho, hc, n, hd⟩ := pl.isList
    exact call_list_seq p (.inl rfl) ho hc hd (fun h' c' kp e => fin its r' hz h' c' kp e) (by simp only [List.size_toArray] <;> lia)
  · obtain ⟨its, r', pl, hz⟩ := I.tuple hq
    have hlen := r'.length
    obtain ⟨o, ho, hc, n, hd⟩ := pl
    exact call_list_seq p (.inr rfl) ho hc hd (fun h' c' kp e => fin its r' hz h' c' kp e) (by simp only [List.size_toArray] <;> lia)
theorem call_tuple_of : CallR X (.type "tuple") (fun xs H Q => ∃ p ys, xs = [.ref p] ∧ ((SqL X.K H p ys ∧ ∀ l, H l = none → Q (.ref l) (upd H l (.tup ys))) ∨ (SqT X.K H p ys ∧ Q (.ref p) H))) := by
  intro pins s σ H xs us Q I r h
  obtain ⟨p, ys, rfl, h⟩ := h
  obtain ⟨u, rfl, rx⟩ := vals1 r
  cases rx
  rcases h with ⟨hq, q⟩ | ⟨hq, q⟩
  · obtain ⟨its, r', pl, hz⟩ := I.list hq
    have hlen := r'.length
    refine call_tuple_list pl.isList (fun h' kp => ?_) (by simp only [List.size_toArray] <;> lia)
    have I1 : Inv X pins σ H { s with heap := h' } := I.kept (t' := s.toks) kp
    have I2 : Inv X pins σ (upd H h'.objs.size (.tup ys)) { s with heap := h'.push { cls := .type "tuple", data := .seq its.toArray } } :=
      I1.laid (t' := s.toks) (fun b o e => Heap.get?_push_of_some _ e) (Nat.le_refl _) (show ObjOk X.prog X.w _ _ _ (.tup ys) from ⟨hz, its, r', IsTup.new _ _⟩)
    exact ⟨.ref h'.objs.size, _, I2, rfl, q _ (I1.hok.fresh (Nat.le_refl _))⟩
  · obtain ⟨its, r', pl, hz⟩ := I.tuple hq
    exact call_tuple_same pl ⟨.ref p, H, I, rfl, q⟩

def tyV (K : PySem.W.Frag) (T : String) (x : V) (H : Hp) : Prop := match x with
  | .str _ => T = "str"
  | .int _ => T = "int"
  | .ref p => (T = "list" ∧ ∃ xs, SqL K H p xs) ∨ (T = "tuple" ∧ ∃ o, K.lookup p = some o ∧ o.cls = .type "tuple" ∧ o.dict = none) ∨
      (T = "dict" ∧ ((∃ kvs, H p = some (.dK kvs)) ∨ ∃ kvs, H p = some (.dT kvs))) ∨ (T = "set" ∧ ∃ S n, H p = some (.set S n))
  | _ => False
theorem tyV_is {pins : List (Addr × Obj)} {σ : St} {H : Hp} {s : Shared} {T : String} {x : V} {v : Value} (I : Inv X pins σ H s) (r : RelV x v) (ty : tyV X.K T x H) :
    s.TypeIs v T ∧ ∀ a, v = .ref a → ∃ ob, s.heap.get? a = some ob ∧ ob.dict = none := by
  cases x with
  | str z =>
    obtain ⟨t, rfl⟩ := r
    cases (show T = "str" from ty)
    exact ⟨typeIs_str s z t, fun _ e => nomatch e⟩
  | int i =>
    obtain ⟨t, rfl⟩ := r
    cases (show T = "int" from ty)
    exact ⟨typeIs_int s i t, fun _ e => nomatch e⟩
  | ref p =>
    cases r
    rcases ty with ⟨rfl, xs, hq⟩ | ⟨rfl, o, hk, hc, hd⟩ | ⟨rfl, hk⟩ | ⟨rfl, S, n, hk⟩
    · obtain ⟨its, _, pl, _⟩ := I.list hq
      refine ⟨pl.isList.typeIs, fun a e => ?_⟩
      cases e
      obtain ⟨o, n, e, c, hd, _⟩ := pl
      exact ⟨o, e, hd⟩
    · refine ⟨⟨o, I.kIn p o hk, hc⟩, fun a e => ?_⟩
      cases e
      exact ⟨o, I.kIn _ o hk, hd⟩
    · have z : ∃ o, s.heap.get? p = some o ∧ o.ExactDict := by
        rcases hk with ⟨kvs, hk⟩ | ⟨kvs, hk⟩
        · obtain ⟨_, _, _, _, o, _, _, e, ex, _⟩ := I.hok p _ hk
          exact ⟨o, e, ex⟩
        · obtain ⟨_, _, _, _, o, _, _, e, ex, _⟩ := I.hok p _ hk
          exact ⟨o, e, ex⟩
      obtain ⟨o, e, ex⟩ := z
      refine ⟨⟨o, e, ex.1⟩, fun a e2 => ?_⟩
      cases e2
      exact ⟨o, e, ex.2.1⟩
    · obtain ⟨o, _, _, _, e, ex, _⟩ := I.hok p _ hk
      refine ⟨⟨o, e, ex.1⟩, fun a e2 => ?_⟩
      cases e2
      exact ⟨o, e, ex.2.1⟩
  | _ => exact False.elim ty
def tBM0 (K : PySem.W.Frag) (T : String) (r : V → List V → Hp → VK → Prop) (to : TE) : TE := fun σ H Q => to σ H fun x H1 => tyV K T x H1 ∧ r x [] H1 Q
def tBM (K : PySem.W.Frag) (T : String) (r : V → List V → Hp → VK → Prop) (to : TE) (t : TA) : TE := fun σ H Q => to σ H fun x H1 => tyV K T x H1 ∧ t σ H1 fun xs H2 => r x xs H2 Q
variable {o e : Expr} {es : List Expr} {to : TE} {t : TA} {name : Str} {apos cpos : Pos} {T id : String} {r : V → List V → Hp → VK → Prop}
theorem pe_bm0 (pa : PlainAttrs T) (slot : Slot T name id) (hty : typeOf (.builtin id) = pure (.type "method_descriptor")) (hm : MtR X id r) (ho : PE X o to)
    (hbase : attributeBase o name X.env (eval o X.env) = eval o X.env := by rfl) (hline : (apos.endLine == cpos.line) = true := by rfl) : PE X (.Call (.Attribute o name apos) [] [] cpos) (tBM0 X.K T r to) := by
  intro pins s σ H Q I h
  refine wpAny_Call_method0_late hbase hline (thn (ho pins s σ H _ I h) fun v s1 ⟨x, H1, I1, r1, ty, q1⟩ => ?_)
  obtain ⟨h1, h2⟩ := tyV_is I1 r1 ty
  exact ⟨T, id, pa, slot, hty, h1, h2, Calls.callWith_builtin rfl (PySem.evalArgs_none (hm pins s1 σ H1 x [] v [] Q I1 r1 .nil q1))⟩
theorem pe_bm (pa : PlainAttrs T) (slot : Slot T name id) (hty : typeOf (.builtin id) = pure (.type "method_descriptor")) (hm : MtR X id r) (ho : PE X o to) (ha : PA X (e :: es) t)
    (hbase : attributeBase o name X.env (eval o X.env) = eval o X.env := by rfl)
    (hfew : ((backTo cpos (starEach (e :: es) X.env)).all (fun x => !x.1) && (backToKw cpos (keywordEach [] X.env)).all (fun x => x.1.isSome)
      && decide ((e :: es).length + ([] : List Keyword).length + (if ([] : List Keyword).isEmpty then 0 else 1) < 30)) = true := by rfl)
    (hline : (apos.endLine == cpos.line) = true := by rfl) (hs : starEach (e :: es) X.env = (false, eval e X.env) :: starEach es X.env := by rfl) (hplain : (backTo cpos (starEach es X.env)).any (·.1) = false := by rfl) :
    PE X (.Call (.Attribute o name apos) (e :: es) [] cpos) (tBM X.K T r to t) := by
  intro pins s σ H Q I h
  refine wpAny_Call_method_late hbase hfew hline rfl (thn (ho pins s σ H _ I h) fun v s1 ⟨x, H1, I1, r1, ty, q1⟩ => ?_)
  obtain ⟨h1, h2⟩ := tyV_is I1 r1 ty
  refine ⟨T, id, pa, slot, hty, h1, h2, ?_⟩
  have hA := ha cpos pins s1 σ H1 _ I1 q1
  rw [hs] at hA ⊢
  refine Calls.callWith_builtin (by show (false || (backTo cpos (starEach es X.env)).any (·.1)) = false; rw [hplain] <;> rfl) (Calls.evalArgs_plain ?_)
  exact thn hA fun us s2 ⟨vs, H2, I2, r2, q2⟩ => hm pins s2 σ H2 x vs v us Q I2 r1 r2 q2
/- xs.append(e), list.index on a module's tuple .. are MtR facts of 06m -/
end
end L2

namespace L2
open PySem PySem.Spec PyProof.Rows

def MtM (X : Cx) (id : String) (r : V → List V → Hp → VK → Prop) : Prop :=
  ∀ (pins : List (Addr × Obj)) (s : Shared) (σ : St) (H : Hp) (x : V) (xs : List V) (v : Value) (us : List Value) (Q : VK), Inv X pins σ H s → RelV x v → Vals xs us → r x xs H Q →
    wpAny (model X.prog X.w) X.A (call (.builtin id) (v :: us)) (EP X pins σ Q) X.xe s

theorem Vals.one : ∀ {x : V} {us : List Value}, Vals [x] us → ∃ u, us = [u] ∧ RelV x u
  | _, _, .cons r .nil => ⟨_, rfl, r⟩
theorem Vals.two : ∀ {x y : V} {us : List Value}, Vals [x, y] us → ∃ u v, us = [u, v] ∧ RelV x u ∧ RelV y v := by
  intro x y us h; cases h with
  | cons r t => cases t with
    | cons q t => cases t; exact ⟨_, _, rfl, r, q⟩
theorem Vals.zero : ∀ {us : List Value}, Vals [] us → us = []
  | _, .nil => rfl
theorem Vals.reverse {xs : List V} {us : List Value} (h : Vals xs us) : Vals xs.reverse us.reverse := by
  induction h with
  | nil => exact .nil
  | cons r t ih => rw [List.reverse_cons, List.reverse_cons]; exact Vals.append ih (.cons r .nil)
section
variable {X : Cx} {pins : List (Addr × Obj)} {σ : St} {H : Hp} {s : Shared} {l b : Addr} {xs ys zs : List V}

theorem Inv.lset {its its' : List Value} {n : Nat} {f : Array Value → Array Value} {t' : Nat} (I : Inv X pins σ H s) (hH : H l = some (.lst xs))
    (e : s.heap.get? l = some { cls := .type "list", data := .seq its.toArray n }) (hf : f its.toArray = its'.toArray) (hv : Vals ys its') (hz : ys.length ≤ sizeLine) :
    Inv X pins σ (upd H l (.lst ys)) { s with heap := s.heap.update l (Obj.mapSeq f), toks := t' } := by
  have q := PySem.IsL.update e f
  rw [hf] at q
  refine I.write (x := l) (e := l) (by rw [hH]; exact trivial) (.inl rfl) (fun b' u hb hu => (Heap.get?_update_other s.heap (Obj.mapSeq f) (Ne.symm hb)).trans hu) ⟨_, q⟩ ?_
  exact ⟨hz, its', _, hv, q⟩
theorem Inv.fresh (I : Inv X pins σ H s) : H s.heap.objs.size = none := I.hok.fresh (Nat.le_refl _)
theorem Inv.lstM (I : Inv X pins σ H s) (hH : H l = some (.lst xs)) : xs.length ≤ sizeLine ∧ ∃ (its : List Value) (n : Nat), Vals xs its ∧ xs.length = its.length ∧ s.heap.get? l = some { cls := .type "list", data := .seq its.toArray n } := by
  obtain ⟨z, its, n, r, e⟩ := I.hok l _ hH
  exact ⟨z, its, n, r, r.length, e⟩

end

section
variable {X : Cx}

def rAppend : V → List V → Hp → VK → Prop := fun x vs H Q => ∃ l xs y, x = .ref l ∧ vs = [y] ∧ H l = some (.lst xs) ∧ xs.length < sizeLine ∧ Q .non (upd H l (.lst (xs ++ [y])))
theorem mt_append : MtM X "list.append" rAppend := by
  intro pins s σ H x vs v us Q I rx rv h
  obtain ⟨l, xs, y, rfl, rfl, hH, hz, q⟩ := h
  cases rx
  obtain ⟨u, rfl, ru⟩ := rv.one
  obtain ⟨z, its, n, r, hl, e⟩ := I.lstM hH
  refine call_meets F.slot_list_append ⟨_, e, rfl⟩ F.entry_list_append (F.args_list_append_2 _ _) (PySem.list_append l its.toArray n u (by rw [List.size_toArray]; lia)) ⟨e, ?_⟩
  refine ⟨.non, _, I.lset (its' := its ++ [u]) hH e (by simp) (r.append (.cons ru .nil)) ?_, rfl, q⟩
  rw [List.length_append, List.length_singleton]
  lia

def rReverse : V → List V → Hp → VK → Prop := fun x vs H Q => ∃ l xs, x = .ref l ∧ vs = [] ∧ H l = some (.lst xs) ∧ Q .non (upd H l (.lst xs.reverse))
theorem mt_reverse : MtM X "list.reverse" rReverse := by
  intro pins s σ H x vs v us Q I rx rv h
  obtain ⟨l, xs, rfl, rfl, hH, q⟩ := h
  cases rx
  have hus := rv.zero
  subst hus
  obtain ⟨z, its, n, r, hl, e⟩ := I.lstM hH
  refine call_meets F.slot_list_reverse ⟨_, e, rfl⟩ F.entry_list_reverse (F.args_list_reverse_1 _) (AutoSeq1.list_reverse_list_0 l its.toArray n (by rw [List.size_toArray]; lia)) ⟨e, ?_⟩
  refine ⟨.non, _, I.lset (its' := its.reverse) hH e (by simp) r.reverse ?_, rfl, q⟩
  rw [List.length_reverse]
  lia

end

section
variable {prog : Program} {w : World} {A : Around} {E : Value → Shared → Prop} {s : Shared}
end

section
variable {X : Cx}
end
end L2

namespace Att
open PySem PySem.W PySem.Calls PyProof.Rows

theorem ints_of_wellAll {P : Params} {h : Heap} : ∀ (ns : List Int) (vs : List Value), WellAll P h vs (ns.map WData.int) → IntsAre vs ns := by
  intro ns
  induction ns with
  | nil =>
    intro vs w
    rw [List.map_nil] at w
    cases w
    exact .nil
  | cons n ns ih =>
    intro vs w
    rw [List.map_cons] at w
    cases w with
    | cons a b =>
      cases a
      exact .cons _ _ (ih _ b)

theorem script_of {l : OpenLaw} {n : Nat} (hn : l.most = some n) {P : Params} {h : Heap} {args : List WData} {vals : List Value}
    (hpre : l.row.toRowW.claim.pre args = true) (hwl : WellAll P h vals args) :
    ∃ a vs ns, vals = [Value.ref a] ∧ args = [WData.list (ns.map WData.int)] ∧ h.get? a = some { cls := .type "list", data := .seq vs.toArray } ∧ IntsAre vs ns ∧ ns.length ≤ n := by
  have hsh : WShape.hasAll [] args [.list .int] = true := (pre_splitW hpre).1
  have hc : l.pre.holds [] { args := args } = true := (pre_splitW hpre).2
  obtain ⟨d, r, rfl, h1, h2⟩ := hasAllW_cons hsh
  obtain rfl := hasAllW_nil h2
  obtain ⟨xs, rfl, h3⟩ := hasW_list h1
  obtain ⟨ns, rfl⟩ := items_int h3
  have hlen : ns.length ≤ n := by
    unfold OpenLaw.pre at hc
    have h4 : (WTm.not (.lt (.lit (.int (n : Int))) (.len (.arg 0)))).holds [] { args := [.list (ns.map .int)] } = true := by
      have h4 := (holds_andW hc).1
      rw [hn] at h4
      exact h4
    have h5 := condW_of h4 (w_not (w_lt w_lit (w_len_list (w_arg rfl))))
    rw [List.length_map] at h5
    refine Nat.le_of_not_lt fun q => ?_
    have q' : (n : Int) < ((ns.length : Nat) : Int) := by lia
    first
      | (rw [decide_eq_true q'] at h5; exact absurd h5 (by decide))
      | (simp at h5; lia)
  cases hwl with
  | cons w1 w2 =>
    cases w2
    cases w1 with
    | list ho hall => exact ⟨_, _, ns, rfl, rfl, ho, ints_of_wellAll ns _ hall, hlen⟩

theorem post_true (l : OpenLaw) (args : List WData) : l.row.toRowW.claim.post args (.bool true) args = true :=
  postW_of (r := l.row.toRowW) (X := (true == true))
    (show WShape.has [] (.bool true) .bool = true by first | rfl | decide | simp [WShape.has, WShape.arms, WShape.armsAll])
    (show (WTm.eq .res (.lit (.bool true))).value [] { args := args, res := some (.bool true), after := args } = some (.bool (true == true)) from w_eq_bool (w_res rfl) w_lit) rfl

theorem attach_call {l : OpenLaw} {n : Nat} {q : Program} {loose : List Str} {XP : (Str → Option Value) → Heap → Prop} {YP : World → Heap → Prop} {d : DefRec}
    (hn : l.most = some n) (hdf : d.params.defaults = [])
    (call : ∀ (w : World) (s₀ s₁ : Shared) (mg mb : Str → Option Value) (fa : Addr) (o : Obj) (pm cd doc : Value) (a : Addr) (vs : List Value) (ns : List Int),
      Ground q loose [] XP w s₀ mg mb s₁.heap → YP w s₁.heap →
      s₁.heap.get? fa = some o → o.data = .func (docDef d.name d.params d.body d.scope pm cd doc) → s₁.heap.CodeRec cd d.name → mg d.name = some (.ref fa) →
      s₁.heap.get? a = some { cls := .type "list", data := .seq vs.toArray } → IntsAre vs ns → ns.length ≤ n → s₁.gens = #[] →
      codeAny (model l.prog w) callerA (.call (.ref fa) ⟨[.ref a], []⟩) (fun r s' => r = .ok (.ret (.bool true)) ∧ OldK s₁.heap s'.heap ∧ s'.os = s₁.os ∧ AllBare s'.gens) s₁) :
    WalkO q loose XP YP l.row.toRowW d [] (fun f vs => PySem.call f vs) := by
  intro w s₀ s₁ mg mb G Y fa o pm cd doc dV kV ho hd hcd hD hmg hg args vals as hpre hlay hrd hwl hlo
  obtain rfl : dV = .none := Dflts.none hD hdf
  obtain rfl : kV = .none := Dflts.noKw hD
  obtain ⟨a, vs, ns, rfl, rfl, hobj, hints, hlen⟩ := script_of hn hpre hwl
  refine enter_call (codeAny_mono (call w s₀ s₁ mg mb fa o pm cd doc a vs ns G Y ho (fd_plain hd) hcd hmg hobj hints hlen hg) fun r s' hq => ?_)
  obtain ⟨rfl, h2, h3, h4⟩ := hq
  exact ⟨.inl ⟨.bool true, .bool true, [], rfl, fun _ => rfl, .bool true, post_true l _, fun _ => ⟨List.Pairwise.nil, fun _ hm => (nomatch hm)⟩⟩, h2, h3, h4⟩

section
variable {prog : Program} {w : World} {A : Around} {E : Value → Shared → Prop} {s : Shared} {K : Frag}

end
end Att

namespace L2
open PySem PySem.Spec PyProof.Rows

theorem vals_ints : ∀ {vs : List Value} {ns : List Int}, IntsAre vs ns → Vals (ns.map V.int) vs
  | _, _, .nil => .nil
  | _, _, .cons n t h => .cons ⟨t, rfl⟩ (vals_ints h)

def Only (H : Hp) : Prop := ∀ b, H b = none ∨ ∃ o xs, H b = some (.frz o (.lst xs))

theorem law_call {P : Program} {w : World} {K : PySem.W.Frag} {mg mb : Str → Option Value} {CX : CXT} {k : Nat} {fa a : Addr} {fd : FuncData} {x : Str} {sp : Sp} {s₁ : Shared} {vs : List Value} {ns : List Int}
    (KX : K.In s₁.heap) (hns : s₁.heap.Ns mainGlobals mg) (hb : s₁.heap.Ns builtinsNs mb) (hbb : ∀ x : Str, x ≠ "__name__" → mb x = bootBuiltins x) (hlim : s₁.heap.NoLimit) (hg : s₁.gens = #[])
    (ha : s₁.heap.get? a = some { cls := .type "list", data := .seq vs.toArray }) (hi : IntsAre vs ns) (hl : ns.length ≤ sizeLine) (hr : Room k callerA)
    (F : ∀ base : Heap, K.In base → base.Ns mainGlobals mg → FnOk P w K mg base CX k fa fd [x] sp) (hbind : ∀ (s : Shared) (u : Value), BindsTo s fd ⟨[u], []⟩ [(x, u)])
    (hsp : ∀ H : Hp, Only H → SqL K H a (ns.map V.int) → sp [.ref a] H (fun v _ => v = .bl true) fun _ _ _ => False)
    (hCX : ∀ H e s', CX [] H s₁ (fun _ _ _ => False) e s' → False) :
    codeAny (model P w) callerA (.call (.ref fa) ⟨[.ref a], []⟩) (fun r s' => r = .ok (.ret (.bool true)) ∧ OldK s₁.heap s'.heap ∧ s'.os = s₁.os ∧ AllBare s'.gens) s₁ := by
  have rv := vals_ints hi
  have lenV := hi.length
  -- from an abstract heap in which nothing but the script may be tracked
  have core : ∀ H : Hp, Only H → SqL K H a (ns.map V.int) → HOk P w H s₁.heap → (∀ b, H b ≠ none → b = a) → (H a ≠ none → K.lookup a = none) →
      codeAny (model P w) callerA (.call (.ref fa) ⟨[.ref a], []⟩) (fun r s' => r = .ok (.ret (.bool true)) ∧ OldK s₁.heap s'.heap ∧ s'.os = s₁.os ∧ AllBare s'.gens) s₁ := by
    intro H hO hS hok hA hK
    have base_of : ∀ {b : Addr} {o : Obj}, s₁.heap.get? b = some o → H b = none → (hidT s₁.heap H).get? b = some o := fun e n => hidT_get e n
    have noA : ∀ {b : Addr} {o : Obj} {es : Array DictEntry} {ep : Nat}, s₁.heap.get? b = some o → o.data = .dict es ep → H b = none := fun {b o es ep} e d => by
      cases q : H b with
      | none => rfl
      | some u =>
        have e' : b = a := hA b (by rw [q]; simp)
        subst e'
        rw [ha] at e; cases e
        have d' : Data.seq vs.toArray _ = Data.dict es ep := d
        cases d'
    have nsK : ∀ {b : Addr} {m : Str → Option Value}, s₁.heap.Ns b m → (hidT s₁.heap H).Ns b m := fun {b m} ⟨o, es, ep, e, d, r⟩ => ⟨o, es, ep, base_of e (noA e d), d, r⟩
    have hKb : K.In (hidT s₁.heap H) := fun b o e => base_of (KX b o e) (by
      cases q : H b with
      | none => rfl
      | some u =>
        have e' : b = a := hA b (by rw [q]; simp)
        subst e'
        rw [hK (by rw [q]; simp)] at e; cases e)
    have hM : Mod K mg (hidT s₁.heap H) := ⟨hKb, nsK hns, ⟨mb, nsK hb, hbb⟩, let ⟨mc, h1, h2⟩ := hlim; ⟨mc, nsK h1, h2⟩⟩
    have e0 : Env0 P w K mg (hidT s₁.heap H) callerA [] s₁ H := ⟨rfl, hM, fun b o e => of_hidT e, Nat.le_of_eq (hidT_size _ _), trivial, fun b hb => absurd (show b ∈ ([] : List Addr) from hb) (by simp), hok, .of_eq hg⟩
    refine codeAny_mono ((F _ hKb (nsK hns)).run callerA [] s₁ H ⟨[.ref a], []⟩ [.ref a] [.ref a] _ _ hr e0 (hbind s₁ (.ref a)) (.cons rfl .nil) (hsp H hO hS)) fun r s' h => ?_
    cases r with
    | error e => exact (hCX H e s' h).elim
    | ok fl =>
      cases fl with
      | next => exact False.elim h
      | brk => exact False.elim h
      | cont => exact False.elim h
      | ret u =>
        obtain ⟨v, H', os, bare, un, hok', r', q⟩ := h
        have q' : v = .bl true := q
        subst q'
        obtain rfl : u = Value.bool true := r'
        refine ⟨rfl, OldK.of_keep fun b o e => ?_, os, bare⟩
        cases q : H b with
        | none => exact un.keep b o e q (by intro z; exact absurd (show b ∈ ([] : List Addr) from z) (by simp)) (by simp)
        | some u =>
          rcases hO b with z | ⟨ob, xs, z⟩
          · rw [q] at z; cases z
          · have z2 := un.frzs b ob _ z
            obtain ⟨e1, _⟩ := hok b _ z
            obtain ⟨e2, _⟩ := hok' b _ z2
            rw [e] at e1; cases e1
            exact e2
  cases hk : K.lookup a with
  | some o =>
    -- the script is one of the module's own objects
    have e := KX a o hk
    rw [ha] at e
    cases e
    refine core (fun _ => none) (fun _ => .inl rfl) (.inr ⟨_, vs.toArray, _, hk, rfl, rfl, rfl, by rw [List.size_toArray, lenV]; exact hl, by simpa using rv⟩) (fun b u z => by have z' : (none : Option HO) = some u := z; cases z') (fun b z => absurd rfl z) fun z => absurd rfl z
  | none =>
    refine core (fun b => if b = a then some (.frz { cls := .type "list", data := .seq vs.toArray } (.lst (ns.map V.int))) else none) (fun b => ?_) (.inl (.inr ⟨{ cls := .type "list", data := .seq vs.toArray }, if_pos rfl⟩)) (fun b u z => ?_) (fun b z => ?_) fun _ => hk
    · by_cases hb : b = a
      · exact .inr ⟨_, _, if_pos hb⟩
      · exact .inl (if_neg hb)
    · by_cases hb : b = a
      · have z' := (if_pos hb).symm.trans z
        cases z'
        subst hb
        exact ⟨ha, by rw [List.length_map]; exact hl, vs, _, rv, ha⟩
      · have z' := (if_neg hb).symm.trans z
        cases z'
    · by_cases hb : b = a
      · exact hb
      · exact absurd (if_neg hb) z
end L2

namespace L2
open PySem PySem.Spec PyProof.Rows

theorem walk_of {l : PySem.W.OpenLaw} {n k : Nat} {q : Program} {loose : List Str} {XP : (Str → Option Value) → Heap → Prop} {YP : World → Heap → Prop} {d : DefRec} {K : Params → PySem.W.Frag} {CX : World → CXT} {sp : World → Sp} {x : Str}
    (hn : l.most = some n) (hn2 : n ≤ sizeLine) (hdf : d.params.defaults = []) (hr : Room k callerA)
    (hY : ∀ (w : World) (h : Heap), YP w h → (K w.params).In h)
    (F : ∀ (w : World) (mg : Str → Option Value) (fa : Addr) (h : Heap), (K w.params).In h → h.Ns mainGlobals mg → mg d.name = some (.ref fa) →
      ∃ fd : FuncData, (∀ (s : Shared) (u : Value), BindsTo s fd ⟨[u], []⟩ [(x, u)]) ∧
        ∀ base : Heap, (K w.params).In base → base.Ns mainGlobals mg → FnOk l.prog w (K w.params) mg base (CX w) k fa fd [x] (sp w))
    (hsp : ∀ (w : World) (H : Hp) (a : Addr) (ns : List Int), ns.length ≤ n → Only H → SqL (K w.params) H a (ns.map V.int) → sp w [.ref a] H (fun v _ => v = .bl true) fun _ _ _ => False)
    (hCX : ∀ (w : World) (H : Hp) (s : Shared) (e : Value) (s' : Shared), CX w [] H s (fun _ _ _ => False) e s' → False) :
    PySem.W.WalkO q loose XP YP l.row.toRowW d [] (fun f vs => PySem.call f vs) := by
  refine Att.attach_call hn hdf fun w s₀ s₁ mg mb fa o pm cd doc a vs ns G Y ho hd hcd hmg hobj hints hlen hg => ?_
  have KX := hY w _ Y
  obtain ⟨fd, hb, hF⟩ := F w mg fa _ KX G.T.g hmg
  exact law_call KX G.T.g G.T.b G.T.builtins G.T.nolimit hg hobj hints (Nat.le_trans hlen hn2) hr hF hb (fun H hO hS => hsp w H a ns hlen hO hS) fun H e s' => hCX w H s₁ e s'
end L2

/- THE LAST THEOREM (shape; LID, My.* are yours):
   My.Adr: a structure of the addresses that your layer names (classes, functions); My.Txt K t: a structure (Prop) of the equations over K;
   My.txt_mk : {K} {implicit addresses ..} (e1 : nsIn K mainGlobals "law" = some (some (.ref f))) (e2 : K.lookup f = some ⟨oc, od, .func (fnOf "law" "law" params body scope dV kV doc pm an cdv ct), sl⟩) (e3 : codeIn K cdv "law" = true) .. : ∃ t, My.Txt K t

set_option maxRecDepth 100000 in
set_option maxHeartbeats 0 in
theorem PySem.Challenge.cw_LID_holds : PySem.Challenge.rw_LID.Holds := by
  w_on; o_law; k_head; (case hw => w_witness2)
  k_fill
  refine L2.walk_of (l := PySem.Challenge.rw_LID) (n := 63) (k := 40) (x := "script") (CX := fun w => ..) (sp := fun _ => My.sp_law) rfl (by decide) rfl ⟨rfl, by decide, by decide⟩ (fun w h Y => PySem.W.kIn_of Y) ?F ?S ?C
  case F =>
    intro w mg fa h KX G hmg
    have T : ∃ t, My.Txt (L2.KOf KX) t := by
      dsimp only [L2.KOf]                          -- K must stand as «<heap const> w.params» for k_is
      refine' My.txt_mk ?e1 ?e2 ?e3 ..
      (case e1 => PySem.W.k_is)                    -- in the order: a name -> its address -> its object -> its parts
      (case e2 => PySem.W.k_is)
      ..
    obtain ⟨t, T⟩ := T
    have e0 := hmg.symm.trans (PySem.W.mg_of KX G T.law)
    cases e0                                       -- fa is the law's own address
    exact ⟨_, fun s u => .of_eq rfl, fun base kb nb => My.law_fn T kb nb⟩     -- if «.of_eq rfl» comes too early: refine' ⟨_, ?b, fun base kb nb => My.law_fn T kb nb⟩; exact fun s u => .of_eq rfl
  case S => exact fun w H a ns hl hO hS => ..
  case C => exact ..
(the tactic k_is has no namespace: write k_is) -/

namespace L2
open PySem PySem.Spec PyProof.Rows

def inClass (s : Stmt) (j : Nat) : Stmt := match s with
  | .ClassDef _ _ _ body _ _ _ _ _ _ _ => body.getD j (.Pass ⟨0, 0, 0, 0⟩)
  | _ => .Pass ⟨0, 0, 0, 0⟩
def defArgs (s : Stmt) : Arguments := match s with
  | .FunctionDef _ a _ _ _ _ _ _ _ _ => a
  | _ => { posonlyargs := [], args := [], vararg := none, kwonlyargs := [], kw_defaults := [], kwarg := none, defaults := [] }
def defBody (s : Stmt) : List Stmt := match s with
  | .FunctionDef _ _ b _ _ _ _ _ _ _ => b
  | _ => []
def defScope (s : Stmt) : Scope := match s with
  | .FunctionDef _ _ _ _ _ _ sc _ _ _ => sc
  | _ => { kind := .function, names := [], isGenerator := false, isCoroutine := false }

abbrev CX0 : CXT := fun _ _ _ _ _ _ => False
abbrev E0 : XK := fun _ _ _ => False
theorem pass0 {X : Cx} : Passes CX0 X E0 := fun _ _ _ _ _ _ _ h => h.elim

structure Fun (K : PySem.W.Frag) (x qual : Str) (st : Stmt) (f : Addr) (fd : FuncData) : Prop where
  ex : ∃ (oc : Value) (od : Option Addr) (kV doc pm : Value) (an : Option Addr) (cdv ct : Value) (osl : Array (Option Value)),
    fd = PySem.W.fnOf x qual (defArgs st) (defBody st) (defScope st) .none kV doc pm an cdv ct ∧ K.lookup f = some ⟨oc, od, .func fd, osl⟩ ∧ PySem.W.codeIn K cdv qual = true
  kp : PySem.W.keepIn K (.ref f) = true
section
variable {P : Program} {w : World} {K : PySem.W.Frag} {mg : Str → Option Value} {base : Heap}
theorem Fun.ok {x qual : Str} {st : Stmt} {f : Addr} {fd : FuncData} {N ps : List Str} {k : Nat} {sp : Sp} (F : Fun K x qual st f fd) (S : FnScope N ps (defScope st)) (len : ∀ vs H Q E, sp vs H Q E → vs.length = ps.length)
    (hbody : ∀ (cdv : Value) (A : Around) (outer : List Env) (s : Shared) (H : Hp) (vs : List V) (Q : VK) (E : XK), Room k (A.deeper (envOfC qual (defScope st) s.heap.objs.size f cdv)) → sp vs H Q E →
      ∃ t, PSs (cxOf CX0 P w K mg base N qual (defScope st) f cdv A outer s H E).nox (defBody st) t ∧ t { nx := fun _ H' => Q .non H', rt := Q } (start N vs) H) : FnOk P w K mg base CX0 (k + 1) f fd ps sp := by
  obtain ⟨oc, od, kV, doc, pm, an, cdv, ct, osl, rfl, lk, hcd⟩ := F.ex
  refine fn_of lk hcd S len fun A outer s H vs Q E hr hsp => ?_
  obtain ⟨t, h, q⟩ := hbody cdv A outer s H vs Q E hr hsp
  exact ⟨t, h.nox, q⟩
theorem Fun.binds {x qual : Str} {st : Stmt} {f : Addr} {fd : FuncData} {ps : List Str} (F : Fun K x qual st f fd)
    (h : ∀ (kV doc pm : Value) (an : Option Addr) (cdv ct : Value) (us : List Value), us.length = ps.length → bindArgs (PySem.W.fnOf x qual (defArgs st) (defBody st) (defScope st) .none kV doc pm an cdv ct) ⟨us, []⟩ = pure (ps.zip us)) : Binds K fd ps [] := by
  obtain ⟨oc, od, kV, doc, pm, an, cdv, ct, osl, rfl, lk, hcd⟩ := F.ex
  exact .all (h kV doc pm an cdv ct)
theorem fun_mk {x qual : Str} {st : Stmt} {f : Addr} {oc : Value} {od an : Option Addr} {osl : Array (Option Value)} {kV doc pm cdv ct : Value} (l : K.lookup f = some ⟨oc, od, .func (PySem.W.fnOf x qual (defArgs st) (defBody st) (defScope st) .none kV doc pm an cdv ct), osl⟩)
    (c : PySem.W.codeIn K cdv qual = true) (k : PySem.W.keepIn K (.ref f) = true) : Fun K x qual st f (PySem.W.fnOf x qual (defArgs st) (defBody st) (defScope st) .none kV doc pm an cdv ct) := ⟨⟨oc, od, kV, doc, pm, an, cdv, ct, osl, rfl, l, c⟩, k⟩
end
theorem hu_of {A : Around} {k : Nat} (hr : Room k A) : A.units + 1 < cLine := Nat.lt_of_le_of_lt (Nat.add_le_add_left (by decide : 1 ≤ 64) _) hr.units
section
variable {X : Cx}
theorem pv (i : Nat) {x : Str} {pos : Pos} (hN : X.N[i]? = some x := by rfl) (hv : Vis X.env.scope x := by first | exact Or.inl rfl | exact Or.inr (Or.inl rfl) | exact Or.inr (Or.inr rfl)) (hd : (x == ("__debug__" : Str)) = false := by decide)
    (hcd : (x == ("__classdict__" : Str)) = false := by decide) : PE X (.Name x pos) (tVar i) := pe_var hN hv hd hcd
end

theorem iteF {A B : Prop} (h : B) : if false = true then A else B := by
  rw [if_neg Bool.false_ne_true]
  exact h
theorem iteT {A B : Prop} (h : A) : if true = true then A else B := by
  rw [if_pos rfl]
  exact h
theorem ite2 {c A B : Prop} [Decidable c] (h1 : c → A) (h2 : ¬ c → B) : if c then A else B := by
  by_cases h : c
  · rw [if_pos h]
    exact h1 h
  · rw [if_neg h]
    exact h2 h
theorem iteNS {c A B : Prop} [Decidable c] (hc : c) (h : B) : if (!decide c) = true then A else B := by
  rw [decide_eq_true hc]
  exact iteF h

def Same (H H' : Hp) : Prop := ∀ b o, H b = some o → H' b = some o
theorem Same.refl (H : Hp) : Same H H := fun _ _ h => h
theorem Same.trans {H H1 H2 : Hp} (a : Same H H1) (b : Same H1 H2) : Same H H2 := fun c o h => b c o (a c o h)
theorem Same.seq {K : PySem.W.Frag} {H H' : Hp} {a : Addr} {xs : List V} (e : Same H H') (h : SqL K H a xs) : SqL K H' a xs := by
  rcases h with (h | ⟨o, h⟩) | h
  · exact .inl (.inl (e _ _ h))
  · exact .inl (.inr ⟨o, e _ _ h⟩)
  · exact .inr h

end L2

namespace L2
open PySem PySem.Spec PyProof.Rows

section
variable {κ : Type} [DecidableEq κ]
def valV (kvs : List (κ × V)) (k : κ) : Option V := (kvs.find? fun kv => decide (kv.1 = k)).map (·.2)
def putK (kvs : List (κ × V)) (k : κ) (v : V) : List (κ × V) :=
  if (kvs.any fun kv => decide (kv.1 = k)) = true then kvs.map (fun kv => if kv.1 = k then (kv.1, v) else kv) else kvs ++ [(k, v)]
theorem valV_pos {p : κ × V} {r : List (κ × V)} {k : κ} (e : p.1 = k) : valV (p :: r) k = some p.2 := by simp [valV, List.find?_cons, e]
theorem valV_neg {p : κ × V} {r : List (κ × V)} {k : κ} (e : ¬ p.1 = k) : valV (p :: r) k = valV r k := by simp [valV, List.find?_cons, e]
theorem valV_any (k : κ) : ∀ kvs : List (κ × V), (kvs.any fun kv => decide (kv.1 = k)) = (valV kvs k).isSome
  | [] => rfl
  | p :: r => by
    rw [List.any_cons]
    by_cases e : p.1 = k
    · simp only [valV_pos e, decide_eq_true e, Bool.true_or, Option.isSome_some]
    · rw [valV_neg e, decide_eq_false e, Bool.false_or]; exact valV_any k r
theorem valV_map (k j : κ) (y : V) : ∀ kvs : List (κ × V), valV (kvs.map fun kv => if kv.1 = k then (kv.1, y) else kv) j = (valV kvs j).map fun x => if j = k then y else x
  | [] => rfl
  | p :: r => by
    have ih := valV_map k j y r
    rw [List.map_cons]
    by_cases h : p.1 = k
    · rw [if_pos h]
      by_cases e : p.1 = j
      · rw [valV_pos (p := (p.1, y)) e, valV_pos e, Option.map_some, if_pos (e.symm.trans h)]
      · rw [valV_neg (p := (p.1, y)) e, valV_neg e, ih]
    · rw [if_neg h]
      by_cases e : p.1 = j
      · rw [valV_pos (p := p) e, valV_pos e, Option.map_some, if_neg (fun z => h (e.trans z))]
      · rw [valV_neg (p := p) e, valV_neg e, ih]
theorem valV_snoc (k j : κ) (y : V) : ∀ kvs : List (κ × V), valV kvs k = none → valV (kvs ++ [(k, y)]) j = if j = k then some y else valV kvs j
  | [], _ => by
    by_cases e : k = j
    · rw [if_pos e.symm]; exact valV_pos (p := (k, y)) e
    · rw [if_neg (fun z => e z.symm)]; exact valV_neg (p := (k, y)) e
  | p :: r, hn => by
    rw [List.cons_append]
    have hk : ¬ p.1 = k := fun z => by rw [valV_pos z] at hn; cases hn
    rw [valV_neg hk] at hn
    have ih := valV_snoc k j y r hn
    by_cases e : p.1 = j
    · rw [valV_pos e, valV_pos e, if_neg (fun z => hk (e.trans z))]
    · rw [valV_neg e, valV_neg e, ih]
theorem valV_put (kvs : List (κ × V)) (k j : κ) (y : V) : valV (putK kvs k y) j = if j = k then some y else valV kvs j := by
  unfold putK
  by_cases a : (kvs.any fun kv => decide (kv.1 = k)) = true
  · rw [if_pos a, valV_map]
    rw [valV_any] at a
    by_cases e : j = k
    · obtain ⟨x, hx⟩ := Option.isSome_iff_exists.mp a
      rw [if_pos e, e, hx, Option.map_some, if_pos rfl]
    · rw [if_neg e]
      cases valV kvs j with
      | none => rfl
      | some x => rw [Option.map_some, if_neg e]
  · rw [if_neg a]
    refine valV_snoc k j y kvs ?_
    rw [valV_any] at a
    cases q : valV kvs k with
    | none => rfl
    | some x => rw [q] at a; exact (a rfl).elim
theorem length_putK (kvs : List (κ × V)) (k : κ) (v : V) : (putK kvs k v).length ≤ kvs.length + 1 := by
  unfold putK
  split
  · rw [List.length_map]; lia
  · rw [List.length_append, List.length_cons, List.length_nil]; lia
theorem putK_new {kvs : List (κ × V)} {k : κ} (v : V) (h : valV kvs k = none) : putK kvs k v = kvs ++ [(k, v)] := by
  unfold putK
  rw [valV_any, h]
  exact if_neg (by decide)

theorem RelO.isSome_eq {o : Option V} {u : Option Value} (r : RelO o u) : o.isSome = u.isSome := by
  cases o with
  | none => cases u with
    | none => rfl
    | some _ => exact (show False from r).elim
  | some _ => cases u with
    | none => exact (show False from r).elim
    | some _ => rfl
theorem RelO.getD {o : Option V} {u : Option Value} {d : V} {d' : Value} (r : RelO o u) (rd : RelV d d') : RelV (o.getD d) (u.getD d') := by
  cases o with
  | none => cases u with
    | none => exact rd
    | some _ => exact (show False from r).elim
  | some _ => cases u with
    | none => exact (show False from r).elim
    | some _ => exact r

theorem KV.val {kvs : List (κ × V)} {vs : List (κ × Value)} (r : KV kvs vs) (k : κ) : RelO (valV kvs k) (valueAt vs k) := by
  unfold KV at r
  induction r with
  | nil => exact True.intro
  | @cons p q ps qs h t ih =>
    obtain ⟨h1, h2⟩ := h
    by_cases e : p.1 = k
    · have e' : q.1 = k := h1.symm.trans e
      have b : valueAt (q :: qs) k = some q.2 := by simp [valueAt, List.find?_cons, e']
      rw [valV_pos e, b]; exact h2
    · have e' : ¬ q.1 = k := fun z => e (h1.trans z)
      have b : valueAt (q :: qs) k = valueAt qs k := by simp [valueAt, List.find?_cons, e']
      rw [valV_neg e, b]; exact ih
theorem KV.any {kvs : List (κ × V)} {vs : List (κ × Value)} (r : KV kvs vs) (k : κ) : (kvs.any fun kv => decide (kv.1 = k)) = vs.any fun kv => decide (kv.1 = k) := by
  unfold KV at r
  induction r with
  | nil => rfl
  | cons h t ih => rw [List.any_cons, List.any_cons, ih, h.1]
theorem KV.repl {kvs : List (κ × V)} {vs : List (κ × Value)} (r : KV kvs vs) (k : κ) {y : V} {u : Value} (ry : RelV y u) :
    KV (kvs.map fun kv => if kv.1 = k then (kv.1, y) else kv) (vs.map fun kv => if kv.1 = k then (kv.1, u) else kv) := by
  unfold KV at r ⊢
  induction r with
  | nil => exact .nil
  | @cons p q ps qs h t ih =>
    rw [List.map_cons, List.map_cons]
    refine .cons ?_ ih
    obtain ⟨h1, h2⟩ := h
    by_cases e : p.1 = k
    · rw [if_pos e, if_pos (h1.symm.trans e)]; exact ⟨h1, ry⟩
    · rw [if_neg e, if_neg (fun z => e (h1.trans z))]; exact ⟨h1, h2⟩
theorem KV.put {kvs : List (κ × V)} {vs : List (κ × Value)} (r : KV kvs vs) (k : κ) {y : V} {u : Value} (ry : RelV y u) : KV (putK kvs k y) (stored vs k u) := by
  unfold putK stored
  rw [r.any k]
  by_cases e : (vs.any fun kv => decide (kv.1 = k)) = true
  · rw [if_pos e, if_pos e]; exact r.repl k ry
  · rw [if_neg e, if_neg e]; exact Paired.snoc r ⟨rfl, ry⟩
theorem KV.length {kvs : List (κ × V)} {vs : List (κ × Value)} (r : KV kvs vs) : kvs.length = vs.length := Paired.length r
end

theorem kV_is {P : Program} {w : World} {k : Key} {u : Value} (r : RelV (kV k) u) : (mixKind P w).is k u = true := by
  cases k with
  | inl i => obtain ⟨t, e⟩ := (show ∃ t, u = Value.int i t from r); subst e; exact mixKind_int P w i t
  | inr x => obtain ⟨t, e⟩ := (show ∃ t, u = Value.str x t from r); subst e; exact mixKind_str P w x t
theorem items_are {P : Program} {w : World} : ∀ {ks : List Key} {us : List Value}, Vals (ks.map kV) us → ItemsAre (mixKind P w) ks us
  | [], _, r => by rw [List.map_nil] at r; cases r; exact .nil
  | k :: ks, _, r => by
    rw [List.map_cons] at r
    cases r with
    | cons h t => exact .cons (kV_is h) (items_are t)

abbrev KT (H : Hp) : List (List Key × V) → List (List Key × Addr × Value) → Prop := Paired fun p q => p.1 = q.1 ∧ H q.2.1 = some (.tup (p.1.map kV)) ∧ RelV p.2 q.2.2
theorem KT.val {H : Hp} {kvs : List (List Key × V)} {xs : List (List Key × Addr × Value)} (r : KT H kvs xs) (k : List Key) : RelO (valV kvs k) ((atKey xs k).map (·.2)) := by
  induction r with
  | nil => exact True.intro
  | @cons p q ps qs h t ih =>
    obtain ⟨h1, _, h2⟩ := h
    by_cases e : p.1 = k
    · have e' : q.1 = k := h1.symm.trans e
      have b : atKey (q :: qs) k = some q.2 := by simp [atKey, List.find?_cons, e']
      rw [valV_pos e, b]; exact h2
    · have e' : ¬ q.1 = k := fun z => e (h1.trans z)
      have b : atKey (q :: qs) k = atKey qs k := by simp [atKey, List.find?_cons, e']
      rw [valV_neg e, b]; exact ih
theorem KT.repl {H : Hp} {kvs : List (List Key × V)} {xs : List (List Key × Addr × Value)} (r : KT H kvs xs) (k : List Key) {y : V} {u : Value} (ry : RelV y u) :
    KT H (kvs.map fun kv => if kv.1 = k then (kv.1, y) else kv) (xs.map (putAt k u)) := by
  induction r with
  | nil => exact .nil
  | @cons p q ps qs h t ih =>
    rw [List.map_cons, List.map_cons]
    refine .cons ?_ ih
    obtain ⟨h1, h2, h3⟩ := h
    unfold putAt
    by_cases e : p.1 = k
    · rw [if_pos e, if_pos (h1.symm.trans e)]; exact ⟨h1, h2, ry⟩
    · rw [if_neg e, if_neg (fun z => e (h1.trans z))]; exact ⟨h1, h2, h3⟩
theorem KT.put {H : Hp} {kvs : List (List Key × V)} {xs : List (List Key × Addr × Value)} (r : KT H kvs xs) (k : List Key) {b : Addr} {y : V} {u : Value} (hb : H b = some (.tup (k.map kV))) (ry : RelV y u) :
    KT H (putK kvs k y) (storedH xs k b u) := by
  have e : (kvs.any fun kv => decide (kv.1 = k)) = (atKey xs k).isSome := by
    rw [valV_any, (r.val k).isSome_eq, Option.isSome_map]
  unfold putK storedH
  rw [e]
  by_cases q : (atKey xs k).isSome = true
  · rw [if_pos q, if_pos q]; exact r.repl k ry
  · rw [if_neg q, if_neg q]; exact Paired.snoc r ⟨rfl, hb, ry⟩
theorem KT.keeps {H H' : Hp} {kvs : List (List Key × V)} {xs : List (List Key × Addr × Value)} (r : KT H kvs xs) (ht : ∀ b ys, H b = some (.tup ys) → H' b = some (.tup ys)) : KT H' kvs xs :=
  Paired.mapP r fun _ _ z => ⟨z.1, ht _ _ z.2.1, z.2.2⟩

section
variable {P : Program} {w : World} {H : Hp} {h : Heap} {a : Addr}
theorem rd_of {u : HO} (ok : HOk P w H h) (e : Rd H a u) : ObjOk P w H h a u := e.ok ok
theorem dk_rd {kvs : List (Key × V)} (ok : HOk P w H h) (e : Rd H a (.dK kvs)) : kvs.length ≤ sizeLine ∧ (a == sysModules) = false ∧ ∃ vs, KV kvs vs ∧ h.DictOf (mixKind P w) a vs :=
  show ObjOk P w H h a (.dK kvs) from rd_of ok e
theorem dk_of {kvs : List (Key × V)} (ok : HOk P w H h) (e : H a = some (.dK kvs)) : kvs.length ≤ sizeLine ∧ (a == sysModules) = false ∧ ∃ vs, KV kvs vs ∧ h.DictOf (mixKind P w) a vs := dk_rd ok (.inl e)
theorem key_of {ks : List Key} (ok : HOk P w H h) (e : H a = some (.tup (ks.map kV))) : (tupleKind (mixKind P w)).is h ks a := by
  obtain ⟨_, its, r, o, h1, h2, n, h3⟩ := (show ObjOk P w H h a (.tup (ks.map kV)) from ok a _ e)
  exact ⟨o, its.toArray, n, h1, h2, h3, by simpa using items_are r⟩
theorem dt_rd {kvs : List (List Key × V)} (ok : HOk P w H h) (e : Rd H a (.dT kvs)) : kvs.length ≤ sizeLine ∧ (a == sysModules) = false ∧
    ∃ xs, KT H kvs xs ∧ h.DictOfH (tupleKind (mixKind P w)) a xs := by
  obtain ⟨z, y, xs, r, o, es, ep, h1, h2, h3, h4, h5⟩ := (show ObjOk P w H h a (.dT kvs) from rd_of ok e)
  refine ⟨z, y, xs, r, o, es, ep, h1, h2, h3, h4, fun x hx => ?_, h5⟩
  have all : ∀ {l : List (List Key × V)} {m : List (List Key × Addr × Value)}, KT H l m → ∀ x ∈ m, (tupleKind (mixKind P w)).is h x.1 x.2.1 := by
    intro l m q
    induction q with
    | nil => intro x hx; exact nomatch hx
    | @cons p q ps qs hq t ih =>
      intro x hx
      rcases List.mem_cons.mp hx with e | hx
      · subst e
        exact key_of ok (by rw [← hq.1]; exact hq.2.1)
      · exact ih x hx
  exact all r x hx
theorem dt_of {kvs : List (List Key × V)} (ok : HOk P w H h) (e : H a = some (.dT kvs)) : kvs.length ≤ sizeLine ∧ (a == sysModules) = false ∧
    ∃ xs, KT H kvs xs ∧ h.DictOfH (tupleKind (mixKind P w)) a xs := dt_rd ok (.inl e)
end

def DGet (H : Hp) (a : Addr) (y : V) (r : Option V) : Prop :=
  (∃ kvs k, Rd H a (.dK kvs) ∧ y = kV k ∧ r = valV kvs k) ∨ ∃ kvs k b, Rd H a (.dT kvs) ∧ y = .ref b ∧ H b = some (.tup (k.map kV)) ∧ r = valV kvs k
def DPut (H : Hp) (a : Addr) (y v : V) (H' : Hp) : Prop :=
  (∃ kvs k, H a = some (.dK kvs) ∧ y = kV k ∧ kvs.length < sizeLine ∧ H' = upd H a (.dK (putK kvs k v))) ∨
  ∃ kvs k b, H a = some (.dT kvs) ∧ y = .ref b ∧ H b = some (.tup (k.map kV)) ∧ kvs.length < sizeLine ∧ H' = upd H a (.dT (putK kvs k v))
theorem DGet.k {H : Hp} {a : Addr} {kvs : List (Key × V)} {k : Key} (e : H a = some (.dK kvs)) : DGet H a (kV k) (valV kvs k) := .inl ⟨kvs, k, .inl e, rfl, rfl⟩
theorem DGet.t {H : Hp} {a b : Addr} {kvs : List (List Key × V)} {k : List Key} (e : H a = some (.dT kvs)) (eb : H b = some (.tup (k.map kV))) : DGet H a (.ref b) (valV kvs k) := .inr ⟨kvs, k, b, .inl e, rfl, eb, rfl⟩
theorem DPut.k {H : Hp} {a : Addr} {kvs : List (Key × V)} {k : Key} {v : V} (e : H a = some (.dK kvs)) (hl : kvs.length < sizeLine) : DPut H a (kV k) v (upd H a (.dK (putK kvs k v))) := .inl ⟨kvs, k, e, rfl, hl, rfl⟩
theorem DPut.t {H : Hp} {a b : Addr} {kvs : List (List Key × V)} {k : List Key} {v : V} (e : H a = some (.dT kvs)) (eb : H b = some (.tup (k.map kV))) (hl : kvs.length < sizeLine) :
    DPut H a (.ref b) v (upd H a (.dT (putK kvs k v))) := .inr ⟨kvs, k, b, e, rfl, eb, hl, rfl⟩

section
variable {X : Cx} {pins : List (Addr × Obj)} {σ : St} {H : Hp} {s : Shared} {a : Addr} {y v : V} {u r : Value} {o : Option V} {A : Around} {E : Value → Shared → Prop}

theorem Inv.big (I : Inv X pins σ H s) : sysModules < s.heap.objs.size := by
  have h : mainGlobals < s.heap.objs.size := (I.mod.glob.keeps I.bk).lt
  exact Nat.lt_trans (by decide) h

theorem d_getItem {Q : Value → Shared → Prop} (hu : A.units + 1 < cLine) (I : Inv X pins σ H s) (g : DGet H a y (some v)) (ry : RelV y u) (h : ∀ w' s', Inv X pins σ H s' → RelV v w' → Q w' s') :
    wpAny (model X.prog X.w) A (getItem (.ref a) u) Q E s := by
  rcases g with ⟨kvs, k, e, ey, l⟩ | ⟨kvs, k, b, e, ey, eb, l⟩
  · subst ey
    obtain ⟨z, hd, vs, rel, dd⟩ := dk_rd I.hok e
    obtain ⟨w', hw, rw'⟩ := RelO.some_of (v := v) (o := valueAt vs k) (by rw [l]; exact rel.val k)
    exact wpAny_getItem_of (kV_is ry) dd.mapOf hw (h w' _ (I.tok _) rw')
  · subst ey
    cases (show u = Value.ref b from ry)
    obtain ⟨z, hd, xs, rel, dd⟩ := dt_rd I.hok e
    obtain ⟨w', hw, rw'⟩ := RelO.some_of (v := v) (o := (atKey xs k).map (·.2)) (by rw [l]; exact rel.val k)
    obtain ⟨p, hp, hp2⟩ := Option.map_eq_some_iff.mp hw
    refine wpAny_getItem_heap (tupleKind_room_in1 hu) (key_of I.hok eb) dd hp ?_
    rw [hp2]
    exact h w' _ (I.tok _) rw'
theorem d_write {h' : Heap} {t' : Nat} {ob : HO} (I : Inv X pins σ H s) (mu : Mut (H a)) (hs : Heap.SameBut a s.heap h') (he : ∃ q, h'.get? a = some q) (new : ObjOk X.prog X.w (upd H a ob) h' a ob) :
    Inv X pins σ (upd H a ob) { s with heap := h', toks := t' } :=
  I.write (x := a) (e := a) mu (.inl rfl) (fun b q hb z => (hs.2 b hb).trans z) he new
theorem dk_new {P : Program} {w : World} {H' : Hp} {h' : Heap} {kvs : List (Key × V)} {vs : List (Key × Value)} (z : kvs.length ≤ sizeLine) (hd : (a == sysModules) = false) (rel : KV kvs vs) (dd : h'.DictOf (mixKind P w) a vs) :
    ObjOk P w H' h' a (.dK kvs) := ⟨z, hd, vs, rel, dd⟩
theorem d_setItem {H' : Hp} {Q : Unit → Shared → Prop} (hu : A.units + 1 < cLine) (I : Inv X pins σ H s) (g : DPut H a y v H') (ry : RelV y u) (rv : RelV v r) (h : ∀ s', Inv X pins σ H' s' → Q () s') :
    wpAny (model X.prog X.w) A (setItem (.ref a) u r) Q E s := by
  rcases g with ⟨kvs, k, e, ey, l, eH⟩ | ⟨kvs, k, b, e, ey, eb, l, eH⟩
  · subst ey eH
    obtain ⟨z, hd, vs, rel, dd⟩ := dk_of I.hok e
    have hz : vs.length ≤ sizeLine := by rw [← rel.length]; exact z
    have hl : (putK kvs k v).length ≤ sizeLine := by have := length_putK kvs k v; lia
    refine wpAny_setItem_pairs (hsz := hz) (kV_is ry) dd fun h' dd' hs => h _ ?_
    have he : ∃ q, h'.get? a = some q := let ⟨q, _, _, hq, _⟩ := dd'; ⟨q, hq⟩
    exact d_write I (by rw [e]; exact True.intro) hs he (dk_new hl hd (rel.put k rv) dd')
  · subst ey eH
    cases (show u = Value.ref b from ry)
    obtain ⟨z, hd, xs, rel, dd⟩ := dt_of I.hok e
    have hz : xs.length ≤ sizeLine := by rw [← Paired.length rel]; exact z
    have hl : (putK kvs k v).length ≤ sizeLine := by have := length_putK kvs k v; lia
    refine wpAny_setItem_heap (hsz := hz) (tupleKind_room_in1 hu) (key_of I.hok eb) dd fun h' dd' hs => h _ ?_
    obtain ⟨q, es, ep, hq, h2, h3, h4, _, h5⟩ := dd'
    refine d_write I (by rw [e]; exact True.intro) hs ⟨q, hq⟩ ⟨hl, hd, _, (rel.put k eb rv).keeps fun c ys ec => ?_, q, es, ep, hq, h2, h3, h4, h5⟩
    rw [upd_ne (ne_of ec e (fun z => nomatch z))]
    exact ec
end

section
variable {X : Cx} {pins : List (Addr × Obj)} {σ : St} {H : Hp} {s : Shared} {a : Addr} {kvs : List (Key × V)} {k : Key} {u : Value} {A : Around} {E : Value → Shared → Prop}
end

def NoSl (i : Expr) : Prop := ∀ ov iv, subscripted i false ov iv = operate [ov, iv] (getItem ov iv)
theorem subD_of {prog : Program} {w : World} {A : Around} {E : Value → Shared → Prop} {s : Shared} {env : Env} {value slice : Expr} {pos : Pos} {T id : String} {Q : Value → Shared → Prop}
    (hl : typeLookup (.type T) "__getitem__" = pure (some (.builtin id))) (hs : NoSl slice)
    (h : wpAny (model prog w) A (eval value env) (fun o s₁ => wpAny (model prog w) A (eval slice env) (fun i s₂ => s₂.TypeIs o T ∧ wpAny (model prog w) A (getItem o i) Q E s₂) E s₁) E s) :
    wpAny (model prog w) A (eval (.Subscript value slice pos) env) Q E s := by
  refine Subscript_ (wpAny_mono h (fun o s₁ h₁ => wpAny_mono h₁ (fun i s₂ h₂ => ?_) fun _ _ x => x) fun _ _ x => x)
  obtain ⟨hT, h₂⟩ := h₂
  unfold subscriptTail
  refine wpAny_bind ?_
  rw [getitemInPython_of_ne hT.not_modules]
  refine wpAny_bind (wpAny_specialOf hT hl ?_)
  have fin : wpAny (model prog w) A (subscripted slice false o i) (fun r s₃ => wpAny (model prog w) A (letTemporaryGo value o r >>= fun _ => pure r) Q E s₃) E s₂ := by
    rw [hs o i]
    exact wpAny_operating (wpAny_mono h₂ (fun r s₃ h₃ => wpAny_bind (wpAny_letTemporaryGo (wpAny_pure h₃))) fun _ _ x => x)
  first
    | exact wpAny_pure (wpAny_bind fin)
    | exact wpAny_bind (wpAny_pure (wpAny_bind fin))
    | exact wpAny_bind fin

theorem dict_typeIs {X : Cx} {pins : List (Addr × Obj)} {σ : St} {H : Hp} {s : Shared} {a : Addr} {y : V} {o : Option V} (I : Inv X pins σ H s) (g : DGet H a y o) : s.TypeIs (.ref a) "dict" := by
  rcases g with ⟨kvs, k, e, _, _⟩ | ⟨kvs, k, b, e, _, _, _⟩
  · obtain ⟨_, _, vs, _, dd⟩ := dk_rd I.hok e
    exact dd.typeIs
  · obtain ⟨_, _, xs, _, dd⟩ := dt_rd I.hok e
    exact dd.typeIs
def tDGet (td ty : TE) : TE := fun σ H Q => td σ H fun x H1 => ty σ H1 fun y H2 => ∃ a v, x = .ref a ∧ DGet H2 a y (some v) ∧ Q v H2
def sDPut (td ty tv : TE) : TS := fun D σ H => tv σ H fun v H1 => td σ H1 fun x H2 => ty σ H2 fun y H3 => ∃ a H4, x = .ref a ∧ DPut H3 a y v H4 ∧ D.nx σ H4
section
variable {X : Cx} {o i e value : Expr} {pos pos' tpos : Pos} {td ty tv : TE}
theorem pe_dget (hu : X.A.units + 1 < cLine) (ho : PE X o td) (hi : PE X i ty) (hs : NoSl i) : PE X (.Subscript o i pos) (tDGet td ty) := by
  intro pins s σ H Q I h
  refine subD_of PySem.F.slot_dict_getitem.lookup hs (thn (ho pins s σ H _ I h) fun u s1 ⟨x, H1, I1, rx, q1⟩ => thn (hi pins s1 σ H1 _ I1 q1) fun iv s2 ⟨y, H2, I2, ry, a, v, ex, g, q2⟩ => ?_)
  subst ex
  obtain rfl : u = Value.ref a := rx
  exact ⟨dict_typeIs I2 g, d_getItem hu I2 g ry fun w' s3 I3 rw' => ⟨v, H2, I3, rw', q2⟩⟩
theorem ps_dput (hu : X.A.units + 1 < cLine) (ho : PE X o td) (hi : PE X i ty) (hv : PE X value tv) (hs : swapsWith value (some (.Subscript o i pos')) pos.line X.env = pure false) :
    PS X (.Assign [.Subscript o i pos'] value pos) (sDPut td ty tv) := by
  intro pins s σ H D I h
  refine wpAny_Assign_Subscript (thn (hv pins s σ H _ I h) fun r s1 ⟨v, H1, I1, rv, q1⟩ => thn (ho pins s1 σ H1 _ I1 q1) fun u s2 ⟨x, H2, I2, rx, q2⟩ => thn (hi pins s2 σ H2 _ I2 q2) fun iv s3 ⟨y, H3, I3, ry, a, H4, ex, g, q3⟩ => ?_) hs
  subst ex
  obtain rfl : u = Value.ref a := rx
  exact d_setItem hu I3 g ry rv fun s4 I4 => ⟨σ, H4, I4, q3⟩
end

theorem dk_empty {P : Program} {w : World} {H : Hp} (h : Heap) (hb : sysModules < h.objs.size) : ObjOk P w H (h.push { cls := .type "dict", data := .dict #[] }) h.objs.size (.dK []) :=
  ⟨Nat.zero_le _, beq_eq_false_iff_ne.mpr (Ne.symm (Nat.ne_of_lt hb)), [], .nil, Heap.DictOf.new h⟩
theorem dt_empty {P : Program} {w : World} {H : Hp} (h : Heap) (hb : sysModules < h.objs.size) : ObjOk P w H (h.push { cls := .type "dict", data := .dict #[] }) h.objs.size (.dT []) :=
  ⟨Nat.zero_le _, beq_eq_false_iff_ne.mpr (Ne.symm (Nat.ne_of_lt hb)), [], .nil, _, #[], 0, Heap.get?_push_size _ rfl, ⟨rfl, rfl, rfl⟩, rfl, rfl, List.nodup_nil⟩
def tDNewK : TE := fun _ H Q => ∀ p, H p = none → Q (.ref p) (upd H p (.dK []))
def tDNewT : TE := fun _ H Q => ∀ p, H p = none → Q (.ref p) (upd H p (.dT []))
section
variable {X : Cx} {pos : Pos}
theorem pe_dnewK : PE X (.Dict [] [] pos) tDNewK := fun pins s σ H Q I h =>
  wpAny_Dict_empty ⟨.ref s.heap.objs.size, _, I.laid (a := s.heap.objs.size) (o := .dK []) (t' := s.toks) (fun _ _ q => Heap.get?_push_of_some _ q) (Nat.le_refl _) (dk_empty s.heap I.big), rfl, h _ (I.hok.fresh (Nat.le_refl _))⟩
theorem pe_dnewT : PE X (.Dict [] [] pos) tDNewT := fun pins s σ H Q I h =>
  wpAny_Dict_empty ⟨.ref s.heap.objs.size, _, I.laid (a := s.heap.objs.size) (o := .dT []) (t' := s.toks) (fun _ _ q => Heap.get?_push_of_some _ q) (Nat.le_refl _) (dt_empty s.heap I.big), rfl, h _ (I.hok.fresh (Nat.le_refl _))⟩
end

structure M1 (X : Cx) (o : Expr) (m : Str) (apos : Pos) (e : Expr) (cpos : Pos) : Prop where
  base : attributeBase o m X.env (eval o X.env) = eval o X.env
  few : ((backTo cpos (starEach [e] X.env)).all (fun x => !x.1) && (backToKw cpos (keywordEach [] X.env)).all (fun x => x.1.isSome)
    && decide (([e] : List Expr).length + ([] : List Keyword).length + (if ([] : List Keyword).isEmpty then 0 else 1) < 30)) = true
  line : (apos.endLine == cpos.line) = true
  trees : backTo cpos (starEach [e] X.env) = [(false, eval e X.env)]
def IsD (H : Hp) (a : Addr) : Prop := (∃ kvs, Rd H a (.dK kvs)) ∨ ∃ kvs, Rd H a (.dT kvs)
theorem isD_at {X : Cx} {pins : List (Addr × Obj)} {σ : St} {H : Hp} {s : Shared} {a : Addr} (I : Inv X pins σ H s) (d : IsD H a) :
    s.TypeIs (.ref a) "dict" ∧ (∀ b, Value.ref a = .ref b → ∃ ob, s.heap.get? b = some ob ∧ ob.dict = none) ∧ (a == sysModules) = false := by
  rcases d with ⟨kvs, e⟩ | ⟨kvs, e⟩
  · obtain ⟨_, hd, vs, _, dd⟩ := dk_rd I.hok e
    refine ⟨dd.typeIs, fun b q => ?_, hd⟩
    cases q
    obtain ⟨ob, _, _, h1, h2, _⟩ := dd
    exact ⟨ob, h1, h2.2.1⟩
  · obtain ⟨_, hd, xs, _, dd⟩ := dt_rd I.hok e
    refine ⟨dd.typeIs, fun b q => ?_, hd⟩
    cases q
    obtain ⟨ob, _, _, h1, h2, _⟩ := dd
    exact ⟨ob, h1, h2.2.1⟩

section
variable {X : Cx} {pins : List (Addr × Obj)} {σ : St} {H : Hp} {s : Shared} {a : Addr} {y d : V} {u r : Value} {o : Option V} {A : Around} {E : Value → Shared → Prop}
theorem d_get1 {Q : Value → Shared → Prop} (hu : A.units + 1 < cLine) (I : Inv X pins σ H s) (g : DGet H a y o) (ry : RelV y u) (h : ∀ w' s', Inv X pins σ H s' → RelV (o.getD .non) w' → Q w' s') :
    wpAny (model X.prog X.w) A (call (.builtin "dict.get") [.ref a, u]) Q E s := by
  rcases g with ⟨kvs, k, e, ey, l⟩ | ⟨kvs, k, b, e, ey, eb, l⟩
  · subst ey
    obtain ⟨z, hd, vs, rel, dd⟩ := dk_rd I.hok e
    refine call_meetsIn PySem.F.slot_dict_get dd.typeIs PySem.F.entry_dict_get (PySem.F.args_dict_get_2 _ _) (meets_dict_get (mixKind X.prog X.w) a (kV_is ry) hd) ⟨_, dd.mapOf, h _ _ (I.tok _) ?_⟩
    rw [l]
    exact (rel.val k).getD rfl
  · subst ey
    cases (show u = Value.ref b from ry)
    obtain ⟨z, hd, xs, rel, dd⟩ := dt_rd I.hok e
    refine call_meetsIn PySem.F.slot_dict_get dd.typeIs PySem.F.entry_dict_get (PySem.F.args_dict_get_2 _ _) (meetsH_dict_get (tupleKind (mixKind X.prog X.w)) a b hd) ⟨tupleKind_room_in1 hu, k, xs, key_of I.hok eb, dd, h _ _ (I.tok _) ?_⟩
    rw [l]
    exact (rel.val k).getD rfl
end

def tDGet1 (td ty : TE) : TE := fun σ H Q => td σ H fun x H1 => ∃ a, x = .ref a ∧ IsD H1 a ∧ ty σ H1 fun y H2 => ∃ o, DGet H2 a y o ∧ Q (o.getD .non) H2
section
variable {X : Cx} {o e f : Expr} {apos cpos : Pos} {td ty tx : TE}
theorem pe_dget1 (hu : X.A.units + 1 < cLine) (ho : PE X o td) (he : PE X e ty) (m : M1 X o "get" apos e cpos) : PE X (.Call (.Attribute o "get" apos) [e] [] cpos) (tDGet1 td ty) := by
  intro pins s σ H Q I h
  refine wpAny_Call_method m.base m.few m.line PySem.F.plainAttrs_dict PySem.F.slot_dict_get PySem.F.type_dict_get (thn (ho pins s σ H _ I h) fun u s1 ⟨x, H1, I1, rx, a, ex, d, q1⟩ => ?_)
  subst ex
  obtain rfl : u = Value.ref a := rx
  obtain ⟨t1, t2, _⟩ := isD_at I1 d
  refine ⟨t1, t2, ?_⟩
  rw [m.trees]
  refine Calls.callWith_builtin rfl (Calls.evalArgs_plain (Calls.spliced_cons (thn (he pins s1 σ H1 _ I1 q1) fun iv s2 ⟨y, H2, I2, ry, ov, g, q2⟩ => Calls.spliced_nil ?_)))
  exact d_get1 hu I2 g ry fun w' s3 I3 rw' => ⟨_, H2, I3, rw', q2⟩
end

section
variable {X : Cx} {pins : List (Addr × Obj)} {σ : St} {H : Hp} {s : Shared} {a : Addr} {kvs : List (Key × V)} {A : Around} {E : Value → Shared → Prop}
end

section
variable {X : Cx} {pins : List (Addr × Obj)} {σ : St} {H : Hp} {s : Shared} {a : Addr} {y : V} {u : Value} {A : Around} {E : Value → Shared → Prop}
end
end L2
namespace L2
open PySem PySem.Spec PyProof.Rows
section
variable {X : Cx}
end
section
variable {κ : Type} [DecidableEq κ]
end
end L2

namespace L2
open PySem PySem.Spec PyProof.Rows

section
variable {P : Program} {w : World} {K : PySem.W.Frag} {mg : Str → Option Value} {base : Heap} {N : List Str} {qual : Str} {scope : Scope} {f : Addr} {cd : Value} {A : Around} {outer : List Env} {s : Shared} {H : Hp} {E : XK}
end
end L2

namespace L2
open PySem PySem.Spec PyProof.Rows

section
variable {X : Cx} {C : Addr} {x : Str} {np cpos pos : Pos} {e : Expr} {es : List Expr} {t : TA} {E : XK}
end

section
variable {X : Cx} {CX : CXT} {k : Nat} {f : Addr} {fd : FuncData} {ps : List Str} {sp : Sp} {dvs : List V} {ds : List Value} {E : XK} {x : Str} {p pos : Pos} {e : Expr} {es : List Expr} {t : TA} {S : St → Prop}
end

def isExc (a D : Addr) : HO := .ext fun h => ∃ o, h.get? a = some o ∧ o.cls = .ref D ∧ PySem.W.notCls o = true
theorem Inv.track {X : Cx} {pins : List (Addr × Obj)} {σ : St} {H : Hp} {s : Shared} {a : Addr} {o : HO} (I : Inv X pins σ H s) (ha : H a = none) (h0 : X.s₀.heap.get? a = none) (hb : X.base.get? a = none) (hL : X.env.locals ≠ a) (hc : ∀ x c, X.env.cells.lookup x = some c → c ≠ a)
    (hp : ∀ p, p ∈ X.pn ++ pins → p.1 ≠ a) (hs : ∀ b, b ∈ X.fs → b ≠ a) (new : ObjOk X.prog X.w (upd H a o) s.heap a o) : Inv X pins σ (upd H a o) s := by
  have ne : ∀ b u, H b = some u → b ≠ a := fun b u q z => by rw [z, ha] at q; cases q
  refine ⟨I.ok, I.os, I.bare, ⟨I.base.keep, I.base.slot, fun b u q n x => ?_, I.base.there, fun b xs q => ?_, fun b u v q => ?_, fun b ps q => ?_⟩, I.loc, I.cell, ?_, fun x c q => ?_, fun p z => ?_, fun b u q => ?_, I.len⟩
  · rw [upd_ne (fun z => by rw [z, h0] at q; cases q)]
    exact I.base.free b u q n x
  · have z := I.base.tups b xs q
    rw [upd_ne (ne _ _ z)]; exact z
  · have z := I.base.frzs b u v q
    rw [upd_ne (ne _ _ z)]; exact z
  · obtain ⟨m, z⟩ := I.base.tbls b ps q
    exact ⟨m, by rw [upd_ne (ne _ _ z)]; exact z⟩
  · rw [upd_ne hL]; exact I.free
  · rw [upd_ne (hc x c q)]; exact I.freeC x c q
  · obtain ⟨e, n, r⟩ := I.pin p z
    exact ⟨e, by rw [upd_ne (hp p z)]; exact n, r⟩
  · by_cases z : b = a
    · subst z
      rw [upd_same] at q
      cases q
      exact new
    · rw [upd_ne z] at q
      exact (I.hok b u q).stay (fun c v _ r => r) (fun c r => by rw [upd_ne (ne _ _ r)]; exact r) fun c xs r => by rw [upd_ne (ne _ _ r)]; exact r
end L2

namespace L2
open PySem PySem.Spec PyProof.Rows

section
variable {X : Cx} {C : Addr} {x n : Str} {np hpos pos : Pos} {i : Nat} {b₀ : Stmt} {suite body : List Stmt} {S : St → Prop} {tb : XK → TS} {th : TS}
end

section
variable {P : Program} {w : World} {K : PySem.W.Frag} {mg : Str → Option Value} {base : Heap}
end
section
variable {X : Cx} {k : Nat} {f : Addr} {fd : FuncData} {ps : List Str} {sp : Sp} {x : Str} {p pos : Pos} {e : Expr} {es : List Expr} {t : TA}
end
end L2

namespace L2
open PySem PySem.Spec PyProof.Rows

section
variable {X : Cx} {tg : Expr}
def Itr3 (lo c : Int) (n : Nat) : It := ⟨fun i _ => i < n, fun i H x H' => H' = H ∧ x = .int (lo + i * c), fun i _ => i = n⟩
theorem turn_range3 {P : Program} {w : World} {K : PySem.W.Frag} (it : Addr) (lo c : Int) (n : Nat) : Turn P w K tg (Itr3 lo c n) [it] it (fun i h => IsRangeIter h it (lo + (i : Nat) * c) ((n : Int) - (i : Nat)) c) where
  mem := by simp
  obj := fun i h st b hb => by
    have e : b = it := by simpa using hb
    subst e
    exact ⟨_, st, fun v z => by
      have z' : Data.fields _ = Data.cell v := z
      cases z'⟩
  keep := fun i h h' st k => k it (by simp) _ st
  item := by
    intro X hP hw hK hc i pins s σ H E I hf st hg
    subst hP hw hK
    obtain ⟨f0, f1, f2, f3, f4, f5⟩ := hf it (by simp)
    refine (Walks.range (prog := X.prog) (w := X.w) (I.ok.hd hc) it lo c n).item i s _ _ hg st fun v h' tk hv st' kk => ?_
    obtain ⟨t, rfl⟩ := hv
    have I1 : Inv X pins σ H { s with heap := h', toks := tk } := I.turned (fun b o hb e => kk b o (by simpa using hb) e) f0 f1 f3 f4 f5
    exact ⟨_, rfl, go_of (s := { s with heap := h', toks := tk }) (n := "range_iterator") st' rfl rfl (by decide) ⟨.int (lo + i * c), H, I1, ⟨t, rfl⟩, ⟨rfl, rfl⟩, st', fun b hb => (hf b hb).1⟩⟩
  done := by
    intro X hP hw hK hc i pins s σ H E I hf st hg
    subst hP hw hK
    obtain ⟨f0, f1, f2, f3, f4, f5⟩ := hf it (by simp)
    have z : i = n := hg
    subst z
    exact (Walks.range (prog := X.prog) (w := X.w) (I.ok.hd hc) it lo c i).done s _ _ st fun h' tk kk => ⟨rfl, I.turned (fun b o hb e => kk b o (by simpa using hb) e) f0 f1 f3 f4 f5⟩
  self := fun _ _ _ _ _ st h => wpAny_pyIter_rangeiter st h
def iRng3 (ta : TA) : TI := fun σ H R => ta σ H fun vs H1 => ∃ (i j c : Int) (n : Nat), vs = [.int i, .int j, .int c] ∧ c ≠ 0 ∧ (j - i).natAbs < 1073741824 ∧ c.natAbs < 1073741824 ∧ Builtin.Range.small i j c = true ∧ Builtin.Range.rangeSize i j c = (n : Int) ∧ R (Itr3 i c n) H1
theorem pi_range3 {a b c : Expr} {ta : TA} {p pos : Pos} (hg : Gl X "range") (hm : X.mg "range" = none) (ha : PA X [a, b, c] ta) (hs : starEach [a, b, c] X.env = [(false, eval a X.env), (false, eval b X.env), (false, eval c X.env)] := by rfl)
    (hs2 : starEach [b, c] X.env = [(false, eval b X.env), (false, eval c X.env)] := by rfl) : PI X tg (.Call (.Name "range" p) [a, b, c] [] pos) (iRng3 ta) := by
  intro pins s σ H R I h
  refine Call_ (ld_blt I hg hm boot_range (PyProof.Rows.callWith_type1 (thn (ha pos pins s σ H _ I h) fun us s1 ⟨vs, H1, I1, r1, q1⟩ => ?_) (by rw [hs, hs2]) (by rw [hs2]; rfl)))
  obtain ⟨i, j, c, n, rfl, hc, hb1, hb2, hsm, hsz, q⟩ := q1
  cases r1 with
  | cons r rr =>
    cases rr with
    | cons r' rr =>
      cases rr with
      | cons r'' rr =>
        cases rr
        obtain ⟨t, rfl⟩ := r
        obtain ⟨t', rfl⟩ := r'
        obtain ⟨t'', rfl⟩ := r''
        refine call_range_3 hc (wpAny_pyIter_range (IsRange.new ..) hsm ?_) (.inl (PyProof.noPylong_small (by lia)))
        have I2 : Inv X pins σ H1 { s1 with heap := s1.heap.push { cls := .type "range", data := .fields #[.int i t, .int j t', .int c t''] } } := I1.kept (t' := s1.toks) fun b o e => Heap.get?_push_of_some _ e
        refine ⟨(s1.heap.push { cls := .type "range", data := .fields #[.int i t, .int j t', .int c t''] }).objs.size, [(s1.heap.push { cls := .type "range", data := .fields #[.int i t, .int j t', .int c t''] }).objs.size], _, _, H1, rfl,
          I2.kept (t' := s1.toks) fun b o e => Heap.get?_push_of_some _ e, turn_range3 _ i c n, ?_, fun b hb => ?_, q⟩
        · show IsRangeIter _ _ (i + ((0 : Nat) : Int) * c) ((n : Int) - ((0 : Nat) : Int)) c
          have e1 : i + ((0 : Nat) : Int) * c = i := by simp
          have e2 : (n : Int) - ((0 : Nat) : Int) = Builtin.Range.rangeSize i j c := by rw [hsz]; simp
          rw [e1, e2]
          exact Heap.get?_push_size _ rfl
        · have e : b = (s1.heap.push { cls := .type "range", data := .fields #[.int i t, .int j t', .int c t''] }).objs.size := by simpa using hb
          subst e
          exact I2.fpOk (Nat.le_refl _) (I2.hok.fresh (Nat.le_refl _))
theorem for_range3 {lo c : Int} {n : Nat} {g : TG} {tb : TS} {D : Ends} {σ : St} {H : Hp} (Pv : Nat → St → Hp → Prop) (h0 : Pv 0 σ H)
    (hs : ∀ i σ H, i < n → Pv i σ H → g (.int (lo + i * c)) σ H fun σ2 H2 => tb { D with nx := Pv (i + 1), ct := Pv (i + 1), bk := D.nx } σ2 H2) (hd : ∀ σ H, Pv n σ H → D.nx σ H) :
    ∃ W : Nat → Nat → St → Hp → Prop, (∃ m, W 0 m σ H) ∧ ∀ i m σ H, W i m σ H →
      ((Itr3 lo c n).stop i H ∧ D.nx σ H) ∨ ((Itr3 lo c n).go i H ∧ ∃ N : St → Hp → Prop, (∀ σ' H', N σ' H' → ∃ m', m' < m ∧ W (i + 1) m' σ' H') ∧ ∀ v H', (Itr3 lo c n).yld i H v H' → g v σ H' fun σ2 H2 => tb { D with nx := N, ct := N, bk := D.nx } σ2 H2) := by
  refine ⟨fun i m σ H => m = n - i ∧ i ≤ n ∧ Pv i σ H, ⟨n, by simp, Nat.zero_le _, h0⟩, ?_⟩
  rintro i m σ H ⟨rfl, hi, p⟩
  by_cases hlt : i < n
  · refine .inr ⟨hlt, Pv (i + 1), fun σ' H' p' => ⟨n - (i + 1), by lia, rfl, hlt, p'⟩, fun v H' y => ?_⟩
    obtain ⟨e, rfl⟩ := y
    subst e
    exact hs i σ _ hlt p
  · have e : i = n := by lia
    subst e
    exact .inl ⟨rfl, hd σ H p⟩
end
end L2

namespace L2
open PySem PySem.Spec PyProof.Rows

section
variable {X : Cx} {iter : Expr} {ti : TE} {x G : Str} {px px1 px2 cpos pos : Pos} {scope : Scope} {g : Str}
end

structure ExcF (K : PySem.W.Frag) (D : Addr) : Prop where
  hd : PySem.W.hasDictIn K D = true
  ga : PySem.W.findIn K (.ref D) "__getattribute__" = some (some (.builtin "BaseException.__getattribute__"))
  gt : PySem.W.findIn K (.ref D) "__getattr__" = some none
  cl : PySem.W.findIn K (.ref D) "__class__" = some (some (.builtin "object.__class__"))
  sp : PySem.W.specialIn K (.builtin "object.__class__") "__get__" = some (some (.builtin "getset_descriptor.__get__"))
  tk : PySem.W.takesIn K (.builtin "object.__class__") = some true
  mo : PySem.W.mroIn K D (.type "object") = some true
  mb : PySem.W.mroIn K D (.type "BaseException") = some true
section
variable {K : PySem.W.Frag} {prog : Program} {w : World} {A : Around} {E : Value → Shared → Prop} {s : Shared} {a D : Addr} {o : Obj}
open PySem.W Builtin Builtin.ObjectAttr Builtin.Getset_descriptor
theorem exc_find {M : Model} {h : Heap} (X : K.In h) (f : ExcF K D) : Looks M h (find (.ref a) (.ref D) "__class__") (.bind (.builtin "getset_descriptor.__get__") (.builtin "object.__class__")) :=
  (looks_findIn X f.cl).andThen ((looks_specialIn X f.sp).andThen ((show Looks M h (dataDescriptor? (some (.builtin "object.__class__")) (some (.builtin "getset_descriptor.__get__"))) (some (.builtin "getset_descriptor.__get__", .builtin "object.__class__")) from (looks_takesIn X f.tk).andThen .now).andThen (Looks.tag .now)))
theorem exc_get {R : Result → Shared → Prop} {tp : Value} (X : K.In s.heap) (f : ExcF K D) (he : s.heap.get? a = some o) (hc : o.cls = .ref D) (hq : R (.ok (.ret (.ref D))) s) :
    codeAny (model prog w) A (.call (.builtin "getset_descriptor.__get__") ⟨[.builtin "object.__class__", .ref a, tp], []⟩) R s := by
  obtain ⟨h, g, d, t, os⟩ := s
  have L0 : Looks (model prog w) h (typeOf (.ref a)) (.ref D) := hc ▸ (Looks.ld he).andThen .now
  have L1 := looks_mroIn (M := model prog w) X f.mo
  refine codeAny_call_builtin KF.slot_gs.plain KF.entry_gs (KF.slot_gs.check _ _ _ _ _ _ _ _ KF.type_class (KF.args_gs _ _ _) ?_)
  unfold Builtin.«getset_descriptor.__get__» descrGet
  rw [dga_obj]
  refine wpAny_bind (wpAny_pure ?_)
  unfold descrGetter descrCheckInstance descrNameAndClass isInstance
  simp only [KF.owner_class]
  repeat lk
  refine ⟨Code.quiet_builtin _ (by decide +kernel), codeAny_builtin KF.entry_class ?_⟩
  unfold Builtin.«object.__class__» shownTypeOf
  repeat lk
  exact hq
theorem exc_class {Q : Option Value → Shared → Prop} (X : K.In s.heap) (f : ExcF K D) (he : s.heap.get? a = some o) (hc : o.cls = .ref D) (hq : Q (some (.ref D)) { s with toks := s.toks + 1 }) :
    wpAny (model prog w) A (getAttr? (.ref a) "__class__") Q E s := by
  obtain ⟨h, g, d, t, os⟩ := s
  have L0 : Looks (model prog w) h (typeOf (.ref a)) (.ref D) := hc ▸ (Looks.ld he).andThen .now
  have L1 := looks_findIn (M := model prog w) X f.ga
  have L2 := looks_findIn (M := model prog w) X f.gt
  have L3 := exc_find (M := model prog w) (a := a) X f
  have L4 : Looks (model prog w) h (isInstance (.ref a) (.type "BaseException")) true := L0.andThen (looks_mroIn X f.mb)
  unfold getAttr? getAttrBy? getAttrBy
  refine wpAny_bind (wpAny_mkText (wpAny_bind (wpAny_attempt (wpAny_holding (wpAny_bind (L0.at (wpAny_bind (L1.at ?_))))))))
  dsimp only
  have n0 : (Value.builtin "BaseException.__getattribute__" == Value.builtin "object.__getattribute__") = false := by decide +kernel
  rw [if_neg (by rw [n0, Bool.and_false]; exact Bool.false_ne_true)]
  unfold getAttrByItsOwn hookBefore
  rw [if_pos (by rfl)]
  refine wpAny_bind (L2.at ?_)
  refine wpAny_bind (wpAny_attempt (wpAny_holding ?_))
  unfold callGetattribute
  rw [if_neg (by decide)]
  unfold boundAndCalled
  refine wpAny_bind (wpAny_of_eq (PySem.F.excAttr_ValueError.ga.bind (.ref a)) ?_)
  dsimp only
  refine wpAny_call (codeAny_call_builtin PySem.F.excAttr_ValueError.ga.plain PySem.F.entry_bexc_ga ?_)
  have hk : builtinKind "BaseException.__getattribute__" = some .slot := by decide +kernel
  have hsp : splitId "BaseException.__getattribute__" = some ("BaseException", "__getattribute__") := by decide +kernel
  have har := PySem.F.args_bexc_ga (.ref a) (.str "__class__" t)
  simp only [checkBuiltinCall, hk, hsp]
  refine wpAny_bind (L4.at ?_)
  rw [if_neg (by decide)]
  refine wpAny_of_eq (a := ()) har ?_
  unfold Builtin.«object.__getattribute__»
  dsimp only at L3
  repeat ((fail_if_success (with_reducible show wpAny _ _ (call _ _) _ _ _)); lk)
  refine wpAny_call (exc_get (s := ⟨h, g, d, t + 1, os⟩) X f he hc ?_)
  dsimp only
  repeat lk
  exact hq
end
end L2

namespace L2
open PySem PySem.Spec PyProof.Rows
inductive TyX (K : PySem.W.Frag) (H : Hp) : V → Value → Prop where
  | of {x : V} {t : Value} (h : TyOf K H x t) : TyX K H x t
  | exc {a D : Addr} (e : H a = some (isExc a D)) (f : ExcF K D) : TyX K H (.ref a) (.ref D)
theorem kitx_exc {K : PySem.W.Frag} {a D : Addr} (f : ExcF K D) : PySem.W.KitX K (.ref a) (.ref D) (fun h => ∃ o, h.get? a = some o ∧ o.cls = .ref D ∧ PySem.W.notCls o = true) where
  ty := fun M h X ⟨o, e, c, _⟩ => c ▸ (PySem.W.Looks.ld e).andThen .now
  it := fun M h X _ => by
    obtain ⟨cd, hc, _⟩ := PySem.W.any_some f.hd
    unfold PySem.W.clsIn at hc
    split at hc
    · rename_i c' d' cd' sl' ho
      intro A' Q' E' s' k q
      unfold isType loadHead
      exact wpAny_bind (wpAny_loadPart (k _ _ (X _ _ ho)) (wpAny_pure q))
    · cases hc
  ne := fun h tp dd its n sl X htp => by
    obtain ⟨cd, hc, _⟩ := PySem.W.any_some f.hd
    refine Bool.eq_false_iff.mpr fun q => ?_
    have e : D = tp := Value.ref.inj (beq_iff_eq.mp q)
    subst e
    unfold PySem.W.clsIn at hc
    split at hc
    · rename_i c' d' cd' sl' ho
      have z := (X _ _ ho).symm.trans htp
      cases z
    · cases hc
  ca := fun X ⟨o, e, c, _⟩ k => exc_class X f e c k
def clsV : V → Option Value
  | .ty n => some (.type n)
  | .ref C => some (.ref C)
  | _ => none
theorem call_isi {X : Cx} : CallR X (.builtin "isinstance") (fun xs H Q => ∃ x c cv t b, xs = [x, c] ∧ clsV c = some cv ∧ TyX X.K H x t ∧ PySem.W.kitOne X.K t cv = some b ∧ Q (.bl b) H) := by
  intro pins s σ H xs us Q I r h
  obtain ⟨x, c, cv, t, b, rfl, hc, ty, hk, q⟩ := h
  cases r with
  | @cons _ u _ _ rx rr =>
    cases rr with
    | @cons _ v _ _ rc rn =>
      cases rn
      have ev : v = cv := by
        cases c with
        | ty n => cases hc; exact rc
        | ref C => cases hc; exact rc
        | _ => cases hc
      subst ev
      cases ty with
      | of ty => exact isinst_ok I rx ty hk fun tk => ⟨.bl b, H, I.tok tk, rfl, q⟩
      | @exc a D e f =>
        cases (show u = Value.ref a from rx)
        obtain ⟨p, _, _⟩ := (show ObjOk X.prog X.w H s.heap a (isExc a D) from I.hok a _ e)
        exact PySem.W.kia_one (kitx_exc f) I.kIn p hk (fun z => nomatch z) fun tk => ⟨.bl b, H, I.tok tk, rfl, q⟩
section
variable {X : Cx} {c : Expr} {a b : List Stmt} {tc : TT} {t u : TS} {pos : Pos}
end
end L2

namespace L2
open PySem PySem.Spec PyProof.Rows

def clStep (env : Env) (a : List (Str × Addr)) (x : Str × NameKind) : List (Str × Addr) := if (x.2 == NameKind.free) = true then (x.1, (env.cells.lookup x.1).getD 0) :: a else a
def clOf (env : Env) (l : List (Str × NameKind)) : List (Str × Addr) := l.foldl (clStep env) []
theorem forIn_fold {α β : Type} {l : List α} {f : α → β → Sem (ForInStep β)} {g : β → α → β} (h : ∀ x ∈ l, ∀ b, f x b = pure (.yield (g b x))) : ∀ b, forIn l b f = pure (l.foldl g b) := by
  induction l with
  | nil => intro b; rfl
  | cons x l ih =>
    intro b
    rw [List.forIn_cons, h x List.mem_cons_self, pure_bind]
    exact ih (fun y hy => h y (List.mem_cons_of_mem _ hy)) _
theorem closure_of {scope : Scope} {env : Env} (h : ∀ y ∈ scope.names, y.2 = .free → ∃ c, env.cells.lookup y.1 = some c) : closureFor scope env = pure (clOf env scope.names) := by
  simp only [closureFor]
  rw [forIn_fold (g := clStep env) (fun x hx c => by
    obtain ⟨n, k⟩ := x
    by_cases hk : k = .free
    · subst hk
      obtain ⟨a, ha⟩ := h _ hx rfl
      have e : cellOf env n = pure a := by unfold cellOf; rw [show env.cells.lookup n = some a from ha]
      simp only [clStep, beq_self_eq_true, if_true, e, show env.cells.lookup n = some a from ha, Option.getD_some]
      rfl
    · have hb : (k == NameKind.free) = false := by simpa using hk
      simp only [clStep, hb, Bool.false_eq_true, if_false])]
  rfl
theorem cl_lookup (env : Env) {y : Str} {c : Addr} : ∀ (l : List (Str × NameKind)) (a : List (Str × Addr)), (l.foldl (clStep env) a).lookup y = some c → a.lookup y = some c ∨ ((y, NameKind.free) ∈ l ∧ c = (env.cells.lookup y).getD 0)
  | [], a, h => .inl h
  | (n, k) :: r, a, h => by
    rw [List.foldl_cons] at h
    rcases cl_lookup env r _ h with z | ⟨z, e⟩
    · unfold clStep at z
      split at z
      · rename_i hk
        have hk' : k = .free := by simpa using hk
        rw [List.lookup_cons] at z
        split at z
        · rename_i hy
          have hy' : y = n := by simpa using hy
          subst hy' hk'
          exact .inr ⟨List.mem_cons_self, (Option.some.inj z).symm⟩
        · exact .inl z
      · exact .inl z
    · exact .inr ⟨List.mem_cons_of_mem _ z, e⟩
theorem cl_stays (env : Env) {y : Str} : ∀ (l : List (Str × NameKind)) (a : List (Str × Addr)), (∃ c, a.lookup y = some c) → ∃ c, (l.foldl (clStep env) a).lookup y = some c
  | [], _, h => h
  | (n, k) :: r, a, h => by
    rw [List.foldl_cons]
    refine cl_stays env r _ ?_
    unfold clStep
    split
    · rw [List.lookup_cons]
      split
      · exact ⟨_, rfl⟩
      · exact h
    · exact h
theorem cl_has (env : Env) {y : Str} : ∀ (l : List (Str × NameKind)) (a : List (Str × Addr)), (y, NameKind.free) ∈ l → ∃ c, (l.foldl (clStep env) a).lookup y = some c
  | [], _, h => by simp at h
  | (n, k) :: r, a, h => by
    rw [List.foldl_cons]
    rcases List.mem_cons.mp h with e | h
    · cases e
      refine cl_stays env r _ ⟨(env.cells.lookup y).getD 0, ?_⟩
      unfold clStep
      simp only [beq_self_eq_true, if_true, List.lookup_cons]
    · exact cl_has env r _ h
theorem relabel_of {env : Env} {y : Str} : ∀ {names : List (Str × NameKind)}, (∀ z ∈ names, z.2 ≠ .cell) →
    ((names.map fun (n, k) => if (k == NameKind.free && env.scope.kind == .function && env.kindOf n == some .cell) then (n, NameKind.cell) else (n, k)).lookup y = some .cell ∨
      (names.map fun (n, k) => if (k == NameKind.free && env.scope.kind == .function && env.kindOf n == some .cell) then (n, NameKind.cell) else (n, k)).lookup y = some .free) → (y, NameKind.free) ∈ names
  | [], _, h => by simp at h
  | (n, k) :: r, hc, h => by
    have ih := @relabel_of env y r (fun z hz => hc z (List.mem_cons_of_mem _ hz))
    have h' : List.lookup y ((if (k == NameKind.free && env.scope.kind == .function && env.kindOf n == some .cell) = true then (n, NameKind.cell) else (n, k)) :: (r.map fun (n, k) => if (k == NameKind.free && env.scope.kind == .function && env.kindOf n == some .cell) then (n, NameKind.cell) else (n, k))) = some .cell ∨
      List.lookup y ((if (k == NameKind.free && env.scope.kind == .function && env.kindOf n == some .cell) = true then (n, NameKind.cell) else (n, k)) :: (r.map fun (n, k) => if (k == NameKind.free && env.scope.kind == .function && env.kindOf n == some .cell) then (n, NameKind.cell) else (n, k))) = some .free := h
    clear h
    by_cases hb : (k == NameKind.free && env.scope.kind == .function && env.kindOf n == some .cell) = true
    · rw [if_pos hb] at h'
      have hk : k = .free := by
        simp only [Bool.and_eq_true, beq_iff_eq] at hb
        exact hb.1.1
      simp only [List.lookup_cons] at h'
      cases hy : y == n with
      | true =>
        have : y = n := by simpa using hy
        subst this hk
        exact List.mem_cons_self
      | false =>
        rw [hy] at h'
        exact List.mem_cons_of_mem _ (ih h')
    · rw [if_neg hb] at h'
      simp only [List.lookup_cons] at h'
      cases hy : y == n with
      | true =>
        rw [hy] at h'
        have : y = n := by simpa using hy
        subst this
        rcases h' with z | z
        · exact absurd (Option.some.inj z) (hc (y, k) List.mem_cons_self)
        · cases Option.some.inj z
          exact List.mem_cons_self
      | false =>
        rw [hy] at h'
        exact List.mem_cons_of_mem _ (ih h')
theorem relabel_free {env : Env} {y : Str} : ∀ {names : List (Str × NameKind)}, names.lookup y = some .free →
    ((names.map fun (n, k) => if (k == NameKind.free && env.scope.kind == .function && env.kindOf n == some .cell) then (n, NameKind.cell) else (n, k)).lookup y = some .cell ∨
      (names.map fun (n, k) => if (k == NameKind.free && env.scope.kind == .function && env.kindOf n == some .cell) then (n, NameKind.cell) else (n, k)).lookup y = some .free)
  | [], h => by simp at h
  | (n, k) :: r, h => by
    have ih := @relabel_free env y r
    show List.lookup y ((if (k == NameKind.free && env.scope.kind == .function && env.kindOf n == some .cell) = true then (n, NameKind.cell) else (n, k)) :: (r.map fun (n, k) => if (k == NameKind.free && env.scope.kind == .function && env.kindOf n == some .cell) then (n, NameKind.cell) else (n, k))) = some .cell ∨
      List.lookup y ((if (k == NameKind.free && env.scope.kind == .function && env.kindOf n == some .cell) = true then (n, NameKind.cell) else (n, k)) :: (r.map fun (n, k) => if (k == NameKind.free && env.scope.kind == .function && env.kindOf n == some .cell) then (n, NameKind.cell) else (n, k))) = some .free
    rw [List.lookup_cons] at h
    by_cases hb : (k == NameKind.free && env.scope.kind == .function && env.kindOf n == some .cell) = true
    · rw [if_pos hb]
      simp only [List.lookup_cons]
      cases hy : y == n with
      | true => exact .inl rfl
      | false => rw [hy] at h; exact ih h
    · rw [if_neg hb]
      simp only [List.lookup_cons]
      cases hy : y == n with
      | true => rw [hy] at h; exact .inr h
      | false => rw [hy] at h; exact ih h

section
variable {prog : Program} {w : World} {A : Around} {R : Result → Shared → Prop} {s : Shared}
abbrev testsOf (ifs : List Expr) (env : Env) : Sem Bool := forIn ifs true fun c r => if r = true then do let ok ← isTrue c env (eval c env); pure (ForInStep.yield ok) else pure (ForInStep.yield r)
theorem compLoop_go {elt target iter : Expr} {ifs : List Expr} {scope : Scope} {pos : Pos} {it acc : Value} {env : Env} (I : Nat → Shared → Prop)
    (turn : ∀ n s, I n s → wpAny (model prog w) A (pyNext it) (fun r s₁ => match r with
      | none => R (.ok .next) s₁
      | some v => wpAny (model prog w) A (letOwnedTupleGo target it v) (fun _ s₀ => wpAny (model prog w) A (assign target env v) (fun _ s₂ =>
          wpAny (model prog w) A (testsOf ifs env) (fun ok s₃ =>
            if ok = true then wpAny (model prog w) A (eval elt env) (fun x s₄ =>
              wpAny (model prog w) A (call (.builtin "list.append") [acc, x]) (fun _ s₅ => ∃ m, m < n ∧ I m s₅) (fun _ _ => False) s₄) (fun _ _ => False) s₃
            else ∃ m, m < n ∧ I m s₃) (fun _ _ => False) s₂) (fun _ _ => False) s₀) (fun _ _ => False) s₁) (fun _ _ => False) s)
    (n : Nat) (h : I n s) : codeAny (model prog w) A (.compLoop (.ListComp elt [⟨target, iter, ifs, 0⟩] scope pos) 0 it acc env) R s := by
  refine codeAny_loop rfl I (fun n s hI => ?_) n h
  show wpAny _ A ((compTurn (.ListComp elt [⟨target, iter, ifs, 0⟩] scope pos) 0 it acc env).onRaise (fun x => do noteFrame x env; theTreesLotGoes x)) _ _ s
  refine wpAny_noted ?_
  rw [compTurn_list]
  refine wpAny_bind (wpAny_standAt (wpAny_bind (wpAny_mono (turn n s hI) (fun r s₁ h₁ => ?_) fun _ _ h' => h'.elim)))
  cases r with
  | none => exact wpAny_pure h₁
  | some v =>
    refine wpAny_bind (wpAny_mono h₁ (fun _ s₀ h₀ => ?_) fun _ _ h' => h'.elim)
    refine wpAny_bind (wpAny_mono h₀ (fun _ s₂ h₂ => wpAny_bind (wpAny_mono h₂ (fun ok s₃ h₃ => ?_) fun _ _ h' => h'.elim)) fun _ _ h' => h'.elim)
    cases ok with
    | false => exact wpAny_pure ⟨rfl, h₃⟩
    | true =>
      exact wpAny_bind (wpAny_bind (wpAny_mono h₃ (fun x s₄ h₄ => wpAny_bind (wpAny_mono h₄ (fun _ s₅ h₅ => wpAny_pure (wpAny_pure ⟨rfl, h₅⟩)) fun _ _ h' => h'.elim)) fun _ _ h' => h'.elim))
end

def caps (cs : List Nat) (σ : St) : St := cs.map fun j => (σ[j]?).getD none
def cxC (X : Cx) (scope : Scope) (N : List Str) (s : Shared) (H : Hp) (ex : List Addr) : Cx :=
  { X with N := N, s₀ := s, H₀ := H, env := compEnvC scope (clOf X.env scope.names) s.heap.objs.size X.env, outer := X.stack, stack := X.stack, ex := ex, fn := fun _ => false, pn := [], xe := fun _ _ => False }
def PTs (X : Cx) (ifs : List Expr) (t : TT) : Prop :=
  ∀ (pins : List (Addr × Obj)) (s : Shared) (σ : St) (H : Hp) (Q : Bool → Hp → Prop), Inv X pins σ H s → t σ H Q → wpAny (model X.prog X.w) X.A (testsOf ifs X.env) (TP X pins σ Q) X.xe s
def tYes : TT := fun _ H Q => Q true H
theorem pts_nil {X : Cx} : PTs X [] tYes := fun _ _ _ H _ I h => wpAny_tests_nil ⟨H, I, h⟩
theorem pts_one {X : Cx} {c : Expr} {t : TT} (h : PT X c t) : PTs X [c] t := fun pins s σ H Q I q => wpAny_tests_one (h pins s σ H Q I q)
structure CScope (X : Cx) (scope : Scope) (N : List Str) (k : Nat) (cs : List Nat) : Prop where
  cell : ∀ y ∈ scope.names, y.2 ≠ .cell
  kind : scope.kind = .function
  names : ∀ y ∈ scope.names, y.2 = .local → scope.names.lookup y.1 = some .local
  free : ∀ y ∈ scope.names, y.2 = .free → X.env.scope.names.lookup y.1 = some .cell ∨ X.env.scope.names.lookup y.1 = some .free
  len : N.length = k + cs.length
  cap : ∀ j, j < cs.length → ∃ x, N[k + j]? = some x ∧ X.N[cs.getD j 0]? = some x ∧ scope.names.lookup x = some .free

def tBlock (k : Nat) (cs : List Nat) (g : TG) (tc : TT) (te : TE) (J : It) (σ : St) (H1 : Hp) (fin : List V → Hp → Prop) : Prop :=
  ∃ W : Nat → Nat → List V → Hp → Prop, (∃ m, W 0 m [] H1) ∧ ∀ i m acc H, W i m acc H →
    (J.stop i H ∧ fin acc H) ∨ (J.go i H ∧ ∃ Nx : List V → Hp → Prop, (∀ acc' H', Nx acc' H' → ∃ m', m' < m ∧ W (i + 1) m' acc' H') ∧ ∀ x H', J.yld i H x H' → g x (List.replicate k none ++ caps cs σ) H' fun σ2 H2 => (∃ ts : St, ts.length = k ∧ σ2 = ts ++ caps cs σ) ∧ acc.length < sizeLine ∧
      tc σ2 H2 fun b H3 => if b = true then te σ2 H3 fun v H4 => Nx (acc ++ [v]) H4 else Nx acc H3)
def tComp (k : Nat) (cs : List Nat) (wi : TI) (g : TG) (tc : TT) (te : TE) : TE := fun σ H Q => wi σ H fun J H1 => tBlock k cs g tc te J σ H1 fun acc H2 => ∀ p, H2 p = none → Q (.ref p) (upd H2 p (.lst acc))

section
variable {X : Cx} {tg iter elt : Expr} {ifs : List Expr} {scope : Scope} {pos : Pos} {wi : TI} {g : TG} {tc : TT} {te : TE} {N : List Str} {k : Nat} {cs : List Nat}
theorem Inv.block {pins : List (Addr × Obj)} {σ : St} {H : Hp} {s s' : Shared} {ex : List Addr} (hc : X.calm = true) (S : CScope X scope N k cs) (I : Inv X pins σ H s)
    (hex : ∀ b ∈ ex, FpOk X pins H b ∧ ∃ o, s.heap.get? b = some o) (hos : s'.os = s.os) (hg : AllBare s'.gens) (hk : ∀ b o, s.heap.get? b = some o → s'.heap.get? b = some o) (hn : ∃ m, s'.heap.Ns s.heap.objs.size m) :
    Inv (cxC X scope N s H ex) [] (List.replicate k none ++ caps cs σ) H s' := by
  have lk : ∀ {x c}, (clOf X.env scope.names).lookup x = some c → X.env.cells.lookup x = some c := fun {x c} h => by
    rcases cl_lookup X.env _ _ h with z | ⟨z, e⟩
    · simp at z
    · obtain ⟨a, ha⟩ := I.ok.has x (S.free _ z rfl)
      rw [e, ha]; rfl
  have nex : ∀ b, b ∈ ex → b ≠ s.heap.objs.size := fun b hb z => by
    obtain ⟨_, o, ho⟩ := hex b hb
    exact absurd (Heap.lt_size ho) (by rw [z]; exact Nat.lt_irrefl _)
  refine ⟨⟨I.ok.mod, S.kind, I.ok.glob, I.ok.blt, Nat.le_refl _, fun x y c h1 h2 => I.ok.inj x y c (lk h1) (lk h2), fun x hx => ?_, fun x c h _ => (nomatch h), I.ok.hd, I.ok.frames, .inl rfl, fun b hb => ⟨nex b hb, fun x c h => ?_⟩, I.bs, ?_, fun b o e hb => ?_, fun b hb hf => ?_, I.stack, I.stkFree⟩,
    hos, hg, Un.kept hk, ?_, fun x c h => ?_, I.hok.fresh (Nat.le_refl _), fun x c h => I.freeC x c (lk h), fun p hp => absurd (show p ∈ ([] : List (Addr × Obj)) from hp) (by simp), I.hok.kept hk, ?_⟩
  · exact cl_has X.env _ _ (relabel_of S.cell hx)
  · exact (hex b hb).1.2.2.2.2.1 x c (lk h)
  · exact Nat.le_trans I.ok.bsz I.sz
  · rcases (hex b hb).1.2.2.2.1 with z | z
    · exact I.ok.noex b o e z
    · exact absurd (Nat.lt_of_lt_of_le (Heap.lt_size e) (Nat.le_trans I.ok.bsz z)) (Nat.lt_irrefl _)
  · rcases List.mem_cons.mp (I.stkSub b hf) with z | z
    · exact (hex b hb).1.2.1 z
    · exact (hex b hb).1.2.2.1 z
  · obtain ⟨m, hm⟩ := hn
    obtain ⟨mo, hmo, hlo⟩ := I.loc
    refine ⟨m, hm, fun i x v h1 h2 h3 => ?_⟩
    have hi : k ≤ i := by
      by_cases z : i < k
      · rw [List.getElem?_append_left (by simpa using z), List.getElem?_replicate, if_pos z] at h2
        cases h2
      · lia
    obtain ⟨j, rfl⟩ : ∃ j, i = k + j := ⟨i - k, by lia⟩
    rw [List.getElem?_append_right (by simp), List.length_replicate, Nat.add_sub_cancel_left] at h2
    unfold caps at h2
    rw [List.getElem?_map] at h2
    have hj : j < cs.length := by
      by_cases z : j < cs.length
      · exact z
      · rw [List.getElem?_eq_none (by lia)] at h2
        cases h2
    obtain ⟨x', e1, e2, e3⟩ := S.cap j hj
    rw [show N[k + j]? = some x from h1] at e1
    cases e1
    rw [List.getElem?_eq_getElem hj] at h2
    have h2' : (σ[cs[j]]?).getD none = some v := Option.some.inj h2
    rw [List.getD_eq_getElem?_getD, List.getElem?_eq_getElem hj] at e2
    have h4 : σ[cs[j]]? = some (some v) := by
      cases q : σ[cs[j]]? with
      | none => rw [q] at h2'; cases h2'
      | some w => rw [q] at h2'; rw [show w = some v from h2']
    have kO := S.free (x, .free) (PySem.mem_of_lookup e3) rfl
    obtain ⟨u, ru, l⟩ := hlo _ x v e2 h4 (.inr kO)
    refine ⟨u, ru, ?_⟩
    rcases l with ⟨z, _⟩ | ⟨_, c, hc', z⟩
    · have z' : X.env.scope.names.lookup x = some .local := z
      rcases kO with q | q <;> · rw [z'] at q; cases q
    · obtain ⟨c', h5⟩ := cl_has X.env _ [] (PySem.mem_of_lookup e3)
      have h6 := lk h5
      rw [hc'] at h6
      cases h6
      obtain ⟨o, ho, hd⟩ := z
      exact .inr ⟨relabel_free e3, c, h5, o, hk _ _ ho, hd⟩
  · obtain ⟨v, o, ho, hd⟩ := I.cell x c (lk h)
    exact ⟨v, o, hk _ _ ho, hd⟩
  · show (List.replicate k none ++ caps cs σ).length = N.length
    rw [List.length_append, List.length_replicate, S.len]
    unfold caps
    rw [List.length_map]
end
end L2

namespace L2
open PySem PySem.Spec PyProof.Rows
section
variable {X : Cx} {tg iter elt : Expr} {ifs : List Expr} {scope : Scope} {pos : Pos} {wi : TI} {g : TG} {tc : TT} {te : TE} {N : List Str} {k : Nat} {cs : List Nat} {fin : List V → Hp → Prop}
theorem comp_loop {pins : List (Addr × Obj)} {σ : St} {H2 : Hp} {sD s1 : Shared} {it D : Addr} {fp : List Addr} {tn : Nat → Heap → Prop} {J : It} {n0 : Nat} {RR : Result → Shared → Prop} (hc : X.calm = true) (S : CScope X scope N k cs)
    (hg : ∀ s H ex, PG (cxC X scope N s H ex) tg g) (ht : ∀ s H ex, PTs (cxC X scope N s H ex) ifs tc) (he : ∀ s H ex, PE (cxC X scope N s H ex) elt te)
    (ID : Inv X pins σ H2 sD) (hD : sD.heap.get? D = some { cls := .type "list", data := .seq ([] : List Value).toArray n0 }) (hD0 : X.s₀.heap.objs.size ≤ D) (fD : FpOk X pins H2 D) (nfp : D ∉ fp)
    (T : Turn X.prog X.w X.K tg J fp it tn) (st : tn 0 sD.heap) (f2 : ∀ b ∈ fp, FpOk X pins H2 b) (hb : tBlock k cs g tc te J σ H2 fin)
    (hos : s1.os = sD.os) (hgn : AllBare s1.gens) (hk : ∀ b o, sD.heap.get? b = some o → s1.heap.get? b = some o) (hn : ∃ m, s1.heap.Ns sD.heap.objs.size m)
    (hRR : ∀ (H' : Hp) (acc : List V) (s4 : Shared), fin acc H' → H' D = none → Inv X pins σ (upd H' D (.lst acc)) s4 → (∃ m, s4.heap.Ns sD.heap.objs.size m) → FpOk X pins (upd H' D (.lst acc)) sD.heap.objs.size → RR (.ok .next) s4) :
    codeAny (model X.prog X.w) X.A (.compLoop (.ListComp elt [⟨tg, iter, ifs, 0⟩] scope pos) 0 (.ref it) (.ref D) (compEnvC scope (clOf X.env scope.names) sD.heap.objs.size X.env)) RR s1 := by
  obtain ⟨W, ⟨m0, w0⟩, turn⟩ := hb
  have hobj : ∀ b, b ∈ D :: fp → ∃ o, sD.heap.get? b = some o := fun b hb => by
    rcases List.mem_cons.mp hb with rfl | z
    · exact ⟨_, hD⟩
    · obtain ⟨o, e, _⟩ := T.obj _ _ st b z
      exact ⟨o, e⟩
  have hexx : ∀ b ∈ D :: fp, FpOk X pins H2 b ∧ ∃ o, sD.heap.get? b = some o := fun b hb => ⟨by
    rcases List.mem_cons.mp hb with rfl | z
    · exact fD
    · exact f2 b z, hobj b hb⟩
  have neC : ∀ b, b ∈ D :: fp → b ≠ sD.heap.objs.size := fun b hb z => by
    obtain ⟨o, e⟩ := hobj b hb
    exact absurd (Heap.lt_size e) (by rw [z]; exact Nat.lt_irrefl _)
  have nfr : ∀ b, b ∈ D :: fp → b ∉ frs X.stack := fun b hb hf => by
    rcases List.mem_cons.mp (ID.stkSub b hf) with z | z
    · exact (hexx b hb).1.2.1 z
    · exact (hexx b hb).1.2.2.1 z
  have I0 := ID.block hc S hexx hos hgn hk hn
  have I0ok := I0.ok
  have cells : ∀ b, b ∈ D :: fp → ∀ x c, (clOf X.env scope.names).lookup x = some c → c ≠ b := fun b hb x c h => (I0ok.exf b hb).2 x c h
  have fpok : ∀ {H' : Hp} {pl : List (Addr × Obj)}, (∀ b ∈ fp, H' b = none) → (∀ p ∈ pl, p.1 = D) → ∀ b ∈ fp, FpOk (cxC X scope N sD H2 (D :: fp)) pl H' b := fun hn hp b hb =>
    ⟨hn b hb, neC b (.tail _ hb), nfr b (.tail _ hb), .inl (.tail _ hb), cells b (.tail _ hb), fun p hp' z => nfp (by
      have := hp p hp'
      rw [← this, z]; exact hb)⟩
  refine compLoop_go (fun n s' => ∃ (i : Nat) (acc : List V) (its : List Value) (nn : Nat) (H' : Hp), Inv (cxC X scope N sD H2 (D :: fp)) [] (List.replicate k none ++ caps cs σ) H' s' ∧ tn i s'.heap ∧ (∀ b ∈ fp, H' b = none) ∧ H' D = none ∧ acc.length ≤ sizeLine ∧ Vals acc its ∧
    s'.heap.get? D = some { cls := .type "list", data := .seq its.toArray nn } ∧ W i n acc H') ?_ m0
    ⟨0, [], [], n0, H2, I0, T.keep _ _ _ st (fun b _ o e => hk b o e), fun b hb => (f2 b hb).1, fD.1, Nat.zero_le _, .nil, hk _ _ hD, w0⟩
  rintro n s3 ⟨i, acc, its, nn, H3, I3, st3, fr3, nD3, hl3, v3, e3, w3⟩
  have I3p : Inv (cxC X scope N sD H2 (D :: fp)) [(D, { cls := .type "list", data := .seq its.toArray nn })] (List.replicate k none ++ caps cs σ) H3 s3 := I3.pins_of fun p hp => by
    rw [List.mem_singleton] at hp
    subst hp
    exact ⟨e3, nD3, neC D (.head _), nfr D (.head _), fun v z => by cases z⟩
  have one : ∀ p ∈ [((D, { cls := .type "list", data := .seq its.toArray nn }) : Addr × Obj)], p.1 = D := fun p hp => by
    rw [List.mem_singleton] at hp
    subst hp
    rfl
  rcases turn i n acc H3 w3 with ⟨stop, qf⟩ | ⟨go, Nx, hNx, step⟩
  · refine thn (T.done (cxC X scope N sD H2 (D :: fp)) rfl rfl rfl hc i _ s3 _ H3 _ I3p (fpok fr3 one) st3 stop) fun r s4 ⟨hr, I4⟩ => ?_
    subst hr
    have IX : Inv X pins σ H3 s4 := ID.call' (ch := D :: fp) I4.os I4.base I4.hok I4.bare fun b hb => ⟨(hexx b hb).1.2.2.2.1, (hexx b hb).1.2.1, (hexx b hb).1.2.2.2.2.1, (hexx b hb).1.2.2.2.2.2⟩
    have p4 := (I4.pin (D, { cls := .type "list", data := .seq its.toArray nn }) (by show _ ∈ [] ++ [_]; simp)).1
    have IY : Inv X pins σ (upd H3 D (.lst acc)) s4 := by
      refine IX.track nD3 (Heap.get?_none_of_le hD0) (Heap.get?_none_of_le (Nat.le_trans ID.ok.bsz hD0)) (Ne.symm fD.2.1) fD.2.2.2.2.1 fD.2.2.2.2.2 (fun b hb z => fD.2.2.1 (z ▸ hb)) ?_
      exact ⟨hl3, its, nn, v3, p4⟩
    refine hRR H3 acc s4 qf nD3 IY ?_ (ID.fpOk (Nat.le_refl _) ?_)
    · obtain ⟨m, hm, _⟩ := I4.loc
      exact ⟨m, hm⟩
    · rw [upd_ne (Ne.symm (neC D (.head _)))]
      exact I4.free
  · refine thn (T.item (cxC X scope N sD H2 (D :: fp)) rfl rfl rfl hc i _ s3 _ H3 (fun _ _ => False) I3p (fpok fr3 one) st3 go) fun r s4 ⟨u, hr, h4⟩ => ?_
    subst hr
    refine thn h4 fun _ s5 ⟨x, H5, I5, r5, y5, st5, fr5⟩ => ?_
    have I5' := I5.pinned (fpok fr5 one) (T.obj _ _ st5)
    refine thn (hg sD H2 (D :: fp) _ s5 _ H5 x u _ I5' r5 (step x H5 y5)) fun _ s6 ⟨σ6, H6, I6, ⟨ts, tl, eσ⟩, hz6, q6⟩ => ?_
    refine thn (ht sD H2 (D :: fp) _ s6 σ6 H6 _ I6 q6) fun b s7 ⟨H7, I7, q7⟩ => ?_
    have weak : ∀ {pl : List (Addr × Obj)} {H' : Hp} {s' : Shared}, Inv (cxC X scope N sD H2 (D :: fp)) pl σ6 H' s' → Inv (cxC X scope N sD H2 (D :: fp)) [] (List.replicate k none ++ caps cs σ) H' s' := fun {pl H' s'} J => by
      refine (J.weak (σ' := List.replicate k none ++ caps cs σ) ?_ fun j v e => ?_).pins_of fun p hp => absurd hp (by simp)
      · rw [eσ, List.length_append, List.length_append, List.length_replicate, tl]
      · by_cases z : j < k
        · rw [List.getElem?_append_left (by simpa using z), List.getElem?_replicate, if_pos z] at e
          cases e
        · rw [List.getElem?_append_right (by rw [List.length_replicate]; lia), List.length_replicate] at e
          rw [eσ, List.getElem?_append_right (by lia), tl]
          exact e
    -- the walked records stand since s5
    have later : ∀ {pl : List (Addr × Obj)} {σ' : St} {H' : Hp} {s' : Shared}, Inv (cxC X scope N sD H2 (D :: fp)) (pl ++ pinsAt fp s5.heap) σ' H' s' → tn (i + 1) s'.heap ∧ ∀ b ∈ fp, H' b = none := fun {pl σ' H' s'} J =>
      ⟨T.keep _ _ _ st5 fun b hb o e => (J.pin (b, o) (List.mem_append_right _ (List.mem_append_right _ (mem_pinsAt hb e)))).1, fun b hb => by
        obtain ⟨o, e, _⟩ := T.obj _ _ st5 b hb
        exact (J.pin (b, o) (List.mem_append_right _ (List.mem_append_right _ (mem_pinsAt hb e)))).2.1⟩
    cases b with
    | false =>
      have q7' : Nx acc H7 := by simpa using q7
      obtain ⟨m', hm, w7⟩ := hNx _ _ q7'
      rw [if_neg Bool.false_ne_true]
      have p7 := I7.pin (D, { cls := .type "list", data := .seq its.toArray nn }) (List.mem_append_right _ (List.mem_append_left _ (List.mem_singleton.mpr rfl)))
      exact ⟨m', hm, i + 1, acc, its, nn, H7, weak I7, (later I7).1, (later I7).2, p7.2.1, hl3, v3, p7.1, w7⟩
    | true =>
      rw [if_pos rfl] at q7
      rw [if_pos rfl]
      refine thn (he sD H2 (D :: fp) _ s7 σ6 H7 _ I7 q7) fun y s8 ⟨v, H8, I8, r8, q8⟩ => ?_
      obtain ⟨m', hm, w8⟩ := hNx _ _ q8
      have p8 := I8.pin (D, { cls := .type "list", data := .seq its.toArray nn }) (List.mem_append_right _ (List.mem_append_left _ (List.mem_singleton.mpr rfl)))
      have hlen := v3.length
      refine call_meets F.slot_list_append ⟨_, p8.1, rfl⟩ F.entry_list_append (F.args_list_append_2 _ _) (PySem.list_append D its.toArray nn y (by rw [List.size_toArray]; lia)) ⟨p8.1, ?_⟩
      have q := PySem.IsL.update p8.1 (·.push y)
      have eq : its.toArray.push y = (its ++ [y]).toArray := by simp
      dsimp only at q
      rw [eq] at q
      have I8' : Inv (cxC X scope N sD H2 (D :: fp)) ([] ++ pinsAt fp s5.heap) σ6 H8 s8 := I8.pins_of fun p hp => I8.pin p (List.mem_append_right _ (List.mem_append_right _ hp))
      have I9 := I8'.turned (t' := s8.toks) (it := D) (h' := s8.heap.update D (Obj.mapSeq (·.push y))) (fun b o hb e => (Heap.get?_update_other s8.heap (Obj.mapSeq (·.push y)) (Ne.symm hb)).trans e) p8.2.1 (neC D (.head _)) (.inl (.head _)) (cells D (.head _))
        (fun p hp z => nfp (by
          have := (of_pinsAt (fp := fp) (h := s5.heap) (p := p) (by simpa [cxC] using hp)).1
          rw [z] at this
          exact this))
      refine ⟨m', hm, i + 1, acc ++ [v], its ++ [y], _, H8, weak I9, (later I9).1, (later I9).2, p8.2.1, ?_, v3.append (.cons r8 .nil), q, w8⟩
      rw [List.length_append, List.length_singleton]
      lia
theorem comp_block {pins : List (Addr × Obj)} {σ : St} {H2 : Hp} {s2 : Shared} {it : Addr} {fp : List Addr} {tn : Nat → Heap → Prop} {J : It} {RR : Value → Addr → Result → Shared → Prop} {E : Value → Shared → Prop} (hc : X.calm = true) (S : CScope X scope N k cs)
    (hg : ∀ s H ex, PG (cxC X scope N s H ex) tg g) (ht : ∀ s H ex, PTs (cxC X scope N s H ex) ifs tc) (he : ∀ s H ex, PE (cxC X scope N s H ex) elt te)
    (I2 : Inv X pins σ H2 s2) (T : Turn X.prog X.w X.K tg J fp it tn) (st : tn 0 s2.heap) (f2 : ∀ b ∈ fp, FpOk X pins H2 b) (hb : tBlock k cs g tc te J σ H2 fin)
    (hRR : ∀ (D C : Addr) (H' : Hp) (acc : List V) (s4 : Shared), fin acc H' → H' D = none → Inv X pins σ (upd H' D (.lst acc)) s4 → (∃ m, s4.heap.Ns C m) → FpOk X pins (upd H' D (.lst acc)) C → RR (.ref D) C (.ok .next) s4) :
    wpAny (model X.prog X.w) X.A (newList []) (fun acc s₃ => wpAny (model X.prog X.w) X.A (newFunctionEnv scope X.env.globals (clOf X.env scope.names) [] X.env.qual none .none (some X.env)) (fun cenv s₄ =>
      codeAny (model X.prog X.w) X.A (.compStart (.ListComp elt [⟨tg, iter, ifs, 0⟩] scope pos) 0 (.ref it) acc { cenv with scope := relabel scope X.env }) (RR acc cenv.locals) s₄) E s₃) E s2 := by
  refine wpAny_newObj_type (wpAny_newFunctionEnv S.cell (by intro y hy; simp at hy) (fun h₁ hns₁ hsb₁ => ?_) S.kind)
  dsimp only at hns₁ hsb₁ ⊢
  have keepD : ∀ b o, s2.heap.get? b = some o → (s2.heap.push { cls := .type "list", dict := none, data := .seq ([] : List Value).toArray }).get? b = some o := fun b o e => Heap.get?_push_of_some _ e
  have ID : Inv X pins σ H2 { s2 with heap := s2.heap.push { cls := .type "list", dict := none, data := .seq ([] : List Value).toArray } } := I2.kept (t' := s2.toks) keepD
  have hD : (s2.heap.push { cls := .type "list", dict := none, data := .seq ([] : List Value).toArray }).get? s2.heap.objs.size = some { cls := .type "list", data := .seq ([] : List Value).toArray } := Heap.get?_push_size _ rfl
  have nfp : s2.heap.objs.size ∉ fp := fun z => by
    obtain ⟨o, e, _⟩ := T.obj _ _ st _ z
    exact absurd (Heap.lt_size e) (Nat.lt_irrefl _)
  have stD : tn 0 (s2.heap.push { cls := .type "list", dict := none, data := .seq ([] : List Value).toArray }) := T.keep _ _ _ st fun b _ o e => keepD b o e
  have hk : ∀ b o, (s2.heap.push { cls := .type "list", dict := none, data := .seq ([] : List Value).toArray }).get? b = some o → h₁.get? b = some o := fun b o e => hsb₁.extBut b o (Nat.ne_of_lt (Heap.lt_size e)) (Heap.get?_push_of_some _ e)
  have loop : ∀ s₃ : Shared, s₃ = { s2 with heap := h₁, toks := s2.toks + ([] : List (Str × Value)).length } →
      codeAny (model X.prog X.w) X.A (.compLoop (.ListComp elt [⟨tg, iter, ifs, 0⟩] scope pos) 0 (.ref it) (.ref s2.heap.objs.size) (compEnvC scope (clOf X.env scope.names) (s2.heap.push { cls := .type "list", dict := none, data := .seq ([] : List Value).toArray }).objs.size X.env))
        (RR (.ref s2.heap.objs.size) (s2.heap.push { cls := .type "list", dict := none, data := .seq ([] : List Value).toArray }).objs.size) s₃ := by
    rintro s₃ rfl
    exact comp_loop (sD := { s2 with heap := s2.heap.push { cls := .type "list", dict := none, data := .seq ([] : List Value).toArray } }) hc S hg ht he ID hD I2.sz (I2.fpOk (Nat.le_refl _) I2.fresh) nfp T stD f2 hb rfl I2.bare hk ⟨_, hns₁⟩ fun H' acc s4 => hRR _ _ H' acc s4
  exact codeAny_compStart_list (loop _ rfl) (T.self _ 0 _ _ _ (T.keep _ _ _ stD fun b _ o e => hk b o e) (loop _ rfl))
theorem pe_comp (hc : X.calm = true) (S : CScope X scope N k cs) (hi : PI X tg iter wi) (hg : ∀ s H ex, PG (cxC X scope N s H ex) tg g) (ht : ∀ s H ex, PTs (cxC X scope N s H ex) ifs tc) (he : ∀ s H ex, PE (cxC X scope N s H ex) elt te)
    (hs : ∀ x, foldedSetIterable iter X.env x = pure x := by intro _; rfl) : PE X (.ListComp elt [⟨tg, iter, ifs, 0⟩] scope pos) (tComp k cs wi g tc te) := by
  intro pins s σ H Q I h
  rw [eval_ListComp]
  refine wpAny_comprehension_free (use := none) rfl hs (closure_of fun y hy hf => I.ok.has _ (S.free y hy hf)) S.kind S.names (thn (hi pins s σ H _ I h) fun v s1 h1 => thn h1 fun itv s2 h2 => ?_)
  obtain ⟨it, fp, tn, J, H2, rfl, I2, T, st2, f2, hb⟩ := h2
  refine comp_block (RR := fun acc C => compPost (model X.prog X.w) X.A X.xe none (EP X pins σ Q) acc C) hc S hg ht he I2 T st2 f2 hb fun D C H' acc s4 qf nD J4 hn fC => ?_
  obtain ⟨m, hm⟩ := hn
  refine ⟨m, hm, fun h' sb => ⟨.ref D, upd H' D (.lst acc), ?_, rfl, qf D nD⟩⟩
  exact J4.turned (t' := s4.toks) (it := C) (fun b o hb e => (sb.2 b hb).trans e) fC.1 fC.2.1 fC.2.2.2.1 fC.2.2.2.2.1 fC.2.2.2.2.2
def tSetComp (i k : Nat) (cs : List Nat) (wi : TI) (g : TG) (tc : TT) (te : TE) : TS := fun D σ H => wi σ H fun J H1 => tBlock k cs g tc te J σ H1 fun acc H2 => ∀ p, H2 p = none → D.nx (σ.set i (some (.ref p))) (upd H2 p (.lst acc))
theorem ps_setComp {i : Nat} {y : Str} {py spos : Pos} (hc : X.calm = true) (hN : X.N.Nodup) (hi' : X.N[i]? = some y) (hy : X.env.scope.names.lookup y = some .local) (S : CScope X scope N k cs) (hi : PI X tg iter wi)
    (hg : ∀ s H ex, PG (cxC X scope N s H ex) tg g) (ht : ∀ s H ex, PTs (cxC X scope N s H ex) ifs tc) (he : ∀ s H ex, PE (cxC X scope N s H ex) elt te)
    (hsw : swapsWith (.ListComp elt [⟨tg, iter, ifs, 0⟩] scope pos) (some (.Name y py)) spos.line X.env = pure true := by rfl) (hs : ∀ x, foldedSetIterable iter X.env x = pure x := by intro _; rfl) :
    PS X (.Assign [.Name y py] (.ListComp elt [⟨tg, iter, ifs, 0⟩] scope pos) spos) (tSetComp i k cs wi g tc te) := by
  intro pins s σ H D I h
  rw [exec_Assign_Name_used _ _ _ _ hsw]
  refine wpAny_bind (wpAny_standAt (wpAny_bind ?_))
  show wpAny _ X.A (do let _ ← comprehension (.ListComp elt [⟨tg, iter, ifs, 0⟩] scope pos) scope X.env _ (newList []) false (eval iter X.env) (some (assign (.Name y py) X.env))) _ _ s
  refine wpAny_bind (wpAny_mono (wpAny_comprehension_free (use := some (assign (.Name y py) X.env)) (Q := fun _ s' => SP X pins D .next s') rfl hs (closure_of fun y hy hf => I.ok.has _ (S.free y hy hf)) S.kind S.names
    (thn (hi pins s σ H _ I h) fun v s1 h1 => thn h1 fun itv s2 h2 => ?_)) (fun _ s' hq => wpAny_pure (wpAny_pure hq)) fun _ _ e => e)
  obtain ⟨it, fp, tn, J, H2, rfl, I2, T, st2, f2, hb⟩ := h2
  refine comp_block (RR := fun acc C => compPost (model X.prog X.w) X.A X.xe (some (assign (.Name y py) X.env)) (fun _ s' => SP X pins D .next s') acc C) hc S hg ht he I2 T st2 f2 hb fun L C H' acc s4 qf nD J4 hn fC => ?_
  obtain ⟨m, hm⟩ := hn
  show wpAny _ X.A (assign (.Name y py) X.env (.ref L)) _ _ _
  refine wpAny_assign_Name (store_ok2 J4 hN hi' (.inl hy) (v := .ref L) rfl (fun s5 J5 hsb => ?_) (.inr hy))
  obtain ⟨a, sb, ha⟩ := hsb
  have nCa : C ≠ a := by
    rcases ha with z | z
    · rw [z]; exact fC.2.1
    · exact fun q => fC.2.2.2.2.1 y a z q.symm
  refine ⟨m, hm.sameBut sb nCa, fun h' sb' => ⟨σ.set i (some (.ref L)), upd H' L (.lst acc), ?_, qf L nD⟩⟩
  exact J5.turned (t' := s5.toks) (it := C) (fun b o hb e => (sb'.2 b hb).trans e) fC.1 fC.2.1 fC.2.2.2.1 fC.2.2.2.2.1 fC.2.2.2.2.2
end

section
variable {K : PySem.W.Frag} {k : Nat} {cs : List Nat} {g : TG} {tc : TT} {te : TE} {σ : St} {H : Hp} {fin : List V → Hp → Prop}
abbrev Bt (k : Nat) (cs : List Nat) (g : TG) (tc : TT) (te : TE) (σ : St) (x : V) (acc : List V) (H : Hp) (Nx : List V → Hp → Prop) : Prop :=
  g x (List.replicate k none ++ caps cs σ) H fun σ2 H2 => (∃ ts : St, ts.length = k ∧ σ2 = ts ++ caps cs σ) ∧ acc.length < sizeLine ∧ tc σ2 H2 fun b H3 => if b = true then te σ2 H3 fun v H4 => Nx (acc ++ [v]) H4 else Nx acc H3
theorem blk_list {a : Addr} {xs : List V} (Pv : Nat → List V → Hp → Prop) (h0 : Pv 0 [] H) (hl : ∀ i acc H, i ≤ xs.length → Pv i acc H → SqL K H a xs)
    (hs : ∀ i x acc H, xs[i]? = some x → Pv i acc H → Bt k cs g tc te σ x acc H (Pv (i + 1))) (hd : ∀ acc H, Pv xs.length acc H → fin acc H) : tBlock k cs g tc te (Itl K a) σ H fin := by
  refine ⟨fun i m acc H => m = xs.length - i ∧ i ≤ xs.length ∧ Pv i acc H, ⟨xs.length, by simp, Nat.zero_le _, h0⟩, ?_⟩
  rintro i m acc H ⟨rfl, hi, p⟩
  have q := hl i acc H hi p
  by_cases hlt : i < xs.length
  · refine .inr ⟨⟨xs, xs[i], q, by simp [hlt]⟩, Pv (i + 1), fun acc' H' p' => ⟨xs.length - (i + 1), by lia, rfl, hlt, p'⟩, fun x H' y => ?_⟩
    obtain ⟨e, y⟩ := y
    subst e
    exact hs i x acc _ (y xs q) p
  · have e : i = xs.length := by lia
    subst e
    exact .inl ⟨⟨xs, q, Nat.le_refl _⟩, hd acc H p⟩
theorem blk_tup {a : Addr} {xs : List V} (Pv : Nat → List V → Hp → Prop) (h0 : Pv 0 [] H) (hl : ∀ i acc H, i ≤ xs.length → Pv i acc H → SqT K H a xs)
    (hs : ∀ i x acc H, xs[i]? = some x → Pv i acc H → Bt k cs g tc te σ x acc H (Pv (i + 1))) (hd : ∀ acc H, Pv xs.length acc H → fin acc H) : tBlock k cs g tc te (Itt K a) σ H fin := by
  refine ⟨fun i m acc H => m = xs.length - i ∧ i ≤ xs.length ∧ Pv i acc H, ⟨xs.length, by simp, Nat.zero_le _, h0⟩, ?_⟩
  rintro i m acc H ⟨rfl, hi, p⟩
  have q := hl i acc H hi p
  by_cases hlt : i < xs.length
  · refine .inr ⟨⟨xs, xs[i], q, by simp [hlt]⟩, Pv (i + 1), fun acc' H' p' => ⟨xs.length - (i + 1), by lia, rfl, hlt, p'⟩, fun x H' y => ?_⟩
    obtain ⟨e, y⟩ := y
    subst e
    exact hs i x acc _ (y xs q) p
  · have e : i = xs.length := by lia
    subst e
    exact .inl ⟨⟨xs, q, Nat.le_refl _⟩, hd acc H p⟩
end
end L2

namespace L2
open PySem PySem.Spec PyProof.Rows
section
variable {prog : Program} {w : World} {A : Around} {E : Value → Shared → Prop} {s : Shared}
theorem nextOf_tuple_item {I t : Addr} {k : Nat} {vs : Array Value} {v : Value} {Q : Value → Shared → Prop} (hI : s.heap.IsTupleIter I t k) (hV : s.heap.IsTuple t vs) (hv : vs[k]? = some v)
    (q : ∀ g, g.IsTupleIter I t (k + 1) → Heap.SameBut I s.heap g → Q v { s with heap := g }) : wpAny (model prog w) A (Builtin.SmallTypes.nextOf (.ref I)) Q E s := by
  obtain ⟨oI, eI, cI, dI⟩ := id hI
  obtain ⟨oV, eV, _, nV, dV⟩ := hV
  unfold Builtin.SmallTypes.nextOf
  refine wpAny_bind (wpAny_callSpecial?_slot (name := Str.ofString "__next__") hI.typeIs F.slot_tuple_iterator_next (wpAny_call_entry F.slot_tuple_iterator_next hI.typeIs F.entry_tuple_iterator_next ?_ (F.args_tuple_iterator_next_1 _)))
  show wpAny _ _ (field (.ref I) 0 >>= _) _ _ s
  refine wpAny_bind (wpAny_field eI dI (x := .ref t) rfl ?_)
  show wpAny _ _ (if (Value.ref t == Value.none) = true then _ else _) _ _ s
  rw [if_neg (fun z : (Value.ref t == Value.none) = true => Bool.false_ne_true z)]
  show wpAny _ _ (field (.ref I) 1 >>= _) _ _ s
  refine wpAny_bind (wpAny_field eI dI (x := .int k 0) rfl ?_)
  show wpAny _ _ (seqItems? (.ref t) >>= _) _ _ s
  refine wpAny_bind (wpAny_seqItems eV dV ?_)
  simp only [Int.toNat_natCast, hv]
  refine wpAny_bind (wpAny_setField eI dI (by simp) (wpAny_pure ⟨v, rfl, wpAny_pure (q _ ?_ (Heap.SameBut.update ..))⟩))
  exact ⟨_, Heap.get?_update_self _ eI (Obj.isFreed_of_fields (Obj.data_mapFields dI _)), (Obj.cls_mapFields ..).trans cI, by rw [Obj.data_mapFields dI]; simp [rawInt]⟩
theorem nextOf_tuple_end {I t : Addr} {k : Nat} {vs : Array Value} {Q : Value → Shared → Prop} (hA : A.handled = none) (hI : s.heap.IsTupleIter I t k) (hV : s.heap.IsTuple t vs) (hv : vs[k]? = none)
    (q : ∀ g e, Heap.ExtBut I s.heap g → (∃ o, g.get? e = some o ∧ o.cls = .type "StopIteration") → E (.ref e) { s with heap := g }) : wpAny (model prog w) A (Builtin.SmallTypes.nextOf (.ref I)) Q E s := by
  obtain ⟨oI, eI, cI, dI⟩ := id hI
  obtain ⟨oV, eV, _, nV, dV⟩ := hV
  unfold Builtin.SmallTypes.nextOf
  refine wpAny_bind (wpAny_callSpecial?_slot (name := Str.ofString "__next__") hI.typeIs F.slot_tuple_iterator_next (wpAny_call_entry F.slot_tuple_iterator_next hI.typeIs F.entry_tuple_iterator_next ?_ (F.args_tuple_iterator_next_1 _)))
  show wpAny _ _ (field (.ref I) 0 >>= _) _ _ s
  refine wpAny_bind (wpAny_field eI dI (x := .ref t) rfl ?_)
  show wpAny _ _ (if (Value.ref t == Value.none) = true then _ else _) _ _ s
  rw [if_neg (fun z : (Value.ref t == Value.none) = true => Bool.false_ne_true z)]
  show wpAny _ _ (field (.ref I) 1 >>= _) _ _ s
  refine wpAny_bind (wpAny_field eI dI (x := .int k 0) rfl ?_)
  show wpAny _ _ (seqItems? (.ref t) >>= _) _ _ s
  refine wpAny_bind (wpAny_seqItems eV dV ?_)
  simp only [Int.toNat_natCast, hv]
  refine wpAny_bind (wpAny_rule (wpAny_bind (wpAny_setField eI dI (by simp) ?_)))
  show wpAny _ _ (newExc (.type "StopIteration") [] >>= _) _ _ _
  refine wpAny_bind ?_
  simp only [newExc, newTuple]
  refine wpAny_bind (wpAny_newObj_type ?_ (by size_fits))
  refine wpAny_bind (m := firstArgMember _ _) (wpAny_of_eq (a := Value.none) (by first | rfl | (simp only [firstArgMember]; rfl)) (wpAny_newObj_type ?_ (by size_fits)))
  simp only [raiseNew]
  refine wpAny_bind (wpAny_handled ?_)
  first | rw [show A.in1.handled = none from hA] | rw [hA]
  refine wpAny_bind (wpAny_pure (wpAny_throw (q _ _ (((Heap.SameBut.update ..).extBut.push _).push _) ⟨_, Heap.get?_push_size _ rfl, rfl⟩)))
def SeqIt : Bool → Heap → Addr → Addr → Nat → Prop
  | true, h, I, l, k => h.IsTupleIter I l k
  | false, h, I, l, k => h.IsListIter I l k
def SeqOb : Bool → Heap → Addr → Array Value → Prop
  | true, h, l, vs => h.IsTuple l vs
  | false, h, l, vs => h.IsList l vs
def SqX (K : PySem.W.Frag) : Bool → Hp → Addr → List V → Prop
  | true, H, a, xs => SqT K H a xs
  | false, H, a, xs => SqL K H a xs
theorem SeqIt.move {b : Bool} {h g : Heap} {I l : Addr} {k : Nat} (x : SeqIt b h I l k) (e : ∀ o, h.get? I = some o → g.get? I = some o) : SeqIt b g I l k := by
  cases b with
  | true => obtain ⟨o, ho, r⟩ := x; exact ⟨o, e _ ho, r⟩
  | false => obtain ⟨o, ho, r⟩ := x; exact ⟨o, e _ ho, r⟩
theorem SeqIt.there {b : Bool} {h : Heap} {I l : Addr} {k : Nat} (x : SeqIt b h I l k) : ∃ o, h.get? I = some o ∧ ∀ v, o.data ≠ .cell v := by
  cases b with
  | true => obtain ⟨o, ho, _, d⟩ := x; exact ⟨o, ho, fun v z => by rw [d] at z; cases z⟩
  | false => obtain ⟨o, ho, _, d⟩ := x; exact ⟨o, ho, fun v z => by rw [d] at z; cases z⟩
theorem SeqOb.move {b : Bool} {h g : Heap} {l : Addr} {vs : Array Value} (x : SeqOb b h l vs) (e : ∀ o, h.get? l = some o → g.get? l = some o) : SeqOb b g l vs := by
  cases b with
  | true => obtain ⟨o, ho, r⟩ := x; exact ⟨o, e _ ho, r⟩
  | false => obtain ⟨o, ho, r⟩ := x; exact ⟨o, e _ ho, r⟩
theorem nextOf_seq_item {b : Bool} {I l : Addr} {k : Nat} {vs : Array Value} {v : Value} {Q : Value → Shared → Prop} (hI : SeqIt b s.heap I l k) (hV : SeqOb b s.heap l vs) (hv : vs[k]? = some v)
    (q : ∀ g, SeqIt b g I l (k + 1) → Heap.SameBut I s.heap g → Q v { s with heap := g }) : wpAny (model prog w) A (Builtin.SmallTypes.nextOf (.ref I)) Q E s := by
  cases b with
  | true => exact nextOf_tuple_item hI hV hv q
  | false => exact wpAny_nextOf_list_item hI hV hv q
theorem nextOf_seq_end {b : Bool} {I l : Addr} {k : Nat} {vs : Array Value} {Q : Value → Shared → Prop} (hA : A.handled = none) (hI : SeqIt b s.heap I l k) (hV : SeqOb b s.heap l vs) (hv : vs[k]? = none)
    (q : ∀ g e, Heap.ExtBut I s.heap g → (∃ o, g.get? e = some o ∧ o.cls = .type "StopIteration") → E (.ref e) { s with heap := g }) : wpAny (model prog w) A (Builtin.SmallTypes.nextOf (.ref I)) Q E s := by
  cases b with
  | true => exact nextOf_tuple_end hA hI hV hv q
  | false => exact wpAny_nextOf_list_end hA hI hV hv q
theorem pyIter_seq {b : Bool} {l : Addr} {vs : Array Value} {Q : Value → Shared → Prop} (hV : SeqOb b s.heap l vs)
    (q : ∀ g, SeqIt b g s.heap.objs.size l 0 → g.objs.size = s.heap.objs.size + 1 → (∀ c o, s.heap.get? c = some o → g.get? c = some o) → Q (.ref s.heap.objs.size) { s with heap := g }) : wpAny (model prog w) A (pyIter (.ref l)) Q E s := by
  cases b with
  | true => exact wpAny_pyIter_tuple hV (q _ ⟨_, Heap.get?_push_size _ rfl, rfl, rfl⟩ (Heap.size_push ..) fun c o e => Heap.get?_push_of_some _ e)
  | false => exact wpAny_pyIter_list hV (q _ ⟨_, Heap.get?_push_size _ rfl, rfl, rfl⟩ (Heap.size_push ..) fun c o e => Heap.get?_push_of_some _ e)

structure Apart (z U O i j l m : Addr) : Prop where
  nd : [z, U, O, i, j].Nodup
  l : l ∉ [z, O, i, j]
  m : m ∉ [z, O, i, j]
theorem zip_step {b c : Bool} {z U O i j l m : Addr} {k : Nat} {xs ys : Array Value} {x y p q : Value} {Q : Value → Shared → Prop} (D : Apart z U O i j l m) (hZ : IsZip s.heap z U O .none) (hU : IsPair s.heap U (.ref i) (.ref j)) (hO : IsPair s.heap O p q)
    (hi : SeqIt b s.heap i l k) (hj : SeqIt c s.heap j m k) (hl : SeqOb b s.heap l xs) (hm : SeqOb c s.heap m ys) (hx : xs[k]? = some x) (hy : ys[k]? = some y)
    (fin : ∀ g, IsZip g z U O (rawInt s.heap.objs.size) → IsPair g O x y → SeqIt b g i l (k + 1) → SeqIt c g j m (k + 1) → IsPair g s.heap.objs.size x y → g.objs.size = s.heap.objs.size + 1 →
      (∀ a o, a ∉ [z, O, i, j] → s.heap.get? a = some o → g.get? a = some o) → Q (.ref s.heap.objs.size) { s with heap := g }) :
    wpAny (model prog w) A (Builtin.«zip.__next__» ⟨[.ref z], []⟩) (fun r s' => ∃ v, r = .done (.ret v) ∧ Q v s') E s := by
  obtain ⟨nd, nl, nm⟩ := D
  simp only [List.nodup_cons, List.mem_cons, List.not_mem_nil, or_false, not_or, List.nodup_nil, and_true, not_false_eq_true] at nd nl nm
  obtain ⟨⟨zU, zO, zi, zj⟩, ⟨UO, Ui, Uj⟩, ⟨Oi, Oj⟩, ij⟩ := nd
  obtain ⟨lz, lO, li, lj⟩ := nl
  obtain ⟨mz, mO, mi, mj⟩ := nm
  show wpAny _ _ (field (.ref z) 2 >>= _) _ _ _
  refine wpAny_bind (wpAny_field hZ rfl (x := .bool false) rfl ?_)
  show wpAny _ _ (field (.ref z) 3 >>= _) _ _ _
  refine wpAny_bind (wpAny_field hZ rfl (x := .ref U) rfl (wpAny_bind (wpAny_seqItems hU rfl ?_)))
  show wpAny _ _ (Builtin.SmallTypes.ownedTupleIsFree (.ref z) >>= _) _ _ _
  refine wpAny_bind ?_
  unfold Builtin.SmallTypes.ownedTupleIsFree
  refine wpAny_bind (wpAny_field hZ rfl (x := .none) rfl (wpAny_pure ?_))
  simp only [if_true]
  refine wpAny_bind (wpAny_rule (wpAny_bind (wpAny_field hZ rfl (x := .ref O) rfl (wpAny_bind (wpAny_setField_rec hZ (by simp) fun h1 hZ1 s1 => ?_)))))
  replace hZ1 : IsZip h1 z U O .ellipsis := hZ1
  refine wpAny_bind ?_
  simp only [List.zipIdx_cons, List.zipIdx_nil, List.forIn_cons, List.forIn_nil]
  refine wpAny_bind (wpAny_bind (wpAny_onRaise ?_))
  show wpAny _ _ (Builtin.SmallTypes.nextOf (.ref i) >>= _) _ _ _
  refine wpAny_bind (nextOf_seq_item (hi.move fun o e => s1.extBut _ _ (Ne.symm zi) e) (hl.move fun o e => s1.extBut _ _ lz e) hx fun h2 hi2 s2 => wpAny_pure ?_)
  have hO2 : IsPair h2 O p q := s2.extBut _ _ Oi (s1.extBut _ _ (Ne.symm zO) hO)
  refine wpAny_bind (wpAny_seqItems hO2 rfl (wpAny_bind (wpAny_updateSeq_pair hO2 fun h3 hO3 s3 => ?_)))
  replace hO3 : IsPair h3 O x q := hO3
  refine wpAny_bind (wpAny_letGo (wpAny_pure (wpAny_bind (wpAny_bind (wpAny_onRaise ?_)))))
  show wpAny _ _ (Builtin.SmallTypes.nextOf (.ref j) >>= _) _ _ _
  refine wpAny_bind (nextOf_seq_item (hj.move fun o e => s3.extBut _ _ (Ne.symm Oj) (s2.extBut _ _ (Ne.symm ij) (s1.extBut _ _ (Ne.symm zj) e))) (hm.move fun o e => s3.extBut _ _ mO (s2.extBut _ _ mi (s1.extBut _ _ mz e))) hy fun h4 hj4 s4 => wpAny_pure ?_)
  have hO4 : IsPair h4 O x q := s4.extBut _ _ Oj hO3
  refine wpAny_bind (wpAny_seqItems hO4 rfl (wpAny_bind (wpAny_updateSeq_pair hO4 fun h5 hO5 s5 => ?_)))
  replace hO5 : IsPair h5 O x y := hO5
  refine wpAny_bind (wpAny_letGo (wpAny_pure (wpAny_pure (wpAny_bind (wpAny_seqItems hO5 rfl (wpAny_bind (wpAny_newTuple ?_)))))))
  have sz : h5.objs.size = s.heap.objs.size := by rw [s5.1, s4.1, s3.1, s2.1, s1.1]
  have hZ5 : IsZip h5 z U O .ellipsis := s5.extBut _ _ zO (s4.extBut _ _ zj (s3.extBut _ _ zO (s2.extBut _ _ zi hZ1)))
  have kp : ∀ a o, a ∉ [z, O, i, j] → s.heap.get? a = some o → h5.get? a = some o := fun a o ha e => by
    simp only [List.mem_cons, List.not_mem_nil, or_false, not_or] at ha
    exact s5.extBut _ _ ha.2.1 (s4.extBut _ _ ha.2.2.2 (s3.extBut _ _ ha.2.1 (s2.extBut _ _ ha.2.2.1 (s1.extBut _ _ ha.1 e))))
  have hi5 : SeqIt b h5 i l (k + 1) := hi2.move fun o e => s5.extBut _ _ (Ne.symm Oi) (s4.extBut _ _ ij (s3.extBut _ _ (Ne.symm Oi) e))
  have hj5 : SeqIt c h5 j m (k + 1) := hj4.move fun o e => s5.extBut _ _ (Ne.symm Oj) e
  have zlt : z < h5.objs.size := Heap.lt_size hZ5
  show wpAny _ _ (Builtin.SmallTypes.ownedTupleHandOut (.ref z) (.ref h5.objs.size) >>= _) _ _ _
  refine wpAny_bind ?_
  unfold Builtin.SmallTypes.ownedTupleHandOut
  have hZ6 : IsZip (h5.push { cls := .type "tuple", data := .seq #[x, y] }) z U O .ellipsis := Heap.get?_push_of_some _ hZ5
  refine wpAny_bind (wpAny_setField_rec hZ6 (by simp) fun h7 hZ7 s7 => ?_)
  replace hZ7 : IsZip h7 z U O (rawInt h5.objs.size) := hZ7
  refine wpAny_setField_rec hZ7 (by simp) fun h8 hZ8 s8 => ?_
  replace hZ8 : IsZip h8 z U O (rawInt h5.objs.size) := hZ8
  have up : ∀ a o, a ≠ z → h5.get? a = some o → h8.get? a = some o := fun a o na e => s8.extBut _ _ na (s7.extBut _ _ na (Heap.get?_push_of_some _ e))
  have hT : IsPair h8 h5.objs.size x y := s8.extBut _ _ (Nat.ne_of_gt zlt) (s7.extBut _ _ (Nat.ne_of_gt zlt) (Heap.get?_push_size _ rfl))
  have sz8 : h8.objs.size = h5.objs.size + 1 := by rw [s8.1, s7.1, Heap.size_push]
  rw [sz] at hZ8 hT sz8
  refine wpAny_pure ⟨_, rfl, ?_⟩
  show Q (.ref h5.objs.size) _
  rw [sz]
  refine fin h8 hZ8 (up _ _ (Ne.symm zO) hO5) (hi5.move fun o e => up _ o (Ne.symm zi) e) (hj5.move fun o e => up _ o (Ne.symm zj) e) hT sz8 fun a o ha e => up a o ?_ (kp a o ha e)
  simp only [List.mem_cons, List.not_mem_nil, or_false, not_or] at ha
  exact ha.1
theorem zip_stop {b c : Bool} {z U O i j l m : Addr} {k : Nat} {xs ys : Array Value} {p q : Value} {Q : Fin → Shared → Prop} (hA : A.handled = none) (D : Apart z U O i j l m) (hZ : IsZip s.heap z U O .none) (hU : IsPair s.heap U (.ref i) (.ref j)) (hO : IsPair s.heap O p q)
    (hi : SeqIt b s.heap i l k) (hj : SeqIt c s.heap j m k) (hl : SeqOb b s.heap l xs) (hm : SeqOb c s.heap m ys) (hend : xs[k]? = none ∨ ys[k]? = none)
    (fin : ∀ g e, (∀ a o, a ∉ [z, O, i, j] → s.heap.get? a = some o → g.get? a = some o) → (∃ o, g.get? e = some o ∧ o.cls = .type "StopIteration") → E (.ref e) { s with heap := g }) :
    wpAny (model prog w) A (Builtin.«zip.__next__» ⟨[.ref z], []⟩) Q E s := by
  obtain ⟨nd, nl, nm⟩ := D
  simp only [List.nodup_cons, List.mem_cons, List.not_mem_nil, or_false, not_or, List.nodup_nil, and_true, not_false_eq_true] at nd nl nm
  obtain ⟨⟨zU, zO, zi, zj⟩, ⟨UO, Ui, Uj⟩, ⟨Oi, Oj⟩, ij⟩ := nd
  obtain ⟨lz, lO, li, lj⟩ := nl
  obtain ⟨mz, mO, mi, mj⟩ := nm
  show wpAny _ _ (field (.ref z) 2 >>= _) _ _ _
  refine wpAny_bind (wpAny_field hZ rfl (x := .bool false) rfl ?_)
  show wpAny _ _ (field (.ref z) 3 >>= _) _ _ _
  refine wpAny_bind (wpAny_field hZ rfl (x := .ref U) rfl (wpAny_bind (wpAny_seqItems hU rfl ?_)))
  show wpAny _ _ (Builtin.SmallTypes.ownedTupleIsFree (.ref z) >>= _) _ _ _
  refine wpAny_bind ?_
  unfold Builtin.SmallTypes.ownedTupleIsFree
  refine wpAny_bind (wpAny_field hZ rfl (x := .none) rfl (wpAny_pure ?_))
  simp only [if_true]
  refine wpAny_bind (wpAny_rule (wpAny_bind (wpAny_field hZ rfl (x := .ref O) rfl (wpAny_bind (wpAny_setField_rec hZ (by simp) fun h1 hZ1 s1 => ?_)))))
  replace hZ1 : IsZip h1 z U O .ellipsis := hZ1
  refine wpAny_bind ?_
  simp only [List.zipIdx_cons, List.zipIdx_nil, List.forIn_cons, List.forIn_nil]
  refine wpAny_bind (wpAny_bind (wpAny_onRaise ?_))
  show wpAny _ _ (Builtin.SmallTypes.nextOf (.ref i) >>= _) _ _ _
  have out : ∀ {a : Addr}, a ∉ [z, O, i, j] → a ≠ z ∧ a ≠ O ∧ a ≠ i ∧ a ≠ j := fun ha => by simpa only [List.mem_cons, List.not_mem_nil, or_false, not_or] using ha
  cases hx : xs[k]? with
  | none =>
    refine wpAny_bind (nextOf_seq_end hA (hi.move fun o e => s1.extBut _ _ (Ne.symm zi) e) (hl.move fun o e => s1.extBut _ _ lz e) hx fun h2 e s2 he => ?_)
    obtain ⟨oe, hoe, hce⟩ := he
    have hZ2 : IsZip h2 z U O .ellipsis := s2 _ _ zi hZ1
    have ez : e ≠ z := fun t => by subst t; rw [hZ2] at hoe; cases hoe; simp at hce
    exact wpAny_setField_rec hZ2 (by simp) fun h3 _ s3 => fin h3 e (fun a o ha t => s3.extBut _ _ (out ha).1 (s2 _ _ (out ha).2.2.1 (s1.extBut _ _ (out ha).1 t))) ⟨oe, s3.extBut _ _ ez hoe, hce⟩
  | some x =>
    have hy : ys[k]? = none := by
      rcases hend with t | t
      · rw [hx] at t; cases t
      · exact t
    refine wpAny_bind (nextOf_seq_item (hi.move fun o e => s1.extBut _ _ (Ne.symm zi) e) (hl.move fun o e => s1.extBut _ _ lz e) hx fun h2 hi2 s2 => wpAny_pure ?_)
    have hO2 : IsPair h2 O p q := s2.extBut _ _ Oi (s1.extBut _ _ (Ne.symm zO) hO)
    refine wpAny_bind (wpAny_seqItems hO2 rfl (wpAny_bind (wpAny_updateSeq_pair hO2 fun h3 hO3 s3 => ?_)))
    refine wpAny_bind (wpAny_letGo (wpAny_pure (wpAny_bind (wpAny_bind (wpAny_onRaise ?_)))))
    show wpAny _ _ (Builtin.SmallTypes.nextOf (.ref j) >>= _) _ _ _
    refine wpAny_bind (nextOf_seq_end hA (hj.move fun o e => s3.extBut _ _ (Ne.symm Oj) (s2.extBut _ _ (Ne.symm ij) (s1.extBut _ _ (Ne.symm zj) e))) (hm.move fun o e => s3.extBut _ _ mO (s2.extBut _ _ mi (s1.extBut _ _ mz e))) hy fun h4 e s4 he => ?_)
    obtain ⟨oe, hoe, hce⟩ := he
    have hZ4 : IsZip h4 z U O .ellipsis := s4 _ _ zj (s3.extBut _ _ zO (s2.extBut _ _ zi hZ1))
    have ez : e ≠ z := fun t => by subst t; rw [hZ4] at hoe; cases hoe; simp at hce
    exact wpAny_setField_rec hZ4 (by simp) fun h5 _ s5 => fin h5 e (fun a o ha t => s5.extBut _ _ (out ha).1 (s4 _ _ (out ha).2.2.2 (s3.extBut _ _ (out ha).2.1 (s2.extBut _ _ (out ha).2.2.1 (s1.extBut _ _ (out ha).1 t))))) ⟨oe, s5.extBut _ _ ez hoe, hce⟩
theorem zip_laid (g2 : Heap) (n : Nat) (e2 : g2.objs.size = n + 2) (i j : Value) : ∃ g5, g5 = ((g2.push { cls := .type "tuple", data := .seq #[i, j] }).push { cls := .type "tuple", data := .seq #[.none, .none] }).push
      { cls := .type "zip", data := .fields #[.none, .bool false, .bool false, .ref g2.objs.size, .ref (g2.push { cls := .type "tuple", data := .seq #[i, j] }).objs.size] } ∧
    IsZip g5 (n + 4) (n + 2) (n + 3) .none ∧ IsPair g5 (n + 2) i j ∧ IsPair g5 (n + 3) .none .none ∧ (∀ a o, g2.get? a = some o → g5.get? a = some o) ∧
    ((g2.push { cls := .type "tuple", data := .seq #[i, j] }).push { cls := .type "tuple", data := .seq #[.none, .none] }).objs.size = n + 4 := by
  have e3 : (g2.push { cls := .type "tuple", data := .seq #[i, j] }).objs.size = n + 3 := by rw [Heap.size_push, e2]
  have e4 : ((g2.push { cls := .type "tuple", data := .seq #[i, j] }).push { cls := .type "tuple", data := .seq #[.none, .none] }).objs.size = n + 4 := by rw [Heap.size_push, e3]
  refine ⟨_, rfl, ?_, ?_, ?_, fun a o e => Heap.get?_push_of_some _ (Heap.get?_push_of_some _ (Heap.get?_push_of_some _ e)), e4⟩
  · have q := Heap.get?_push_size ((g2.push { cls := .type "tuple", data := .seq #[i, j] }).push { cls := .type "tuple", data := .seq #[.none, .none] }) (o := { cls := .type "zip", data := .fields #[.none, .bool false, .bool false, .ref g2.objs.size, .ref (g2.push { cls := .type "tuple", data := .seq #[i, j] }).objs.size] }) rfl
    rw [e4] at q
    show _ = some _
    rw [q, e2, e3]
  · have q := Heap.get?_push_of_some { cls := .type "zip", data := .fields #[.none, .bool false, .bool false, .ref g2.objs.size, .ref (g2.push { cls := .type "tuple", data := .seq #[i, j] }).objs.size] } (Heap.get?_push_of_some { cls := .type "tuple", data := .seq #[.none, .none] } (Heap.get?_push_size g2 (o := { cls := .type "tuple", data := .seq #[i, j] }) rfl))
    rw [← e2]
    exact q
  · have q := Heap.get?_push_of_some { cls := .type "zip", data := .fields #[.none, .bool false, .bool false, .ref g2.objs.size, .ref (g2.push { cls := .type "tuple", data := .seq #[i, j] }).objs.size] } (Heap.get?_push_size (g2.push { cls := .type "tuple", data := .seq #[i, j] }) (o := { cls := .type "tuple", data := .seq #[.none, .none] }) rfl)
    rw [← e3]
    exact q
theorem meets_zip {b c : Bool} (l m : Addr) (xs ys : Array Value) : Meets (Builtin.«zip.__new__» ⟨[.type "zip", .ref l, .ref m], []⟩) (fun _ R s => SeqOb b s.heap l xs ∧ SeqOb c s.heap m ys ∧
      ∀ g, IsZip g (s.heap.objs.size + 4) (s.heap.objs.size + 2) (s.heap.objs.size + 3) .none → IsPair g (s.heap.objs.size + 2) (.ref s.heap.objs.size) (.ref (s.heap.objs.size + 1)) → IsPair g (s.heap.objs.size + 3) .none .none →
        SeqIt b g s.heap.objs.size l 0 → SeqIt c g (s.heap.objs.size + 1) m 0 → (∀ a o, s.heap.get? a = some o → g.get? a = some o) → R (.ok (.ret (.ref (s.heap.objs.size + 4)))) { s with heap := g }) :=
  .of_wp fun prog w A R s h => by
    obtain ⟨hp, g, d, tk, os⟩ := s
    obtain ⟨hl, hm, h⟩ := h
    have hsub := sub_zip
    wp_walk using pyIter_seq hl
    intro g1 i1 z1 k1
    have hm1 : SeqOb c (Shared.heap ⟨g1, g, d, tk, os⟩) m ys := hm.move fun o e => k1 _ o e
    wp_walk using pyIter_seq hm1
    intro g2 i2 z2 k2
    wp_walk
    refine ⟨_, rfl, ?_⟩
    have e1 : g1.objs.size = hp.objs.size + 1 := z1
    have e2 : g2.objs.size = hp.objs.size + 2 := by rw [show g2.objs.size = g1.objs.size + 1 from z2, e1]
    obtain ⟨g5, e5, a1, a2, a3, k5, s5⟩ := zip_laid g2 hp.objs.size e2 (.ref hp.objs.size) (.ref g1.objs.size)
    have a2' : IsPair g5 (hp.objs.size + 2) (.ref hp.objs.size) (.ref (hp.objs.size + 1)) := by rw [← e1]; exact a2
    have i2' : SeqIt c g2 (hp.objs.size + 1) m 0 := by rw [← e1]; exact i2
    have key := h g5 a1 a2' a3 ((i1.move fun o e => k2 _ o e).move fun o e => k5 _ o e) (i2'.move fun o e => k5 _ o e) fun a o e => k5 _ _ (k2 _ _ (k1 _ _ e))
    dsimp only at key
    rw [e5, ← s5] at key
    exact key
theorem Inv.turnedL {X : Cx} {pins : List (Addr × Obj)} {σ : St} {H : Hp} {s : Shared} {g : Heap} {tk : Nat} {ch : List Addr} (I : Inv X pins σ H s) (k : ∀ b o, b ∉ ch → s.heap.get? b = some o → g.get? b = some o) (hch : ∀ b ∈ ch, FpOk X pins H b) : Inv X pins σ H { s with heap := g, toks := tk } := by
  have nch : ∀ b u, H b = some u → b ∉ ch := fun b u e z => by rw [(hch b z).1] at e; cases e
  refine I.step (g' := s.gens) (d' := s.drawn) (ch := ch) (fun b hb => ⟨(hch b hb).2.2.2.1, (hch b hb).2.1, (hch b hb).2.2.2.2.1, (hch b hb).2.2.2.2.2⟩) (fun b o _ _ hc e _ => k b o hc e) (fun b o _ _ hc e _ => ⟨o.slots, k b o hc e⟩) (fun _ _ _ _ n => n)
    (fun b o hc e => ⟨o, k b o hc e⟩) (fun _ _ e => e) (fun _ _ _ e => e) (fun b ps e => ⟨#[], by rw [e]; simp⟩) (fun m hm => ?_) (fun b u e => ?_) I.bare
  · obtain ⟨o, es, ep, ho, r⟩ := hm
    exact ⟨o, es, ep, k _ o (fun z => (hch _ z).2.1 rfl) ho, r⟩
  · refine (I.hok b u e).stay (fun c v hc q => k c v ?_ q) (fun _ q => q) fun _ _ q => q
    rcases hc with z | z
    · rw [z]; exact nch b u e
    · exact nch c _ z
theorem Inv.pair {X : Cx} {pins : List (Addr × Obj)} {σ : St} {H : Hp} {s : Shared} {g : Heap} {tk n : Nat} {ch : List Addr} {x y : V} {u v : Value} (I : Inv X pins σ H s) (k : ∀ b o, b ∉ ch → s.heap.get? b = some o → g.get? b = some o) (hch : ∀ b ∈ ch, FpOk X pins H b)
    (rx : RelV x u) (ry : RelV y v) (e : g.get? s.heap.objs.size = some { cls := .type "tuple", data := .seq #[u, v] n }) : H s.heap.objs.size = none ∧ Inv X pins σ (upd H s.heap.objs.size (.tup [x, y])) { s with heap := g, toks := tk } := by
  have f := I.fpOk (Nat.le_refl _) I.fresh
  refine ⟨f.1, (I.turnedL (tk := tk) k hch).track f.1 (Heap.get?_none_of_le I.sz) (Heap.get?_none_of_le (Nat.le_trans I.ok.bsz I.sz)) (Ne.symm f.2.1) f.2.2.2.2.1 f.2.2.2.2.2 (fun b hb z => f.2.2.1 (z ▸ hb)) ?_⟩
  exact ⟨by show 2 ≤ sizeLine; decide, [u, v], .cons rx (.cons ry .nil), _, e, rfl, n, rfl⟩
theorem Inv.sq {X : Cx} {pins : List (Addr × Obj)} {σ : St} {H : Hp} {s : Shared} {b : Bool} {a : Addr} {xs : List V} (I : Inv X pins σ H s) (h : SqX X.K b H a xs) : ∃ its : List Value, Vals xs its ∧ SeqOb b s.heap a its.toArray := by
  cases b with
  | true =>
    obtain ⟨its, r, p, _⟩ := I.tuple h
    exact ⟨its, r, p⟩
  | false =>
    obtain ⟨its, r, p, _⟩ := I.list h
    exact ⟨its, r, p.isList⟩
theorem Inv.sq_inj {X : Cx} {pins : List (Addr × Obj)} {σ : St} {H : Hp} {s : Shared} {b : Bool} {a : Addr} {xs ys : List V} (I : Inv X pins σ H s) (h : SqX X.K b H a xs) (h' : SqX X.K b H a ys) : xs = ys := by
  cases b with
  | true => exact I.tuple_inj h h'
  | false => exact I.list_inj h h'

def Itz (K : PySem.W.Frag) (b c : Bool) (l m : Addr) : It :=
  ⟨fun i H => ∃ xs ys x y, SqX K b H l xs ∧ SqX K c H m ys ∧ xs[i]? = some x ∧ ys[i]? = some y,
    fun i H v H' => ∃ (T : Addr) (x y : V), v = .ref T ∧ H T = none ∧ H' = upd H T (.tup [x, y]) ∧ (∀ xs, SqX K b H l xs → xs[i]? = some x) ∧ ∀ ys, SqX K c H m ys → ys[i]? = some y,
    fun i H => ∃ xs ys, SqX K b H l xs ∧ SqX K c H m ys ∧ (xs.length ≤ i ∨ ys.length ≤ i)⟩
def ZipTn (b c : Bool) (z U O i j l m : Addr) (k : Nat) (h : Heap) : Prop := IsZip h z U O .none ∧ IsPair h U (.ref i) (.ref j) ∧ (∃ p q, IsPair h O p q) ∧ SeqIt b h i l k ∧ SeqIt c h j m k
theorem turn_zip {P : Program} {w : World} {K : PySem.W.Frag} {es : List Expr} {n : Nat} {tpos : Pos} {b c : Bool} {z U O i j l m : Addr} (D : Apart z U O i j l m) : Turn P w K (.Tuple es n tpos) (Itz K b c l m) [z, U, O, i, j] z (ZipTn b c z U O i j l m) where
  mem := by simp
  obj := fun k h st a ha => by
    obtain ⟨hZ, hU, ⟨p, q, hO⟩, hi, hj⟩ := st
    simp only [List.mem_cons, List.not_mem_nil, or_false] at ha
    rcases ha with rfl | rfl | rfl | rfl | rfl
    · exact ⟨_, hZ, fun v t => by cases t⟩
    · exact ⟨_, hU, fun v t => by cases t⟩
    · exact ⟨_, hO, fun v t => by cases t⟩
    · exact hi.there
    · exact hj.there
  keep := fun k h h' st kp => by
    obtain ⟨hZ, hU, ⟨p, q, hO⟩, hi, hj⟩ := st
    exact ⟨kp z (by simp) _ hZ, kp U (by simp) _ hU, ⟨p, q, kp O (by simp) _ hO⟩, hi.move fun o e => kp i (by simp) o e, hj.move fun o e => kp j (by simp) o e⟩
  item := by
    intro X hP hw hK hc k pins s σ H E I hf st hg
    subst hP hw hK
    obtain ⟨hZ, hU, ⟨p, q, hO⟩, hi, hj⟩ := st
    obtain ⟨xs, ys, x, y, sx, sy, hx, hy⟩ := hg
    obtain ⟨us, ru, ou⟩ := I.sq sx
    obtain ⟨vs, rv, ov⟩ := I.sq sy
    obtain ⟨u, hu, rxu⟩ := ru.get hx
    obtain ⟨v, hv, ryv⟩ := rv.get hy
    have hT : s.TypeIs (.ref z) "zip" := ⟨_, hZ, rfl⟩
    unfold pyNext
    refine wpAny_bind (wpAny_attempt (wpAny_callSpecial?_slot (name := Str.ofString "__next__") hT F.slot_zip_next (wpAny_call_entry F.slot_zip_next hT F.entry_zip_next (zip_step D hZ hU hO hi hj ou ov (by simpa using hu) (by simpa using hv) fun g gZ gO gi gj gT gs gk => wpAny_pure ⟨_, rfl, ?_⟩) (F.args_zip_next_1 _))))
    refine wpAny_letOwnedTupleGo_zip (s := { s with heap := g }) gZ fun g2 gZ2 sb => ?_
    obtain ⟨nd, nl, nm⟩ := D
    simp only [List.nodup_cons, List.mem_cons, List.not_mem_nil, or_false, not_or, List.nodup_nil, and_true, not_false_eq_true] at nd
    obtain ⟨⟨zU, zO, zi, zj⟩, ⟨UO, Ui, Uj⟩, ⟨Oi, Oj⟩, ij⟩ := nd
    have zlt : z < s.heap.objs.size := Heap.lt_size hZ
    have kk : ∀ a o, a ∉ [z, O, i, j] → s.heap.get? a = some o → g2.get? a = some o := fun a o ha e => (sb.2 a (fun t => ha (by simp [t]))).trans (gk a o ha e)
    have fch : ∀ a ∈ [z, O, i, j], FpOk X pins H a := fun a ha => hf a (by
      simp only [List.mem_cons, List.not_mem_nil, or_false] at ha ⊢
      rcases ha with t | t | t | t <;> simp [t])
    obtain ⟨nT, J⟩ := I.pair (tk := s.toks) kk fch rxu ryv ((sb.2 _ (Nat.ne_of_gt zlt)).trans gT)
    refine ⟨.ref s.heap.objs.size, _, J, rfl, ⟨_, x, y, rfl, nT, rfl, fun xs' q' => by rw [I.sq_inj q' sx]; exact hx, fun ys' q' => by rw [I.sq_inj q' sy]; exact hy⟩, ⟨gZ2, kk U _ ?_ hU, ⟨u, v, (sb.2 O (Ne.symm zO)).trans gO⟩, gi.move fun o e => (sb.2 i (Ne.symm zi)).trans e, gj.move fun o e => (sb.2 j (Ne.symm zj)).trans e⟩, fun a ha => ?_⟩
    · simp only [List.mem_cons, List.not_mem_nil, or_false, not_or]
      exact ⟨Ne.symm zU, UO, Ui, Uj⟩
    · have e := (hf a ha).1
      have lt : a ≠ s.heap.objs.size := by
        simp only [List.mem_cons, List.not_mem_nil, or_false] at ha
        rcases ha with t | t | t | t | t <;> subst t
        · exact Nat.ne_of_lt zlt
        · exact Nat.ne_of_lt (Heap.lt_size hU)
        · exact Nat.ne_of_lt (Heap.lt_size hO)
        · obtain ⟨o, e, _⟩ := hi.there; exact Nat.ne_of_lt (Heap.lt_size e)
        · obtain ⟨o, e, _⟩ := hj.there; exact Nat.ne_of_lt (Heap.lt_size e)
      rw [upd_ne lt]
      exact e
  done := by
    intro X hP hw hK hc k pins s σ H E I hf st hg
    subst hP hw hK
    obtain ⟨hZ, hU, ⟨p, q, hO⟩, hi, hj⟩ := st
    obtain ⟨xs, ys, sx, sy, hend⟩ := hg
    obtain ⟨us, ru, ou⟩ := I.sq sx
    obtain ⟨vs, rv, ov⟩ := I.sq sy
    have lu := ru.length
    have lv := rv.length
    have hT : s.TypeIs (.ref z) "zip" := ⟨_, hZ, rfl⟩
    have he : us.toArray[k]? = none ∨ vs.toArray[k]? = none := hend.imp (fun t => by simp; lia) (fun t => by simp; lia)
    unfold pyNext
    refine wpAny_bind (wpAny_attempt (wpAny_callSpecial?_slot (name := Str.ofString "__next__") hT F.slot_zip_next (wpAny_call_entry F.slot_zip_next hT F.entry_zip_next (zip_stop (I.ok.hd hc) D hZ hU hO hi hj ou ov he fun g e gk ge => ?_) (F.args_zip_next_1 _))))
    obtain ⟨o, ho, hcl⟩ := ge
    refine wpAny_bind (wpAny_isInstance (T := "StopIteration") (b := true) ⟨o, ho, hcl⟩ isSubtype_stop (wpAny_pure ⟨rfl, ?_⟩))
    exact I.turnedL (tk := s.toks) gk fun a ha => hf a (by
      simp only [List.mem_cons, List.not_mem_nil, or_false] at ha ⊢
      rcases ha with t | t | t | t <;> simp [t])
  self := fun _ _ _ _ _ st h => wpAny_pyIter_zip st.1 h
end
end L2

namespace L2
open PySem PySem.Spec PyProof.Rows
theorem SeqOb.obj {b : Bool} {h : Heap} {l : Addr} {vs : Array Value} (x : SeqOb b h l vs) : ∃ o, h.get? l = some o := by
  cases b with
  | true => obtain ⟨o, e, _⟩ := x; exact ⟨o, e⟩
  | false => obtain ⟨o, e, _⟩ := x; exact ⟨o, e⟩
theorem enum_laid (g1 : Heap) (n : Nat) (e1 : g1.objs.size = n + 1) : ∃ g2, g2 = g1.push { cls := .type "enumerate", data := .fields #[.none, .bool false, .ref n, rawInt 0, .none, .none] } ∧ IsEnum g2 (n + 1) n 0 .none ∧ ∀ a o, g1.get? a = some o → g2.get? a = some o := by
  refine ⟨_, rfl, ?_, fun a o e => Heap.get?_push_of_some _ e⟩
  have q := Heap.get?_push_size g1 (o := { cls := .type "enumerate", data := .fields #[.none, .bool false, .ref n, rawInt 0, .none, .none] }) rfl
  rw [e1] at q
  exact q
set_option maxHeartbeats 1000000 in
theorem meets_enum {b : Bool} (l : Addr) (xs : Array Value) : Meets (Builtin.«enumerate.__new__» ⟨[.type "enumerate", .ref l], []⟩) (fun _ R s => SeqOb b s.heap l xs ∧
      ∀ g, IsEnum g (s.heap.objs.size + 1) s.heap.objs.size 0 .none → SeqIt b g s.heap.objs.size l 0 → (∀ a o, s.heap.get? a = some o → g.get? a = some o) → R (.ok (.ret (.ref (s.heap.objs.size + 1)))) { s with heap := g }) :=
  .of_wp fun prog w A R s h => by
    obtain ⟨hp, g, d, tk, os⟩ := s
    obtain ⟨hl, h⟩ := h
    obtain ⟨ol, eol⟩ := hl.obj
    have hsub := sub_enumerate
    have fin : ∀ g1, SeqIt b g1 hp.objs.size l 0 → g1.objs.size = hp.objs.size + 1 → (∀ c o, hp.get? c = some o → g1.get? c = some o) → ∃ v, Fin.done (Flow.ret (.ref g1.objs.size)) = Fin.done (Flow.ret v) ∧ R (.ok (.ret v)) ⟨g1.push { cls := .type "enumerate", data := .fields #[.none, .bool false, .ref hp.objs.size, rawInt 0, .none, .none] }, g, d, tk, os⟩ := fun g1 i1 z1 k1 => by
      obtain ⟨g2, e2, a1, k2⟩ := enum_laid g1 hp.objs.size z1
      refine ⟨_, rfl, ?_⟩
      have key := h g2 a1 (i1.move fun o e => k2 _ o e) fun a o e => k2 _ _ (k1 _ _ e)
      dsimp only at key
      rw [e2, ← z1] at key
      exact key
    wp_walk using AutoSeq1.wpAny_loadPart' eol
    refine wpAny_stack_any fun st => wpAny_pure ?_
    split
    · rename_i c' _ _ _ _ _
      cases (c' == Value.type "enumerate")
      · wp_walk using AutoSeq1.wpAny_loadPart' eol, pyIter_seq hl
        intro g1 i1 z1 k1
        wp_walk
        exact fin g1 i1 z1 k1
      · wp_walk using AutoSeq1.wpAny_loadPart' eol, pyIter_seq hl
        intro g1 i1 z1 k1
        wp_walk
        exact fin g1 i1 z1 k1
    · wp_walk using AutoSeq1.wpAny_loadPart' eol, pyIter_seq hl
      intro g1 i1 z1 k1
      wp_walk
      exact fin g1 i1 z1 k1
theorem draws_seq {prog : Program} {w : World} {A : Around} {b : Bool} (hA : A.handled = none) (I l : Addr) (ne : l ≠ I) (vs : Array Value) :
    Draws prog w A I [I, l] vs.size (fun k v => vs[k]? = some v) (fun k h => SeqIt b h I l k ∧ SeqOb b h l vs) where
  live := fun _ _ st => let ⟨o, ho, _⟩ := st.1.there; ⟨o, ho⟩
  frame := fun _ _ _ st hk => ⟨st.1.move fun o e => hk I (by simp) o e, st.2.move fun o e => hk l (by simp) o e⟩
  item := fun k s Q E hi st hQ => nextOf_seq_item st.1 st.2 (v := vs[k]) (by simp [hi]) fun g hI sb => hQ _ g s.toks (by simp [hi]) ⟨hI, st.2.move fun o e => (sb.2 l ne).trans e⟩ sb
  done := fun s Q E st hE => nextOf_seq_end hA st.1 st.2 (by simp) hE
def Ite (K : PySem.W.Frag) (b : Bool) (l : Addr) : It :=
  ⟨fun i H => ∃ xs x, SqX K b H l xs ∧ xs[i]? = some x,
    fun i H v H' => ∃ (T : Addr) (x : V), v = .ref T ∧ H T = none ∧ H' = upd H T (.tup [.int i, x]) ∧ ∀ xs, SqX K b H l xs → xs[i]? = some x,
    fun i H => ∃ xs, SqX K b H l xs ∧ xs.length = i⟩
theorem turn_enum {P : Program} {w : World} {K : PySem.W.Frag} {es : List Expr} {n : Nat} {tpos : Pos} {b : Bool} {e I l : Addr} (eI : e ≠ I) (le : l ≠ e) (lI : l ≠ I) :
    Turn P w K (.Tuple es n tpos) (Ite K b l) [e, I] e (fun k h => (∃ old, IsEnum h e I k old) ∧ SeqIt b h I l k) where
  mem := by simp
  obj := fun k h st a ha => by
    obtain ⟨⟨old, he⟩, hI⟩ := st
    simp only [List.mem_cons, List.not_mem_nil, or_false] at ha
    rcases ha with rfl | rfl
    · exact ⟨_, he, fun v t => by cases t⟩
    · exact hI.there
  keep := fun k h h' st kp => by
    obtain ⟨⟨old, he⟩, hI⟩ := st
    exact ⟨⟨old, kp e (by simp) _ he⟩, hI.move fun o t => kp I (by simp) o t⟩
  item := by
    intro X hP hw hK hc k pins s σ H E J hf st hg
    subst hP hw hK
    obtain ⟨⟨old, he⟩, hI⟩ := st
    obtain ⟨xs, x, sx, hx⟩ := hg
    obtain ⟨us, ru, ou⟩ := J.sq sx
    have lu := ru.length
    have hk : k < xs.length := (List.getElem?_eq_some_iff.mp hx).1
    refine wpAny_pyNext_enum_itemD (draws_seq (b := b) (A := X.A.in1) (J.ok.hd hc) I l lI us.toArray) he ⟨hI, ou⟩ (by simp; lia) eI (by simp [eI, Ne.symm le]) fun u g tk hu gE gS gT gs gk => ⟨_, rfl, ?_⟩
    obtain ⟨u', hu', rxu⟩ := ru.get hx
    have eu : u = u' := by
      have : us[k]? = some u := by simpa using hu
      rw [hu'] at this
      exact (Option.some.inj this).symm
    subst eu
    refine wpAny_letOwnedTupleGo_enum (s := { s with heap := g, toks := tk + 1 }) gE fun g2 gE2 sb => ?_
    have elt : e < s.heap.objs.size := Heap.lt_size he
    have kk : ∀ a o, a ∉ [e, I] → s.heap.get? a = some o → g2.get? a = some o := fun a o ha t => (sb.2 a (fun z => ha (by simp [z]))).trans (gk a o (fun z => ha (by simp [z])) (fun z => ha (by simp [z])) t)
    obtain ⟨nT, J2⟩ := J.pair (tk := tk + 1) (x := .int k) (u := .int k tk) kk hf ⟨tk, rfl⟩ rxu ((sb.2 _ (Nat.ne_of_gt elt)).trans gT)
    refine ⟨.ref s.heap.objs.size, _, J2, rfl, ⟨_, x, rfl, nT, rfl, fun xs' q' => by rw [J.sq_inj q' sx]; exact hx⟩, ⟨⟨_, by simpa using gE2⟩, gS.1.move fun o t => (sb.2 I (Ne.symm eI)).trans t⟩, fun a ha => ?_⟩
    have t := (hf a ha).1
    have lt : a ≠ s.heap.objs.size := by
      simp only [List.mem_cons, List.not_mem_nil, or_false] at ha
      rcases ha with z | z <;> subst z
      · exact Nat.ne_of_lt elt
      · obtain ⟨o, t, _⟩ := hI.there; exact Nat.ne_of_lt (Heap.lt_size t)
    rw [upd_ne lt]
    exact t
  done := by
    intro X hP hw hK hc k pins s σ H E J hf st hg
    subst hP hw hK
    obtain ⟨⟨old, he⟩, hI⟩ := st
    obtain ⟨xs, sx, hend⟩ := hg
    obtain ⟨us, ru, ou⟩ := J.sq sx
    have lu := ru.length
    have ek : k = us.toArray.size := by simp; lia
    refine wpAny_pyNext_enum_endD (draws_seq (b := b) (A := X.A.in1) (J.ok.hd hc) I l lI us.toArray) he ⟨ek ▸ hI, ou⟩ fun g gk => ⟨rfl, ?_⟩
    exact J.turnedL (tk := s.toks) (ch := [e, I]) (fun a o ha t => gk a o (fun z => ha (by simp [z])) t) hf
  self := fun A i s Q E st h => by
    obtain ⟨⟨old, he⟩, _⟩ := st
    exact wpAny_pyIter_enum he h

section
variable {X : Cx} {es : List Expr} {n : Nat} {tpos p pos : Pos} {e1 e2 : Expr} {t : TA}
def iZip (b c : Bool) (K : PySem.W.Frag) (t : TA) : TI := fun σ H R => t σ H fun vs H1 => ∃ (l m : Addr), vs = [.ref l, .ref m] ∧ (∃ xs, SqX K b H1 l xs) ∧ (∃ ys, SqX K c H1 m ys) ∧ R (Itz K b c l m) H1
theorem SeqOb.lt {b : Bool} {h : Heap} {l : Addr} {vs : Array Value} (x : SeqOb b h l vs) : l < h.objs.size := by
  cases b with
  | true => obtain ⟨o, e, _⟩ := x; exact Heap.lt_size e
  | false => obtain ⟨o, e, _⟩ := x; exact Heap.lt_size e
theorem apart5 (n l m : Nat) (hl : l < n) (hm : m < n) : Apart (n + 4) (n + 2) (n + 3) n (n + 1) l m := by
  refine ⟨(show ([n + 4, n + 2, n + 3, n, n + 1] : List Nat).Nodup from ?_), (show l ∉ ([n + 4, n + 3, n, n + 1] : List Nat) from ?_), (show m ∉ ([n + 4, n + 3, n, n + 1] : List Nat) from ?_)⟩
  · simp only [List.nodup_cons, List.mem_cons, List.not_mem_nil, or_false, not_or, List.nodup_nil, and_true, not_false_eq_true]
    lia
  · simp only [List.mem_cons, List.not_mem_nil, or_false, not_or]
    lia
  · simp only [List.mem_cons, List.not_mem_nil, or_false, not_or]
    lia
theorem pi_zip (b c : Bool) (hg : Gl X "zip") (hm : X.mg "zip" = none) (ha : PA X [e1, e2] t) (hs : starEach [e1, e2] X.env = [(false, eval e1 X.env), (false, eval e2 X.env)] := by rfl) (hs2 : starEach [e2] X.env = [(false, eval e2 X.env)] := by rfl) :
    PI X (.Tuple es n tpos) (.Call (.Name "zip" p) [e1, e2] [] pos) (iZip b c X.K t) := by
  intro pins s σ H R I h
  refine Call_ (ld_blt I hg hm PyProof.Rows.boot_zip (PyProof.Rows.callWith_type1 (thn (ha pos pins s σ H _ I h) fun us s1 ⟨vs, H1, I1, r1, q1⟩ => ?_) (by rw [hs, hs2]) (by rw [hs2]; rfl)))
  obtain ⟨l, m, rfl, ⟨xs, sx⟩, ⟨ys, sy⟩, q⟩ := q1
  obtain ⟨u, v, rfl, ru, rv⟩ := r1.two
  cases (show u = Value.ref l from ru)
  cases (show v = Value.ref m from rv)
  obtain ⟨ul, _, ol⟩ := I1.sq sx
  obtain ⟨um, _, om⟩ := I1.sq sy
  refine callType_new F.called_zip (by decide) (F.typeCall_zip_2 _ _) (F.newCall_zip_2 _ _) (fun obj => F.args_object_init_3 obj _ _) F.entry_zip_new (meets_zip (b := b) (c := c) l m ul.toArray um.toArray) ⟨ol, om, fun g gZ gU gO gi gj gk => ?_⟩
  refine ⟨⟨_, gZ, rfl⟩, wpAny_pyIter_zip (s := { s1 with heap := g }) gZ ?_⟩
  have ll := ol.lt
  have lm := om.lt
  have hA := apart5 s1.heap.objs.size l m ll lm
  refine ⟨s1.heap.objs.size + 4, _, _, _, H1, rfl, I1.kept (t' := s1.toks) gk, turn_zip hA, ⟨gZ, gU, ⟨_, _, gO⟩, gi, gj⟩, fun a ha => ?_, q⟩
  have le : s1.heap.objs.size ≤ a := by
    simp only [List.mem_cons, List.not_mem_nil, or_false] at ha
    rcases ha with t | t | t | t | t <;> rw [t] <;> first | exact Nat.le_refl _ | exact Nat.le_add_right _ _
  exact I1.fpOk le (I1.hok.fresh le)
def iEnum (b : Bool) (K : PySem.W.Frag) (t : TA) : TI := fun σ H R => t σ H fun vs H1 => ∃ (l : Addr), vs = [.ref l] ∧ (∃ xs, SqX K b H1 l xs) ∧ R (Ite K b l) H1
theorem pi_enum (b : Bool) (hg : Gl X "enumerate") (hm : X.mg "enumerate" = none) (ha : PA X [e1] t) (hs : starEach [e1] X.env = [(false, eval e1 X.env)] := by rfl) :
    PI X (.Tuple es n tpos) (.Call (.Name "enumerate" p) [e1] [] pos) (iEnum b X.K t) := by
  intro pins s σ H R I h
  refine Call_ (ld_blt I hg hm PyProof.Rows.boot_enumerate (PyProof.Rows.callWith_type1 (thn (ha pos pins s σ H _ I h) fun us s1 ⟨vs, H1, I1, r1, q1⟩ => ?_) hs rfl))
  obtain ⟨l, rfl, ⟨xs, sx⟩, q⟩ := q1
  obtain ⟨u, rfl, ru⟩ := r1.one
  cases (show u = Value.ref l from ru)
  obtain ⟨ul, _, ol⟩ := I1.sq sx
  refine callType_new F.called_enumerate (by decide) (F.typeCall_enumerate_1 _) (F.newCall_enumerate_1 _) (fun obj => F.args_object_init_2 obj _) F.entry_enumerate_new (meets_enum (b := b) l ul.toArray) ⟨ol, fun g gE gi gk => ?_⟩
  refine ⟨⟨_, gE, rfl⟩, wpAny_pyIter_enum (s := { s1 with heap := g }) gE ?_⟩
  have ll := ol.lt
  refine ⟨s1.heap.objs.size + 1, _, _, _, H1, rfl, I1.kept (t' := s1.toks) gk, turn_enum (e := s1.heap.objs.size + 1) (I := s1.heap.objs.size) (l := l) (Nat.succ_ne_self _) (Nat.ne_of_lt (Nat.lt_succ_of_lt ll)) (Nat.ne_of_lt ll), ⟨⟨_, gE⟩, gi⟩, fun a ha => ?_, q⟩
  have le : s1.heap.objs.size ≤ a := by
    simp only [List.mem_cons, List.not_mem_nil, or_false] at ha
    rcases ha with t | t <;> rw [t] <;> first | exact Nat.le_refl _ | exact Nat.le_add_right _ _
  exact I1.fpOk le (I1.hok.fresh le)
end
section
variable {K : PySem.W.Frag} {b c : Bool} {l m : Addr} {xs ys : List V} {σ : St} {H : Hp}
theorem gpair {K : PySem.W.Frag} {i j : Nat} {T : Addr} {x y : V} {σ : St} {H : Hp} {Q : St → Hp → Prop} (h : H T = some (.tup [x, y])) (q : Q ((σ.set i (some x)).set j (some y)) H) : gTup K 2 (gCons (gName i) (gCons (gName j) gNil)) (.ref T) σ H Q :=
  ⟨T, _, rfl, SqT.of h, rfl, x, _, rfl, y, _, rfl, rfl, q⟩
theorem for_enum {g : TG} {tb : TS} {D : Ends} (Pv : Nat → St → Hp → Prop) (h0 : Pv 0 σ H) (hl : ∀ i σ H, i ≤ xs.length → Pv i σ H → SqX K b H l xs)
    (hs : ∀ i x σ H T, xs[i]? = some x → Pv i σ H → H T = none → g (.ref T) σ (upd H T (.tup [.int i, x])) fun σ2 H2 => tb { D with nx := Pv (i + 1), ct := Pv (i + 1), bk := D.nx } σ2 H2) (hd : ∀ σ H, Pv xs.length σ H → D.nx σ H) :
    ∃ W : Nat → Nat → St → Hp → Prop, (∃ m, W 0 m σ H) ∧ ∀ i m σ H, W i m σ H →
      ((Ite K b l).stop i H ∧ D.nx σ H) ∨ ((Ite K b l).go i H ∧ ∃ N : St → Hp → Prop, (∀ σ' H', N σ' H' → ∃ m', m' < m ∧ W (i + 1) m' σ' H') ∧ ∀ x H', (Ite K b l).yld i H x H' → g x σ H' fun σ2 H2 => tb { D with nx := N, ct := N, bk := D.nx } σ2 H2) := by
  refine ⟨fun i m σ H => m = xs.length - i ∧ i ≤ xs.length ∧ Pv i σ H, ⟨xs.length, by simp, Nat.zero_le _, h0⟩, ?_⟩
  rintro i m σ H ⟨rfl, hi, p⟩
  have q := hl i σ H hi p
  by_cases hlt : i < xs.length
  · refine .inr ⟨⟨xs, xs[i], q, by simp [hlt]⟩, Pv (i + 1), fun σ' H' p' => ⟨xs.length - (i + 1), by lia, rfl, hlt, p'⟩, fun x H' y => ?_⟩
    obtain ⟨T, z, rfl, nT, rfl, hz⟩ := y
    exact hs i z σ _ T (hz xs q) p nT
  · have e : i = xs.length := by lia
    subst e
    exact .inl ⟨⟨xs, q, rfl⟩, hd σ H p⟩
theorem for_zip {g : TG} {tb : TS} {D : Ends} (Pv : Nat → St → Hp → Prop) (h0 : Pv 0 σ H) (hl : ∀ i σ H, Pv i σ H → SqX K b H l xs ∧ SqX K c H m ys)
    (hs : ∀ i x y σ H T, xs[i]? = some x → ys[i]? = some y → Pv i σ H → H T = none → g (.ref T) σ (upd H T (.tup [x, y])) fun σ2 H2 => tb { D with nx := Pv (i + 1), ct := Pv (i + 1), bk := D.nx } σ2 H2) (hd : ∀ σ H, Pv (min xs.length ys.length) σ H → D.nx σ H) :
    ∃ W : Nat → Nat → St → Hp → Prop, (∃ m, W 0 m σ H) ∧ ∀ i n σ H, W i n σ H →
      ((Itz K b c l m).stop i H ∧ D.nx σ H) ∨ ((Itz K b c l m).go i H ∧ ∃ N : St → Hp → Prop, (∀ σ' H', N σ' H' → ∃ m', m' < n ∧ W (i + 1) m' σ' H') ∧ ∀ x H', (Itz K b c l m).yld i H x H' → g x σ H' fun σ2 H2 => tb { D with nx := N, ct := N, bk := D.nx } σ2 H2) := by
  refine ⟨fun i n σ H => n = min xs.length ys.length - i ∧ i ≤ min xs.length ys.length ∧ Pv i σ H, ⟨min xs.length ys.length, by simp, Nat.zero_le _, h0⟩, ?_⟩
  rintro i n σ H ⟨rfl, hi, p⟩
  obtain ⟨qx, qy⟩ := hl i σ H p
  by_cases hlt : i < min xs.length ys.length
  · have lx : i < xs.length := by lia
    have ly : i < ys.length := by lia
    refine .inr ⟨⟨xs, ys, xs[i], ys[i], qx, qy, by simp [lx], by simp [ly]⟩, Pv (i + 1), fun σ' H' p' => ⟨min xs.length ys.length - (i + 1), by lia, rfl, hlt, p'⟩, fun x H' y => ?_⟩
    obtain ⟨T, z, z', rfl, nT, rfl, hz, hz'⟩ := y
    exact hs i z z' σ _ T (hz xs qx) (hz' ys qy) p nT
  · have e : i = min xs.length ys.length := by lia
    subst e
    exact .inl ⟨⟨xs, ys, qx, qy, by lia⟩, hd σ H p⟩
variable {k : Nat} {cs : List Nat} {g : TG} {tc : TT} {te : TE} {fin : List V → Hp → Prop}
end
end L2

namespace L2
open PySem PySem.Spec PyProof.Rows
theorem rm {a b : Nat} {A : Around} (h : Room b A) (hle : a ≤ b := by first | decide | lia) : Room a A := h.mono hle

structure Cal (P : Program) (w : World) (K : PySem.W.Frag) (mg : Str → Option Value) (base : Heap) (CX : CXT) (k : Nat) (x : Str) (ps : List Str) (sp : Sp) : Prop where
  ex : ∃ (f : Addr) (fd : FuncData), FnOk P w K mg base CX k f fd ps sp ∧ mg x = some (.ref f) ∧ PySem.W.keepIn K (.ref f) = true ∧ Binds K fd ps []
structure CalM (P : Program) (w : World) (K : PySem.W.Frag) (mg : Str → Option Value) (base : Heap) (CX : CXT) (k : Nat) (C : Addr) (m : Str) (ps : List Str) (sp : Sp) : Prop where
  ex : ∃ (f : Addr) (fd : FuncData), FnOk P w K mg base CX k f fd ps sp ∧ Meth K C m f ∧ Binds K fd ps []
  cl : Cls K C
structure CalC (P : Program) (w : World) (K : PySem.W.Frag) (mg : Str → Option Value) (base : Heap) (CX : CXT) (k : Nat) (x : Str) (C : Addr) (ps : List Str) (sp : Sp) : Prop where
  ex : ∃ (f : Addr) (fd : FuncData), FnOk P w K mg base CX k f fd ps sp ∧ Mk K C f ∧ mg x = some (.ref C) ∧ Binds K fd ps []
section
variable {X : Cx} {CX : CXT} {k : Nat} {C : Addr} {ps : List Str} {sp : Sp} {E : XK} {x m : Str} {p pos apos : Pos} {e o : Expr} {es : List Expr} {ta : TE} {t : TA}
theorem pe_cal (c : Cal X.prog X.w X.K X.mg X.base CX k x ps sp) (hr : Room k X.A) (hg : Gl X x) (hx : Passes CX X E) (ha : PA X (e :: es) t) (hdb : (x == ("__debug__" : Str)) = false := by decide)
    (he : starEach (e :: es) X.env = (false, eval e X.env) :: starEach es X.env := by rfl) (hpl : (backTo pos (starEach es X.env)).any (·.1) = false := by rfl) : PE X (.Call (.Name x p) (e :: es) [] pos) (tCall sp [] E t) := by
  obtain ⟨f, fd, F, hm, hk, hb⟩ := c.ex
  exact pe_call F hr hg hm hk hb .nil hx ha hdb he hpl
theorem pe_calm {pl : Sem Bool} (he : PE X o ta) (c : CalM X.prog X.w X.K X.mg X.base CX k C m ps sp) (hr : Room k X.A) (hx : Passes CX X E) (ha : PA X (e :: es) t)
    (hst : starEach (e :: es) X.env = (false, eval e X.env) :: starEach es X.env := by rfl) (hpl : (backTo pos (starEach es X.env)).any (·.1) = false := by rfl)
    (ht : eval (.Call (.Attribute o m apos) (e :: es) [] pos) X.env = (do
      let ov ← eval o X.env; standAt apos.atName
      let (f, first) ← holding [ov] (getMethod ov m pl); callWith pos f first (backTo pos (starEach (e :: es) X.env)) (backToKw pos (keywordEach [] X.env))) := by rfl) : PE X (.Call (.Attribute o m apos) (e :: es) [] pos) (tMeth C m sp [] E ta t) := by
  obtain ⟨f, fd, F, hm, hb⟩ := c.ex
  exact pe_meth he c.cl hm F hr hb .nil hx ha hst hpl ht
theorem pe_calC0 (c : CalC X.prog X.w X.K X.mg X.base CX k x C ps sp) (hr : Room (k + 1) X.A) (hg : Gl X x) (hx : Passes CX X E) (hdb : (x == ("__debug__" : Str)) = false := by decide) : PE X (.Call (.Name x p) [] [] pos) (tMake C sp [] E tNil) := by
  obtain ⟨f, fd, F, M, hm, hb⟩ := c.ex
  exact pe_make0 M F hr hg hm hb .nil hx hdb
theorem pe_gint {i : Int} (hg : Gl X x) (hm : ∃ tk, X.mg x = some (.int i tk)) (hd : (x == ("__debug__" : Str)) = false := by decide) : PE X (.Name x pos) (tC (.int i)) := by
  obtain ⟨tk, hm⟩ := hm
  exact pe_glob hg hm ⟨tk, rfl⟩ hd
theorem pe_gref {a : Addr} (hg : Gl X x) (hm : X.mg x = some (.ref a)) (hd : (x == ("__debug__" : Str)) = false := by decide) : PE X (.Name x pos) (tC (.ref a)) := pe_glob hg hm rfl hd
end
def cOk (So : Scope) (No : List Str) (scope : Scope) (N : List Str) (k : Nat) (cs : List Nat) : Bool :=
  scope.names.all (fun y => y.2 != .cell) && (scope.kind == .function && (scope.names.all (fun y => y.2 != .local || scope.names.lookup y.1 == some .local) && (scope.names.all (fun y => y.2 != .free || (So.names.lookup y.1 == some .cell || So.names.lookup y.1 == some .free)) &&
    (N.length == k + cs.length && (List.range cs.length).all fun j => match N[k + j]?, No[cs.getD j 0]? with
      | some x, some y => x == y && scope.names.lookup x == some .free
      | _, _ => false))))
theorem CScope.of {X : Cx} {So : Scope} {No : List Str} {scope : Scope} {N : List Str} {k : Nat} {cs : List Nat} (hS : X.env.scope = So) (hN : X.N = No) (h : cOk So No scope N k cs = true) : CScope X scope N k cs := by
  subst hS hN
  unfold cOk at h
  simp only [Bool.and_eq_true, List.all_eq_true, bne_iff_ne, ne_eq, Bool.or_eq_true, beq_iff_eq, List.mem_range] at h
  obtain ⟨h1, h2, h3, h4, h5, h6⟩ := h
  refine ⟨h1, h2, fun y hy e => ?_, fun y hy e => ?_, h5, fun j hj => ?_⟩
  · rcases h3 y hy with z | z
    · exact absurd e z
    · exact z
  · rcases h4 y hy with z | z
    · exact absurd e z
    · exact z
  · have z := h6 j hj
    split at z
    · rename_i x y e1 e2
      simp only [Bool.and_eq_true, beq_iff_eq] at z
      obtain ⟨z1, z2⟩ := z
      subst z1
      exact ⟨x, e1, e2, z2⟩
    · cases z

theorem tyes {σ : St} {H : Hp} {A B : Hp → Prop} (h : A H) : tYes σ H fun b H3 => if b = true then A H3 else B H3 := by
  show if true = true then A H else B H
  exact iteT h
theorem and_end {tb : TE} {σ : St} {H : Hp} {Q : VK} {b1 b2 : Bool} (h2 : b1 = true → ∀ Q' : VK, Q' (.bl b2) H → tb σ H Q') (q : Q (.bl (b1 && b2)) H) : ∃ c, V.bl b1 = .bl c ∧ if c = true then tb σ H Q else Q (.bl false) H := by
  cases b1 with
  | true => exact ⟨true, rfl, iteT (h2 rfl Q q)⟩
  | false => exact ⟨false, rfl, iteF q⟩
theorem tand_end {u : TT} {σ : St} {H : Hp} {Q : Bool → Hp → Prop} {b1 b2 : Bool} (h2 : b1 = true → ∀ Q' : Bool → Hp → Prop, Q' b2 H → u σ H Q') (q : Q (b1 && b2) H) : if b1 = true then u σ H Q else Q false H := by
  cases b1 with
  | true => exact iteT (h2 rfl Q q)
  | false => exact iteF q
section
variable {X : Cx} {scope : Scope} {N : List Str} {s : Shared} {H : Hp} {ex : List Addr} {x y : Str} {px py pos : Pos} {k : Nat}
theorem pgc_name {i : Nat} (hN : N.Nodup) (hi : N[i]? = some x) (hl : (relabel scope X.env).names.lookup x = some .local) : PG (cxC X scope N s H ex) (.Name x pos) (gName i) := pg_name (X := cxC X scope N s H ex) hN hi (.inl hl) (.inr hl)
end
section
variable {X : Cx}
end
end L2

namespace L2
open PySem
section
variable {X : Cx} {es es' : List Expr} {t t' : TA} {pos : Pos}
theorem pa_int {i : Int} {j} (hr : PA X es t) : PA X (.Constant (.int i) j pos :: es) (tCons (tC (.int i)) t) := pa_cons pe_int hr
theorem pa_tup {x1} (h : PA X es' t') (hr : PA X es t) : PA X (.Tuple es' x1 pos :: es) (tCons (tTup t') t) := pa_cons (pe_tup h) hr
theorem pa_op {op : Operator} {r : R2} {a b : Expr} {ta tb : TE} (ho : OpR X (binaryOp op) r) (ha : PE X a ta) (hb : PE X b tb) (hr : PA X es t) : PA X (.BinOp a op b pos :: es) (tCons (tOp r ta tb) t) := pa_cons (pe_op ho ha hb) hr
theorem ixc_tup {K : PySem.W.Frag} (h : X.K = K) : IxR X (rIxT K) := h ▸ ix_tup
theorem ixc_list {K : PySem.W.Frag} (h : X.K = K) : IxR X (rIxL K) := h ▸ ix_list
end
end L2

namespace Nu
open PySem PySem.NumText PyProof.Rows
end Nu

namespace L2
open PySem PySem.Spec PyProof.Rows
section
variable {X : Cx}
theorem pe_fldK {K : PySem.W.Frag} {e : Expr} {f : Str} {ta : TE} {pos : Pos} (hK : X.K = K) (he : PE X e ta) (hb : attributeBase e f X.env (eval e X.env) = eval e X.env) : PE X (.Attribute e f pos) (tFld K ta f) := hK ▸ pe_fld he hb
end
end L2

namespace L2
open PySem PySem.Spec PyProof.Rows
section
variable {X : Cx}
theorem preSum_list (ns : List Int) : ∀ k, k ≤ ns.length → preSum (fun i => ns.getD i 0) k = (ns.take k).sum
  | 0, _ => by simp [preSum]
  | k + 1, h => by
    have h' : k < ns.length := h
    show preSum _ k + ns.getD k 0 = _
    rw [preSum_list ns k (Nat.le_of_lt h'), List.take_add_one, List.getElem?_eq_getElem h', List.getD_eq_getElem?_getD, List.getElem?_eq_getElem h', List.sum_append]
    show _ + ns[k] = _ + (ns[k] + 0)
    rw [Int.add_zero]
theorem int_vals {ns : List Int} {its : List Value} (rv : Vals (ns.map V.int) its) : ∀ (i : Nat) v, its.toArray[i]? = some v → ∃ t, v = .int (ns.getD i 0) t := fun i v e => by
  have e : its[i]? = some v := by simpa using e
  cases eb : ns[i]? with
  | none =>
    have : its[i]? = none := rv.none_of (by rw [List.getElem?_map, eb]; rfl)
    rw [e] at this
    cases this
  | some b =>
    obtain ⟨u, hu, ru⟩ := rv.get (i := i) (x := V.int b) (by rw [List.getElem?_map, eb]; rfl)
    rw [e] at hu
    cases hu
    rw [List.getD_eq_getElem?_getD, eb]
    obtain ⟨t, rfl⟩ := ru
    exact ⟨t, rfl⟩
theorem call_sum (hc : X.calm = true) : CallR X (.builtin "sum") (fun xs H Q => ∃ (p : Addr) (ns : List Int), xs = [.ref p] ∧ SqL X.K H p (ns.map V.int) ∧ Q (.int ns.sum) H) := by
  intro pins s σ H xs us Q I r h
  obtain ⟨p, ns, rfl, hq, q⟩ := h
  cases r with
  | cons r1 r2 =>
    cases r2
    cases (show _ = Value.ref p from r1)
    obtain ⟨its, rv, pl, hz⟩ := I.list hq
    have hlt : p < s.heap.objs.size := by obtain ⟨o, n, e, _⟩ := pl; exact Heap.lt_size e
    have hne : p ≠ s.heap.objs.size := Nat.ne_of_lt hlt
    have len : its.toArray.size = ns.length := by rw [List.size_toArray, ← rv.length, List.length_map]
    refine call_sum_walkAnyS (wpAny_pyIter_list pl.isList ?_)
    refine ⟨s.heap.objs.size, _, _, _, _, _, _, fun i => ns.getD i 0, rfl, (Walks.list (A := X.A.in1) (I.ok.hd hc) s.heap.objs.size p hne its.toArray).toS, ⟨⟨_, Heap.get?_push_size _ rfl, rfl, rfl⟩, ?_⟩, ?_, int_vals rv, ?_⟩
    · exact pl.isList.at fun o e => Heap.get?_push_of_some _ e
    · intro b hb
      show b < (s.heap.push _).objs.size
      rw [Heap.size_push]
      rcases List.mem_cons.mp hb with rfl | hb
      · exact Nat.lt_succ_self _
      · rcases List.mem_cons.mp hb with rfl | hb
        · exact Nat.lt_succ_of_lt hlt
        · cases hb
    · intro s' t' mv
      have I2 : Inv X pins σ H { s with heap := s'.heap, toks := s'.toks } := I.kept fun b o e => mv.heap b o (by intro z; exact Nat.ne_of_lt (Heap.lt_size e) (by simpa using z)) (Heap.get?_push_of_some _ e)
      have es : s' = { s with heap := s'.heap, toks := s'.toks } := by
        obtain ⟨m1, m2, m3, m4, m5⟩ := mv
        cases s'
        simp only at m2 m3 m4
        subst m2
        subst m3
        subst m4
        rfl
      rw [es, len, preSum_list ns _ (Nat.le_refl _), List.take_length]
      exact ⟨.int ns.sum, H, I2, ⟨t', rfl⟩, q⟩
end
end L2

namespace L2
open PySem PySem.Spec PyProof.Rows
section
variable {X : Cx}
end
section
variable {prog : Program} {w : World} {κ : Type} [DecidableEq κ] {knd : HeapKind prog w κ} {A : Around} {E : Value → Shared → Prop} {s : Shared}
end
section
variable {X : Cx} {pins : List (Addr × Obj)} {σ : St} {H : Hp} {s : Shared} {a : Addr} {y v : V} {u r : Value} {o : Option V} {A : Around} {E : Value → Shared → Prop}
end
section
variable {X : Cx} {o e f : Expr} {apos cpos : Pos} {td ty tx : TE}
end
end L2

namespace L2
open PySem PySem.Spec PyProof.Rows
section
variable {prog : Program} {w : World} {A : Around} {E : Value → Shared → Prop} {s : Shared} {d it : Addr} {o : Obj} {es : Array DictEntry} {ep i : Nat}
theorem raw_next {Q : Option Value → Shared → Prop} (hit : s.heap.IsKeyIter it d i es.size ep) (ho : s.heap.get? d = some o) (da : o.data = .dict es ep) (hi : i < es.size)
    (q : ∀ h', h'.IsKeyIter it d (i + 1) es.size ep → Heap.SameBut it s.heap h' → Q (some es[i].key) { s with heap := h' }) : wpAny (model prog w) A (pyNext (.ref it)) Q E s := by
  obtain ⟨io, hio, ic, idt⟩ := id hit
  unfold pyNext; refine wpAny_bind (wpAny_attempt (wpAny_callSpecial?_slot (name := Str.ofString "__next__") hit.typeIs F.slot_dict_keyiterator_next (wpAny_call_entry F.slot_dict_keyiterator_next hit.typeIs F.entry_dict_keyiterator_next ?_ (F.args_dict_keyiterator_next_1 _))))
  refine wpAny_bind (wpAny_pure ?_); refine wpAny_bind ?_; refine wpAny_bind ?_
  (first | refine wpAny_bind (wpAny_typeNameOfWhole_keyiter hit.typeIs (wpAny_pure ?_)) | refine wpAny_bind (wpAny_typeNameOf_keyiter hit.typeIs (wpAny_pure ?_))); refine wpAny_bind (wpAny_fieldsOf hio idt ?_)
  have hown : Builtin.Dict_items.ownsTuple "dict_keyiterator" = false := (by decide); simp only [hown, Bool.false_eq_true, if_false]; show wpAny _ _ (if (Value.ref d == Value.none) = true then _ else _) _ _ s
  rw [if_neg (show ¬ ((Value.ref d == Value.none) = true) from Bool.false_ne_true)]; refine wpAny_bind (wpAny_pure ?_); refine wpAny_bind (wpAny_dictEntries ho da ?_); rw [if_neg (by simp)]
  refine wpAny_bind (wpAny_pure ?_); refine wpAny_bind (wpAny_dictEpoch ho da ?_); rw [if_neg (by simp)]; refine wpAny_pure ?_
  simp only [show ¬ ((i : Int) < 0) from by lia, if_false, Int.toNat_natCast, Array.getElem?_eq_getElem hi]; refine wpAny_bind ?_
  (first | refine wpAny_bind (wpAny_typeNameOfWhole_keyiter hit.typeIs (wpAny_pure ?_)) | refine wpAny_bind (wpAny_typeNameOf_keyiter hit.typeIs (wpAny_pure ?_))); refine wpAny_bind (wpAny_isOneOf_keyiter hit.typeIs ?_)
  show wpAny _ _ (setField (.ref it) 1 (rawInt ((i : Int) + 1)) >>= _) _ _ s; refine wpAny_bind (wpAny_setField hio idt (by simp) ?_)
  have next : (s.heap.update it (Obj.mapFields (·.setIfInBounds 1 (rawInt ((i : Int) + 1))))).IsKeyIter it d (i + 1) es.size ep := ⟨_, Heap.get?_update_self _ hio (Obj.isFreed_of_fields (Obj.data_mapFields idt _)), (Obj.cls_mapFields ..).trans ic, by rw [Obj.data_mapFields idt]; simp [rawInt]⟩
  refine wpAny_bind (wpAny_holding ?_); refine wpAny_bind (wpAny_isOneOf_keyiter (s := { s with heap := s.heap.update it (Obj.mapFields (·.setIfInBounds 1 (rawInt ((i : Int) + 1)))) }) next.typeIs ?_); show wpAny _ _ (pure es[i].key) _ _ _
  exact wpAny_pure (wpAny_pure ⟨_, rfl, wpAny_pure (q _ next (Heap.SameBut.update ..))⟩)
theorem raw_end {Q : Option Value → Shared → Prop} (hh : A.handled = none) (hit : s.heap.IsKeyIter it d i es.size ep) (ho : s.heap.get? d = some o) (da : o.data = .dict es ep) (hi : es.size ≤ i)
    (q : ∀ h', Heap.ExtBut it s.heap h' → Q none { s with heap := h' }) : wpAny (model prog w) A (pyNext (.ref it)) Q E s := by
  obtain ⟨io, hio, ic, idt⟩ := id hit
  unfold pyNext; refine wpAny_bind (wpAny_attempt (wpAny_callSpecial?_slot (name := Str.ofString "__next__") hit.typeIs F.slot_dict_keyiterator_next (wpAny_call_entry F.slot_dict_keyiterator_next hit.typeIs F.entry_dict_keyiterator_next ?_ (F.args_dict_keyiterator_next_1 _))))
  refine wpAny_bind (wpAny_pure ?_); refine wpAny_bind ?_; refine wpAny_bind ?_
  (first | refine wpAny_bind (wpAny_typeNameOfWhole_keyiter hit.typeIs (wpAny_pure ?_)) | refine wpAny_bind (wpAny_typeNameOf_keyiter hit.typeIs (wpAny_pure ?_))); refine wpAny_bind (wpAny_fieldsOf hio idt ?_)
  have hown : Builtin.Dict_items.ownsTuple "dict_keyiterator" = false := (by decide); simp only [hown, Bool.false_eq_true, if_false]; show wpAny _ _ (if (Value.ref d == Value.none) = true then _ else _) _ _ s
  rw [if_neg (show ¬ ((Value.ref d == Value.none) = true) from Bool.false_ne_true)]; refine wpAny_bind (wpAny_pure ?_); refine wpAny_bind (wpAny_dictEntries ho da ?_); rw [if_neg (by simp)]
  refine wpAny_bind (wpAny_pure ?_); refine wpAny_bind (wpAny_dictEpoch ho da ?_); rw [if_neg (by simp)]; refine wpAny_pure ?_
  simp only [show ¬ ((i : Int) < 0) from by lia, if_false, Int.toNat_natCast, Array.getElem?_eq_none hi]; refine wpAny_bind ?_
  (first | refine wpAny_bind (wpAny_typeNameOfWhole_keyiter hit.typeIs (wpAny_pure ?_)) | refine wpAny_bind (wpAny_typeNameOf_keyiter hit.typeIs (wpAny_pure ?_)))
  show wpAny _ _ (setField (.ref it) 0 .none >>= _) _ _ s; refine wpAny_bind (wpAny_setField hio idt (by simp) ?_); show wpAny _ _ (newExc (.type "StopIteration") [] >>= _) _ _ _; refine wpAny_bind ?_
  simp only [newExc, newTuple]; refine wpAny_bind (wpAny_newObj_type ?_ (by size_fits)); refine wpAny_bind (m := firstArgMember _ _) (wpAny_of_eq (a := Value.none) (by first | rfl | (simp only [firstArgMember]; rfl)) ?_)
  refine wpAny_newObj_type ?_ (by size_fits); simp only [raiseNew]; refine wpAny_bind (wpAny_handled ?_); rw [show A.in1.handled = none from hh]; refine wpAny_bind (wpAny_pure (wpAny_throw ?_))
  refine wpAny_bind (wpAny_isInstance (T := "StopIteration") (b := true) ⟨_, Heap.get?_push_size _ rfl, rfl⟩ isSubtype_stop ?_); exact wpAny_pure (q _ (((Heap.SameBut.update ..).extBut.push _).push _))
end
end L2

namespace L2
open PySem PySem.Spec PyProof.Rows
section
variable {X : Cx}
def CDivB (i j : Int) : Prop := 0 < j ∧ j < 2 ^ 64
theorem op_fdivB : OpR X (binaryOp .FloorDiv) (rI CDivB fun i j => .int (i / j)) := opI fun i j _ _ _ _ _ hc q => by
  have h1 : (0 : Int) < j := hc.1
  have h2 : j < 2 ^ 64 := hc.2
  refine floordiv_int (by lia) (by rw [Int.fdiv_eq_ediv_of_nonneg i (by lia)]; exact q) (.inl (PyProof.noPylong_of_log2 ?_))
  have h3 : j.natAbs < 2 ^ 64 := by lia
  exact Nat.lt_of_lt_of_le ((Nat.log2_lt (by lia)).mpr h3) (by decide)
end
theorem gtriple {K : PySem.W.Frag} {i j k : Nat} {T : Addr} {x y z : V} {σ : St} {H : Hp} {Q : St → Hp → Prop} (h : H T = some (.tup [x, y, z])) (q : Q (((σ.set i (some x)).set j (some y)).set k (some z)) H) : gTup K 3 (gCons (gName i) (gCons (gName j) (gCons (gName k) gNil))) (.ref T) σ H Q :=
  ⟨T, _, rfl, SqT.of h, rfl, x, _, rfl, y, _, rfl, z, _, rfl, rfl, q⟩
end L2

namespace L2
open PySem PySem.W PyProof.Rows
section
variable {rk : Nat → Int} {n : Nat}
structure PermN (n : Nat) (p : Array Nat) : Prop where
  sz : p.size = n
  pm : p.Perm (List.range n).toArray
def kk (rk : Nat → Int) (p : Array Nat) (i : Nat) : Int := rk (p.getD i 0)
def Up (rk : Nat → Int) (p : Array Nat) (m : Nat) : Prop := ∀ i j, i ≤ j → j < m → kk rk p i ≤ kk rk p j
end
end L2

namespace L2
open PySem PySem.W PySem.Spec PyProof.Rows
def lexI : List Int → List Int → Bool
  | [], [] => false
  | [], _ :: _ => true
  | _ :: _, [] => false
  | a :: as, b :: bs => if a = b then lexI as bs else decide (a < b)
theorem lexI_irr : ∀ a, lexI a a = false
  | [] => rfl
  | a :: as => by unfold lexI; rw [if_pos rfl]; exact lexI_irr as
theorem lexI_neg : ∀ {a b c : List Int}, lexI a c = true → lexI a b = true ∨ lexI b c = true
  | [], [], _, h => .inr h
  | [], _ :: _, _, _ => .inl rfl
  | _ :: _, _, [], h => by cases h
  | a :: as, [], c :: cs, _ => .inr rfl
  | a :: as, b :: bs, c :: cs, h => by
    unfold lexI at h ⊢
    by_cases ac : a = c
    · subst ac
      rw [if_pos rfl] at h
      by_cases ab : a = b
      · subst ab
        rw [if_pos rfl, if_pos rfl]
        exact lexI_neg h
      · rw [if_neg ab, if_neg (fun z => ab z.symm)]
        rcases Int.lt_or_gt_of_ne ab with z | z
        · exact .inl (decide_eq_true z)
        · exact .inr (decide_eq_true z)
    · rw [if_neg ac] at h
      have h := of_decide_eq_true h
      by_cases ab : a = b
      · subst ab
        rw [if_neg ac]
        exact .inr (decide_eq_true h)
      · rw [if_neg ab]
        by_cases z : a < b
        · exact .inl (decide_eq_true z)
        · by_cases bc : b = c
          · lia
          · rw [if_neg bc]
            exact .inr (decide_eq_true (by lia))
theorem lexI_tri : ∀ {a b : List Int}, lexI a b = false → lexI b a = false → a = b
  | [], [], _, _ => rfl
  | [], _ :: _, h, _ => by cases h
  | _ :: _, [], _, h => by cases h
  | a :: as, b :: bs, h, h' => by
    unfold lexI at h h'
    by_cases ab : a = b
    · subst ab
      rw [if_pos rfl] at h h'
      rw [lexI_tri h h']
    · rw [if_neg ab] at h
      rw [if_neg (fun z => ab z.symm)] at h'
      have := of_decide_eq_false h
      have := of_decide_eq_false h'
      lia
theorem lexI_asy {a b : List Int} (h : lexI a b = true) : lexI b a = false := by
  cases e : lexI b a with
  | false => rfl
  | true =>
    rcases lexI_neg (b := b) (show lexI a b = true from h) with z | z
    · -- both ways: through a
      have : lexI a a = true ∨ lexI a a = false := by cases lexI a a <;> simp
      exact absurd (lexI_two h e) (by simp)
    · rw [lexI_irr] at z
      cases z
where lexI_two : ∀ {a b : List Int}, lexI a b = true → lexI b a = true → false = true
  | [], [], h, _ => h
  | [], _ :: _, _, h => h
  | _ :: _, [], h, _ => h
  | a :: as, b :: bs, h, h' => by
    unfold lexI at h h'
    by_cases ab : a = b
    · subst ab
      rw [if_pos rfl] at h h'
      exact lexI_two h h'
    · rw [if_neg ab] at h
      rw [if_neg (fun z => ab z.symm)] at h'
      have := of_decide_eq_true h
      have := of_decide_eq_true h'
      lia
def rkOf (rows : List (List Int)) (i : Nat) : Int := ((rows.countP fun r => lexI r (rows.getD i []) : Nat) : Int)
theorem countP_lt {α : Type} {p q : α → Bool} : ∀ {l : List α} {x : α}, x ∈ l → (∀ y, p y = true → q y = true) → p x = false → q x = true → l.countP p < l.countP q
  | y :: l, x, hx, h, hp, hq => by
    rw [List.countP_cons, List.countP_cons]
    have le : l.countP p ≤ l.countP q := List.countP_mono_left fun z _ => h z
    rcases List.mem_cons.mp hx with rfl | hx
    · rw [hp, hq]
      simp only [Bool.false_eq_true, if_false, if_true]
      lia
    · have := countP_lt hx h hp hq
      by_cases py : p y = true
      · rw [py, h y py]
        lia
      · rw [if_neg py]
        split <;> lia
theorem rk_iff {rows : List (List Int)} {i j : Nat} (hi : i < rows.length) : decide (rkOf rows i < rkOf rows j) = lexI (rows.getD i []) (rows.getD j []) := by
  have mi : rows.getD i [] ∈ rows := by
    rw [List.getD_eq_getElem?_getD, List.getElem?_eq_getElem hi]
    exact List.getElem_mem hi
  unfold rkOf
  generalize rows.getD i [] = a at *
  generalize rows.getD j [] = b
  cases h : lexI a b with
  | true =>
    refine decide_eq_true ?_
    have := countP_lt (p := fun r => lexI r a) (q := fun r => lexI r b) mi (fun y hy => ?_) (lexI_irr a) h
    · lia
    · rcases lexI_neg (b := b) hy with z | z
      · exact z
      · rw [lexI_asy h] at z
        cases z
  | false =>
    refine decide_eq_false ?_
    have := List.countP_mono_left (l := rows) (p := fun r => lexI r b) (q := fun r => lexI r a) fun y _ hy => ?_
    · lia
    · rcases lexI_neg (b := a) hy with z | z
      · exact z
      · rw [h] at z
        cases z
section
variable {prog : Program} {w : World} {A : Around} {E : Value → Shared → Prop}
theorem lex_ask {b : Bool} {Q : Bool → Shared → Prop} {s : Shared} : ∀ {xs ys : List Int} {us vs : List Value} {i : Nat}, Vals (xs.map V.int) us → Vals (ys.map V.int) vs → Q (lexI xs ys) s → KatLex prog w A b (decide (xs.length < ys.length)) Q (us.zip vs) i s
  | [], [], _, _, i, .nil, .nil, q => q
  | [], y :: ys, _, _, i, .nil, .cons _ _, q => by
    show Q (decide (0 < ys.length + 1)) s
    rw [decide_eq_true (Nat.succ_pos _)]
    exact q
  | x :: xs, [], _, _, i, .cons _ _, .nil, q => by
    show Q (decide (xs.length + 1 < 0)) s
    rw [decide_eq_false (Nat.not_lt_zero _)]
    exact q
  | x :: xs, y :: ys, u :: us, v :: vs, i, .cons r1 t1, .cons r2 t2, q => by
    obtain ⟨t, rfl⟩ := (show ∃ t, u = .int x t from r1)
    obtain ⟨t', rfl⟩ := (show ∃ t, v = .int y t from r2)
    refine wpAny_eqBool_int ?_
    unfold lexI at q
    by_cases e : x = y
    · subst e
      rw [if_pos rfl] at q
      simp only [beq_self_eq_true, if_true]
      have h := lex_ask (b := b) (i := i + 1) t1 t2 q
      rw [show decide ((x :: xs).length < (x :: ys).length) = decide (xs.length < ys.length) by simp]
      exact h
    · rw [if_neg e] at q
      have e' : (x == y) = false := by simpa using e
      simp only [e', Bool.false_eq_true, if_false]
      cases b && i == 0 with
      | true => exact oneLt_int q
      | false =>
        exact kat_one _ _ (wpAny_lt_int q)
end
section
variable {X : Cx}
theorem tups_at {H : Hp} {h : Heap} (ok : HOk X.prog X.w H h) {items : List (Addr × List Int)} (hq : ∀ q ∈ items, H q.1 = some (.tup (q.2.map V.int)) ∧ q.2 ≠ []) {i : Nat} (hi : i < items.length) :
    ∃ (b : Addr) (o : Obj) (us : List Value) (m : Nat), (items.map fun q => Value.ref q.1).getD i Value.none = .ref b ∧ h.get? b = some o ∧ o.cls = .type "tuple" ∧ o.data = .seq us.toArray m ∧ Vals (((items.map (·.2)).getD i []).map V.int) us := by
  have hm := List.getElem_mem hi
  obtain ⟨h1, h2⟩ := hq _ hm
  obtain ⟨_, its, r, o, e, c, n, d⟩ := (show ObjOk X.prog X.w H h _ (.tup _) from ok _ _ h1)
  refine ⟨_, o, its, n, ?_, e, c, d, ?_⟩
  · rw [List.getD_eq_getElem?_getD, List.getElem?_map, List.getElem?_eq_getElem hi]
    rfl
  · rw [List.getD_eq_getElem?_getD, List.getElem?_map, List.getElem?_eq_getElem hi]
    exact r
theorem firsts_at {H : Hp} {h : Heap} (ok : HOk X.prog X.w H h) : ∀ {items : List (Addr × List Int)}, (∀ q ∈ items, H q.1 = some (.tup (q.2.map V.int)) ∧ q.2 ≠ []) → ∃ fs : List Value, KatTups h (items.map fun q => Value.ref q.1) fs ∧ fs.length = items.length ∧ ∀ v ∈ fs, ∃ x t, v = .int x t
  | [], _ => ⟨[], .nil, rfl, fun v hv => nomatch hv⟩
  | q :: items, hq => by
    obtain ⟨fs, h1, h2, h3⟩ := firsts_at ok fun q' hq' => hq q' (List.mem_cons_of_mem _ hq')
    obtain ⟨e, ne⟩ := hq q (List.mem_cons_self ..)
    obtain ⟨_, its, r, o, e1, c, n, d⟩ := (show ObjOk X.prog X.w H h _ (.tup _) from ok _ _ e)
    match hx : q.2, ne with
    | x :: xs, _ =>
      rw [hx] at r
      cases r with
      | @cons _ u _ us r1 r2 =>
        obtain ⟨t, rfl⟩ := (show ∃ t, u = .int x t from r1)
        refine ⟨.int x t :: fs, .cons e1 c d (by simp) h1, by rw [List.length_cons, List.length_cons, h2], fun v hv => ?_⟩
        rcases List.mem_cons.mp hv with rfl | hv
        · exact ⟨x, t, rfl⟩
        · exact h3 v hv
def RowsUp : List (Addr × List Int) → Prop := List.Pairwise fun p q => lexI q.2 p.2 = false
end
end L2

namespace L2
open PySem PySem.Spec PyProof.Rows
section
variable {X : Cx}
end
end L2

namespace L2
open PySem PySem.W PySem.Spec PyProof.Rows
section
variable {prog : Program} {w : World} {A : Around} {E : Value → Shared → Prop} {s : Shared} {r d : Addr} {o : Obj} {es : Array DictEntry} {ep : Nat}
theorem meets_keysR (d : Addr) (hd : (d == sysModules) = false) : MeetsIn prog w (Builtin.«dict.keys» ⟨[.ref d], []⟩) (fun _ R s => s.TypeIs (.ref d) "dict" ∧ R (.ok (.ret (.ref s.heap.objs.size))) { s with heap := s.heap.push { cls := .type "dict_keys", data := .fields #[.ref d] } }) :=
  .of_wp fun A R s hx => by
    obtain ⟨hT, q⟩ := hx
    refine wpAny_bind ?_; unfold Builtin.Dict.noArgs; refine wpAny_bind (wpAny_notOrdered_dict hT ?_); show wpAny _ _ (pure d) _ _ s; refine wpAny_pure ?_
    show wpAny _ _ (Builtin.Dict.showsAll d >>= _) _ _ s; unfold Builtin.Dict.showsAll; rw [if_neg (by rw [hd]; exact Bool.false_ne_true)]
    exact wpAny_bind (wpAny_pure (wpAny_bind (wpAny_newObj_type (wpAny_pure ⟨_, rfl, q⟩))))
theorem iter_keysR {Q : Value → Shared → Prop} (hv : KdlKeysView s.heap r d) (ho : s.heap.get? d = some o) (da : o.data = .dict es ep)
    (q : Q (.ref s.heap.objs.size) { s with heap := s.heap.push { cls := .type "dict_keyiterator", data := .fields #[.ref d, .int 0 0, .int es.size 0, .int ep 0] } }) : wpAny (model prog w) A (pyIter (.ref r)) Q E s := by
  obtain ⟨ov, e1, e2, e3⟩ := id hv
  refine wpAny_pyIter_slot hv.typeIs kdl_slot_keys_iter (wpAny_call_entry kdl_slot_keys_iter hv.typeIs kdl_entry_keys_iter ?_ (kdl_args_keys_iter _)); unfold Builtin.«dict_keys.__iter__»; refine wpAny_bind (wpAny_pure (wpAny_bind ?_))
  unfold Builtin.Dict_items.dictOf; refine wpAny_bind (wpAny_field e1 e3 (x := .ref d) rfl (wpAny_pure (wpAny_bind ?_))); unfold Builtin.Dict_items.newIterator; refine wpAny_bind (wpAny_dictEntries ho da (wpAny_bind (wpAny_dictEpoch ho da ?_)))
  have hown : Builtin.Dict_items.ownsTuple "dict_keyiterator" = false := (by decide); simp only [hown, Bool.false_eq_true, if_false]
  refine wpAny_newObj_type (wpAny_pure ⟨_, rfl, "dict_keyiterator", _, ⟨_, Heap.get?_push_size _ rfl, rfl⟩, PySem.F.slot_dict_keyiterator_next.lookup, ?_⟩); simpa [rawInt] using q
theorem walks_raw (hh : A.handled = none) (I : Addr) (hne : d ≠ I) (da : o.data = .dict es ep) : Walks prog w A I [I, d] [I] es.size (fun i v => ∃ h : i < es.size, v = es[i].key) (fun i h => h.IsKeyIter I d i es.size ep ∧ h.get? d = some o) where
  sub := fun b hb => by simp at hb; simp [hb]
  frame := fun i h h' st hk => ⟨st.1.at fun u e => hk I (by simp) u e, hk d (by simp) _ st.2⟩
  item := fun i s Q E hi st q => raw_next st.1 st.2 da hi fun h' st' sb => q _ h' s.toks ⟨hi, rfl⟩ ⟨st', (sb.2 d hne).trans st.2⟩ fun b u hb e => (sb.2 b (fun z => hb (by simp [z]))).trans e
  done := fun s Q E st q => raw_end hh st.1 st.2 da (Nat.le_refl _) fun h' eb => q h' s.toks fun b u hb e => eb b u (fun z => hb (by simp [z])) e
  self := fun i s Q E st q => wpAny_pyIter_keyiter st.1 q
theorem src_keysR (da : o.data = .dict es ep) : KdlSrc prog w "dict_keys" r d es.size (fun i v => ∃ h : i < es.size, v = es[i].key) (fun h => KdlKeysView h r d ∧ h.get? d = some o) where
  type := fun s hm => hm.1.typeIs
  there := fun h hm => ⟨let ⟨_, e, _⟩ := hm.1; Heap.lt_size e, Heap.lt_size hm.2⟩
  keep := fun h h' hm hk => ⟨let ⟨u, e, x⟩ := hm.1; ⟨u, hk r (.inl rfl) u e, x⟩, hk d (.inr rfl) _ hm.2⟩
  notList := by decide
  notTuple := by decide
  hint := fun A E s Q hm hq => kdl_hint_keys hm.1.typeIs hq
  iter := fun A s hh hm => ⟨_, _, (fun E Q hq => iter_keysR hm.1 hm.2 da hq), walks_raw hh _ (Nat.ne_of_lt (Heap.lt_size hm.2)) da, ⟨⟨_, Heap.get?_push_size _ rfl, rfl, rfl⟩, Heap.get?_push_of_some _ hm.2⟩⟩
end
structure M0 (X : Cx) (o : Expr) (m : Str) (apos : Pos) (cpos : Pos) : Prop where
  base : attributeBase o m X.env (eval o X.env) = eval o X.env
  few : ((backTo cpos (starEach [] X.env)).all (fun x => !x.1) && (backToKw cpos (keywordEach [] X.env)).all (fun x => x.1.isSome) && decide (([] : List Expr).length + ([] : List Keyword).length + (if ([] : List Keyword).isEmpty then 0 else 1) < 30)) = true
  line : (apos.endLine == cpos.line) = true
  trees : backTo cpos (starEach [] X.env) = []
def keysV (v d : Addr) : Heap → Prop := fun h => KdlKeysView h v d
def tDKeys (td : TE) : TE := fun σ H Q => td σ H fun x H1 => ∃ a kvs, x = .ref a ∧ Rd H1 a (.dT kvs) ∧ ∀ v, H1 v = none → Q (.ref v) (upd H1 v (.ext (keysV v a)))
section
variable {X : Cx} {o : Expr} {apos cpos : Pos} {td : TE}
theorem pe_dkeys (ho : PE X o td) (m : M0 X o "keys" apos cpos) : PE X (.Call (.Attribute o "keys" apos) [] [] cpos) (tDKeys td) := by
  intro pins s σ H Q I h
  refine wpAny_Call_method m.base m.few m.line PySem.F.plainAttrs_dict PySem.F.slot_dict_keys PySem.F.type_dict_keys (thn (ho pins s σ H _ I h) fun u s1 ⟨x, H1, I1, rx, a, kvs, ex, d, q1⟩ => ?_)
  subst ex
  obtain rfl : u = Value.ref a := rx
  obtain ⟨t1, t2, t3⟩ := isD_at I1 (.inr ⟨kvs, d⟩)
  refine ⟨t1, t2, ?_⟩
  rw [m.trees]
  refine Calls.callWith_builtin rfl (PyProof.Rows.evalArgs_nil3 ?_)
  refine call_meetsIn PySem.F.slot_dict_keys t1 PySem.F.entry_dict_keys (PySem.F.args_dict_keys_1 _) (meets_keysR a t3) ⟨t1, .ref s1.heap.objs.size, upd H1 s1.heap.objs.size (.ext (keysV s1.heap.objs.size a)), ?_, rfl, q1 _ (I1.hok.fresh (Nat.le_refl _))⟩
  refine I1.laid (t' := s1.toks) (fun b o e => Heap.get?_push_of_some _ e) (Nat.le_refl _) ⟨⟨_, Heap.get?_push_size _ rfl, rfl, rfl⟩, ⟨_, Heap.get?_push_size _ rfl⟩, fun h1 h2 hp hk => ?_⟩
  obtain ⟨u, e, x⟩ := hp
  exact ⟨u, hk u e, x⟩
end
section
variable {X : Cx}
end
end L2

namespace L2
open PySem PySem.W PySem.Spec PyProof.Rows
end L2

namespace L2
open PySem PySem.Spec PyProof.Rows
section
variable {X : Cx} {CX : CXT} {k : Nat} {ps : List Str} {sp : Sp} {E : XK} {x : Str} {p pos : Pos} {e : Expr} {es : List Expr} {t : TA} {S : St → Prop}
end
section
variable {X : Cx}
end
end L2

namespace L2
open PySem PySem.Spec PyProof.Rows
section
variable {X : Cx}
end
end L2

namespace L2
open PySem PySem.Spec PyProof.Rows
section
variable {X : Cx}
end
end L2

namespace L2
open PySem PySem.Spec PyProof.Rows
section
variable {X : Cx}
end
end L2

namespace L2
open PySem PySem.W PySem.Spec PyProof.Rows
def spRow : Sp := fun vs H Q _ => ∃ (t : Addr) (x y : Int) (r : List Int), vs = [.ref t] ∧ H t = some (.tup ((x :: y :: r).map V.int)) ∧ ∀ u, H u = none → Q (.ref u) (upd H u (.tup [.int y, .int x]))
structure It3 where
  a : Addr
  x : Int
  y : Int
  r : List Int
def It3.ns (q : It3) : List Int := q.x :: q.y :: q.r
section
variable {X : Cx} {pins : List (Addr × Obj)} {σ : St} {H H' : Hp} {s : Shared} {k : Nat} {f b : Addr} {fd : FuncData} {ps : List Str}
theorem FpOk.stay (fp : FpOk X pins H b) (hn : H' b = none) : FpOk X pins H' b := ⟨hn, fp.2⟩
theorem FpOk.turn {h' : Heap} {t' : Nat} (fp : FpOk X pins H b) (I : Inv X pins σ H s) (kp : ∀ c o, c ≠ b → s.heap.get? c = some o → h'.get? c = some o) : Inv X pins σ H { s with heap := h', toks := t' } :=
  I.turned kp fp.1 fp.2.1 fp.2.2.2.1 fp.2.2.2.2.1 fp.2.2.2.2.2
theorem FpOk.nost (fp : FpOk X pins H b) (I : Inv X pins σ H s) : b ∉ frs X.stack := fun z => by
  rcases List.mem_cons.mp (I.stkSub b z) with y | y
  · exact fp.2.1 y
  · exact fp.2.2.1 y
theorem keyTail {A2 : Around} {P : PySem.Fin → Shared → Prop} {E : Value → Shared → Prop} (I : Inv X pins σ H s) {a kS : Addr} {e1 c : Nat} {ks out : Array Value} {st : SortSt} (fa : FpOk X pins H a) (fS : FpOk X pins H kS) (nka : kS ≠ a) (hk : s.heap.get? kS = some (seqObj "list" ks c)) (ha : s.heap.get? a = some (seqObj "list" #[] e1)) (eo : (arrOf st).map (·.2) = out) (hf : failedOf st = none) (hz : out.size ≤ sizeLine) (kz : ks.size ≤ sizeLine)
    (fin : ∀ (h' : Heap) (c' : Nat), Inv X pins σ H { s with heap := h' } → h'.get? a = some (seqObj "list" out c') → P (.done (.ret .none)) { s with heap := h' }) : wpAny (model X.prog X.w) A2 (ksk_tail a false e1 (.ref kS) st) P E s := by
  unfold ksk_tail
  have I1 : Inv X pins σ H { s with heap := s.heap.update kS (Obj.mapSeq fun _ => #[]) } := fS.turn (t' := s.toks) I fun b o hb e => by rw [Heap.get?_update_ne _ _ _ _ hb]; exact e
  have ha1 : (s.heap.update kS (Obj.mapSeq fun _ => #[])).get? a = some (seqObj "list" #[] e1) := by rw [Heap.get?_update_ne _ _ _ _ (Ne.symm nka)]; exact ha
  refine wpAny_bind (listUpdate_at hk rfl (wpAny_bind (wpAny_letGo (wpAny_bind (seqEpoch_at ha1 rfl (wpAny_bind (listUpdate_at ha1 rfl ?_ (hsz2 := ?_))))))) (hsz := kz))
  · rw [hf]
    simp only [bne_self_eq_false, Bool.false_eq_true, if_false]
    rw [eo]
    refine wpAny_pure (fin _ _ (fa.turn (s := { s with heap := s.heap.update kS (Obj.mapSeq fun _ => #[]) }) (t' := s.toks) I1 fun b o hb e => by rw [Heap.get?_update_ne _ _ _ _ hb]; exact e) (get?_update_seq ha1 _))
  · simp only [Bool.false_eq_true, if_false]
    rw [eo]
    exact Nat.le_succ_of_le hz
end
end L2

namespace PyProof.Rows
open PySem
def gallopP : Bool → Keyed → Array Keyed → Nat → Nat → Nat → StateT SortSt Sem (Option Nat) := sortPriv% PySem.Builtin.gallop
section
variable {prog : Program} {w : World} {A : Around} {E : Value → Shared → Prop} {s : Shared}
def beyE (left : Bool) (key : Keyed) (arr : Array Keyed) (base i : Nat) : StateT SortSt Sem (Option Bool) := elem' arr (base + i) >>= fun x => if left = true then lt' x key else lt' key x >>= fun r => pure (r.map fun b => !b)
def BeyOk (prog : Program) (w : World) (A : Around) (E : Value → Shared → Prop) (s : Shared) (left : Bool) (key : Keyed) (st : SortSt) (x : Keyed) (b : Bool) : Prop :=
  (left = true → ∀ Q : Option Bool → SortSt → Prop, Q (some b) st → wpS (model prog w) A E s (lt' x key) Q st) ∧ (left = false → ∀ Q : Option Bool → SortSt → Prop, Q (some (!b)) st → wpS (model prog w) A E s (lt' key x) Q st)
theorem bey_ok {left : Bool} {key : Keyed} {arr : Array Keyed} {base n i : Nat} {st : SortSt} {B : Nat → Bool} {Q : Option Bool → SortSt → Prop} (hz : base + n ≤ arr.size) (hB : ∀ i x, i < n → arr[base + i]? = some x → BeyOk prog w A E s left key st x (B i)) (hi : i < n) (h : Q (some (B i)) st) : wpS (model prog w) A E s (beyE left key arr base i) Q st := by
  unfold beyE
  have hl : base + i < arr.size := by omega
  refine wpS_bind ?_
  rw [elem'_eq, Array.getElem?_eq_getElem hl]
  refine wpS_pure ?_
  obtain ⟨h1, h2⟩ := hB i arr[base + i] hi (Array.getElem?_eq_getElem hl)
  cases left with
  | true =>
    rw [if_pos rfl]
    exact h1 rfl _ h
  | false =>
    rw [if_neg (by simp)]
    refine wpS_bind (h2 rfl _ (wpS_pure ?_))
    show Q (some (!!B i)) st
    rw [Bool.not_not]
    exact h
theorem up_ok {γ : Type} {f : Nat → (Option γ × Nat × Nat) → StateT SortSt Sem (ForInStep (Option γ × Nat × Nat))} {m n : Nat} {C : Nat → Bool} {st : SortSt} (h1 : m ≤ n + 1)
    (hs : ∀ x l o Q', (m ≤ o → Q' (.done (none, l, o)) st) → (o < m → C o = true → Q' (.yield (none, o, 2 * o + 1)) st) → (o < m → C o = false → Q' (.done (none, l, o)) st) → wpS (model prog w) A E s (f x (none, l, o)) Q' st) :
    wpS (model prog w) A E s (forIn [0:n] (none, 0, 1) f) (fun r st' => st' = st ∧ ∃ l o, r = (none, l, o) ∧ l < o ∧ (l = 0 ∨ (l < m ∧ C l = true)) ∧ (m ≤ o ∨ C o = false)) st := by
  refine wpS_forRange (I := fun x r st' => st' = st ∧ ∃ l o, r = (none, l, o) ∧ x < o ∧ l < o ∧ (l = 0 ∨ (l < m ∧ C l = true))) ?_ ?_ ⟨rfl, 0, 1, rfl, by omega, by omega, .inl rfl⟩
  · rintro x c st' _ _ ⟨rfl, l, o, rfl, hx, hl, hc⟩
    refine hs x l o _ (fun z => ?_) (fun z y => ?_) (fun z y => ?_)
    · exact ⟨rfl, l, o, rfl, hl, hc, .inl z⟩
    · exact ⟨rfl, o, 2 * o + 1, rfl, by omega, by omega, .inr ⟨z, y⟩⟩
    · exact ⟨rfl, l, o, rfl, hl, hc, .inr y⟩
  · rintro c st' ⟨rfl, l, o, rfl, hx, hl, hc⟩
    exact ⟨rfl, l, o, rfl, hl, hc, .inl (by omega)⟩
theorem bin_ok {γ : Type} {f : Nat → (Option γ × Nat × Nat) → StateT SortSt Sem (ForInStep (Option γ × Nat × Nat))} {n lo hi : Nat} {B : Nat → Bool} {st : SortSt} (hn : hi ≤ n) (hl : lo ≤ hi) (mono : ∀ i j, i ≤ j → j < n → B j = true → B i = true) (h1 : ∀ i, i < lo → B i = true) (h2 : ∀ i, hi ≤ i → i < n → B i = false)
    (hs : ∀ x l h Q', (h ≤ l → Q' (.done (none, l, h)) st) → (l < h → h ≤ n → B (l + (h - l) / 2) = true → Q' (.yield (none, l + (h - l) / 2 + 1, h)) st) → (l < h → h ≤ n → B (l + (h - l) / 2) = false → Q' (.yield (none, l, l + (h - l) / 2)) st) → (l < h → h ≤ n) → wpS (model prog w) A E s (f x (none, l, h)) Q' st) :
    wpS (model prog w) A E s (forIn [0:n] (none, lo, hi) f) (fun r st' => st' = st ∧ ∃ l h, r = (none, l, h) ∧ h ≤ n ∧ (∀ i, i < h → B i = true) ∧ (∀ i, h ≤ i → i < n → B i = false)) st := by
  refine wpS_forRange (I := fun x r st' => st' = st ∧ ∃ l h, r = (none, l, h) ∧ l ≤ h ∧ h - l ≤ n - x ∧ h ≤ n ∧ (∀ i, i < l → B i = true) ∧ (∀ i, h ≤ i → i < n → B i = false)) ?_ ?_ ⟨rfl, lo, hi, rfl, hl, by omega, hn, h1, h2⟩
  · rintro x c st' _ hx ⟨rfl, l, h, rfl, lh, me, hh, i1, i2⟩
    refine hs x l h _ (fun z => ?_) (fun z _ y => ?_) (fun z _ y => ?_) (fun _ => hh)
    · exact ⟨rfl, l, h, rfl, hh, fun i hi => i1 i (by omega), i2⟩
    · exact ⟨rfl, _, h, rfl, by omega, by omega, hh, fun i hi => mono i _ (by omega) (by omega) y, i2⟩
    · refine ⟨rfl, l, _, rfl, by omega, by omega, by omega, i1, fun i hi hn => ?_⟩
      cases e : B i with
      | false => rfl
      | true => rw [mono _ i hi hn e] at y; cases y
  · rintro c st' ⟨rfl, l, h, rfl, lh, me, hh, i1, i2⟩
    exact ⟨rfl, l, h, rfl, hh, fun i hi => i1 i (by omega), i2⟩
theorem gallop_ok {left : Bool} {key : Keyed} {arr : Array Keyed} {base n hint : Nat} {st : SortSt} {B : Nat → Bool} {Q : Option Nat → SortSt → Prop} (hz : base + n ≤ arr.size) (hh : hint < n) (hB : ∀ i x, i < n → arr[base + i]? = some x → BeyOk prog w A E s left key st x (B i)) (mono : ∀ i j, i ≤ j → j < n → B j = true → B i = true) (k : ∀ h, h ≤ n → (∀ i, i < h → B i = true) → (∀ i, h ≤ i → i < n → B i = false) → Q (some h) st) : wpS (model prog w) A E s (gallopP left key arr base n hint) Q st := by
  have monoF : ∀ i j, i ≤ j → j < n → B i = false → B j = false := fun i j h1 h2 z => by
    cases e : B j with
    | false => rfl
    | true => rw [mono i j h1 h2 e] at z; cases z
  refine wpS_bind ?_
  refine bey_ok (i := hint) hz hB hh ?_
  dsimp only
  cases hb : B hint with
  | true =>
    rw [if_pos rfl]
    refine wpS_bind (wpS_mono (up_ok (m := n - hint) (C := fun o => B (hint + o)) (by omega) ?_) ?_)
    · intro x l o Q' q1 q2 q3
      dsimp only
      by_cases z : o ≥ n - hint
      · rw [if_pos z]
        exact wpS_pure (q1 z)
      rw [if_neg z]
      refine wpS_bind (bey_ok (i := hint + o) hz hB (by omega) ?_)
      dsimp only
      cases e : B (hint + o) with
      | true => exact wpS_pure (q2 (by omega) e)
      | false => exact wpS_pure (q3 (by omega) e)
    · rintro r st' ⟨rfl, l, o, rfl, lo, hl, ho⟩
      dsimp only
      refine wpS_bind (wpS_mono (bin_ok (lo := hint + l + 1) (hi := hint + min o (n - hint)) (by omega) ?_ mono ?_ ?_ ?_) ?_)
      · rcases hl with z | z <;> omega
      · intro i hi
        rcases hl with z | z
        · exact mono i hint (by omega) hh hb
        · exact mono i (hint + l) (by omega) (by omega) z.2
      · intro i hi hn
        rcases ho with z | z
        · omega
        · by_cases y : n - hint ≤ o
          · omega
          · exact monoF (hint + o) i (by omega) hn z
      · intro x l h Q' q1 q2 q3 q4
        dsimp only
        by_cases z : l ≥ h
        · rw [if_pos z]
          exact wpS_pure (q1 z)
        rw [if_neg z]
        have := q4 (by omega)
        refine wpS_bind (bey_ok (i := l + (h - l) / 2) hz hB (by omega) ?_)
        dsimp only
        cases e : B (l + (h - l) / 2) with
        | true => exact wpS_pure (q2 (by omega) this e)
        | false => exact wpS_pure (q3 (by omega) this e)
      · rintro r st' ⟨rfl, l', h, rfl, hn, i1, i2⟩
        exact wpS_pure (k h hn i1 i2)
  | false =>
    rw [if_neg (by simp)]
    refine wpS_bind (wpS_mono (up_ok (m := hint + 1) (C := fun o => !B (hint - o)) (by omega) ?_) ?_)
    · intro x l o Q' q1 q2 q3
      dsimp only
      by_cases z : o ≥ hint + 1
      · rw [if_pos z]
        exact wpS_pure (q1 z)
      rw [if_neg z]
      refine wpS_bind (bey_ok (i := hint - o) hz hB (by omega) ?_)
      dsimp only
      cases e : B (hint - o) with
      | true => exact wpS_pure (q3 (by omega) (by rw [e]; rfl))
      | false => exact wpS_pure (q2 (by omega) (by rw [e]; rfl))
    · rintro r st' ⟨rfl, l, o, rfl, lo, hl, ho⟩
      dsimp only
      have hlF : B (hint - l) = false := by
        rcases hl with z | z
        · rw [z]; exact hb
        · simpa using z.2
      refine wpS_bind (wpS_mono (bin_ok (lo := hint + 1 - min o (hint + 1)) (hi := hint - l) (by omega) ?_ mono ?_ ?_ ?_) ?_)
      · rcases hl with z | z <;> omega
      · intro i hi
        rcases ho with z | z
        · omega
        · by_cases y : hint + 1 ≤ o
          · omega
          · have z : B (hint - o) = true := by simpa using z
            exact mono i (hint - o) (by omega) (by omega) z
      · intro i hi hn
        exact monoF (hint - l) i hi hn hlF
      · intro x l h Q' q1 q2 q3 q4
        dsimp only
        by_cases z : l ≥ h
        · rw [if_pos z]
          exact wpS_pure (q1 z)
        rw [if_neg z]
        have := q4 (by omega)
        refine wpS_bind (bey_ok (i := l + (h - l) / 2) hz hB (by omega) ?_)
        dsimp only
        cases e : B (l + (h - l) / 2) with
        | true => exact wpS_pure (q2 (by omega) this e)
        | false => exact wpS_pure (q3 (by omega) this e)
      · rintro r st' ⟨rfl, l', h, rfl, hn, i1, i2⟩
        exact wpS_pure (k h hn i1 i2)
end
end PyProof.Rows

namespace PyProof.Rows
open PySem
def SoA (rk : Keyed → Nat) (a : Array Keyed) : Prop := ∀ (i j : Nat) (x y : Keyed), i ≤ j → a[i]? = some x → a[j]? = some y → rk x ≤ rk y
structure MI (rk : Keyed → Nat) (a b out : Array Keyed) (ia ib : Nat) : Prop where
  pm : out.toList.Perm (a.toList.take ia ++ b.toList.take ib)
  so : out.toList.Pairwise (fun x y => rk x ≤ rk y)
  ba : ∀ o ∈ out.toList, ∀ i x, ia ≤ i → a[i]? = some x → rk o ≤ rk x
  bb : ∀ o ∈ out.toList, ∀ i x, ib ≤ i → b[i]? = some x → rk o ≤ rk x
section
variable {rk : Keyed → Nat} {a b out : Array Keyed} {ia ib : Nat}
theorem MI.nil : MI rk a b #[] 0 0 := ⟨by simp, by simp, fun o h => by simp at h, fun o h => by simp at h⟩
theorem take_next {a : Array Keyed} {i : Nat} {x : Keyed} (h : a[i]? = some x) : a.toList.take (i + 1) = a.toList.take i ++ [x] := by
  rw [List.take_add_one, Array.getElem?_toList, h]
  rfl
theorem MI.pushA {x : Keyed} (h : MI rk a b out ia ib) (sa : SoA rk a) (e : a[ia]? = some x) (le : ∀ j y, ib ≤ j → b[j]? = some y → rk x ≤ rk y) : MI rk a b (out.push x) (ia + 1) ib := by
  have me : ∀ o, o ∈ (out.push x).toList → o ∈ out.toList ∨ o = x := fun o ho => by
    rw [Array.toList_push, List.mem_append, List.mem_singleton] at ho
    exact ho
  refine ⟨?_, ?_, fun o ho i y hi ey => ?_, fun o ho i y hi ey => ?_⟩
  · rw [Array.toList_push, take_next e, List.append_assoc]
    refine (h.pm.append_right _).trans ?_
    rw [List.append_assoc]
    exact List.Perm.append_left _ List.perm_append_comm
  · rw [Array.toList_push, List.pairwise_append]
    refine ⟨h.so, by simp, fun o ho y hy => ?_⟩
    rw [List.mem_singleton.mp hy]
    exact h.ba o ho ia x (Nat.le_refl _) e
  · rcases me o ho with z | rfl
    · exact h.ba o z i y (by omega) ey
    · exact sa ia i _ y (by omega) e ey
  · rcases me o ho with z | rfl
    · exact h.bb o z i y hi ey
    · exact le i y hi ey
theorem MI.pushB {x : Keyed} (h : MI rk a b out ia ib) (sb : SoA rk b) (e : b[ib]? = some x) (le : ∀ j y, ia ≤ j → a[j]? = some y → rk x ≤ rk y) : MI rk a b (out.push x) ia (ib + 1) := by
  have me : ∀ o, o ∈ (out.push x).toList → o ∈ out.toList ∨ o = x := fun o ho => by
    rw [Array.toList_push, List.mem_append, List.mem_singleton] at ho
    exact ho
  refine ⟨?_, ?_, fun o ho i y hi ey => ?_, fun o ho i y hi ey => ?_⟩
  · rw [Array.toList_push, take_next e, ← List.append_assoc]
    exact h.pm.append_right _
  · rw [Array.toList_push, List.pairwise_append]
    refine ⟨h.so, by simp, fun o ho y hy => ?_⟩
    rw [List.mem_singleton.mp hy]
    exact h.bb o ho ib x (Nat.le_refl _) e
  · rcases me o ho with z | rfl
    · exact h.ba o z i y hi ey
    · exact le i y hi ey
  · rcases me o ho with z | rfl
    · exact h.bb o z i y (by omega) ey
    · exact sb ib i _ y (by omega) e ey
theorem ext_next {a : Array Keyed} {i k : Nat} (h : i + k < a.size) : a.extract i (i + (k + 1)) = (a.extract i (i + k)).push a[i + k] := by
  apply Array.toList_inj.mp
  rw [Array.toList_push, Array.toList_extract, Array.toList_extract]
  simp only [List.extract, Nat.add_sub_cancel_left]
  rw [List.take_add_one]
  congr 1
  rw [List.getElem?_drop, Array.getElem?_toList, Array.getElem?_eq_getElem h]
  rfl
theorem MI.addA (sa : SoA rk a) (h : MI rk a b out ia ib) : ∀ {k : Nat}, ia + k ≤ a.size → (∀ i x, ia ≤ i → i < ia + k → a[i]? = some x → ∀ j y, ib ≤ j → b[j]? = some y → rk x ≤ rk y) → MI rk a b (out ++ a.extract ia (ia + k)) (ia + k) ib
  | 0, _, _ => by rw [Nat.add_zero, Array.extract_eq_empty_of_le (by omega), Array.append_empty]; exact h
  | k + 1, hk, le => by
    have hl : ia + k < a.size := by omega
    have := (MI.addA sa h (k := k) (by omega) (fun i x h1 h2 => le i x h1 (by omega))).pushA sa (Array.getElem?_eq_getElem hl) (le _ _ (by omega) (by omega) (Array.getElem?_eq_getElem hl))
    rw [ext_next hl, Array.append_push]
    exact this
theorem MI.addB (sb : SoA rk b) (h : MI rk a b out ia ib) : ∀ {k : Nat}, ib + k ≤ b.size → (∀ i x, ib ≤ i → i < ib + k → b[i]? = some x → ∀ j y, ia ≤ j → a[j]? = some y → rk x ≤ rk y) → MI rk a b (out ++ b.extract ib (ib + k)) ia (ib + k)
  | 0, _, _ => by rw [Nat.add_zero, Array.extract_eq_empty_of_le (by omega), Array.append_empty]; exact h
  | k + 1, hk, le => by
    have hl : ib + k < b.size := by omega
    have := (MI.addB sb h (k := k) (by omega) (fun i x h1 h2 => le i x h1 (by omega))).pushB sb (Array.getElem?_eq_getElem hl) (le _ _ (by omega) (by omega) (Array.getElem?_eq_getElem hl))
    rw [ext_next hl, Array.append_push]
    exact this
structure Mgd (rk : Keyed → Nat) (a b out : Array Keyed) : Prop where
  pm : out.toList.Perm (a.toList ++ b.toList)
  so : out.toList.Pairwise (fun x y => rk x ≤ rk y)
theorem MI.whole (h : MI rk a b out a.size b.size) : Mgd rk a b out := by
  refine ⟨?_, h.so⟩
  have := h.pm
  rw [show a.size = a.toList.length from Array.length_toList.symm, show b.size = b.toList.length from Array.length_toList.symm, List.take_length, List.take_length] at this
  exact this
theorem MI.doneA (sa : SoA rk a) (h : MI rk a b out ia b.size) (ha : ia ≤ a.size) : Mgd rk a b (out ++ a.extract ia a.size ++ b.extract b.size b.size) := by
  have h1 := MI.addA sa h (k := a.size - ia) (by omega) fun i x _ _ _ j y hj ey => by
    rw [Array.getElem?_eq_none (by omega)] at ey
    cases ey
  rw [show ia + (a.size - ia) = a.size by omega] at h1
  have e : b.extract b.size b.size = #[] := by simp
  rw [e, Array.append_empty]
  exact h1.whole
theorem MI.doneB (sb : SoA rk b) (h : MI rk a b out a.size ib) (hb : ib ≤ b.size) : Mgd rk a b (out ++ a.extract a.size a.size ++ b.extract ib b.size) := by
  have e : a.extract a.size a.size = #[] := by simp
  rw [e, Array.append_empty]
  have h1 := MI.addB sb h (k := b.size - ib) (by omega) fun i x _ _ _ j y hj ey => by
    rw [Array.getElem?_eq_none (by omega)] at ey
    cases ey
  rw [show ib + (b.size - ib) = b.size by omega] at h1
  exact h1.whole
theorem MI.lastA (sa : SoA rk a) (sb : SoA rk b) (h : MI rk a b out ia ib) (ha : ia ≤ a.size) (hb : ib ≤ b.size) (le : ∀ i x, ib ≤ i → b[i]? = some x → ∀ j y, ia ≤ j → a[j]? = some y → rk x ≤ rk y) : Mgd rk a b (out ++ b.extract ib b.size ++ a.extract ia a.size) := by
  have h1 := MI.addB sb h (k := b.size - ib) (by omega) fun i x h1 _ => le i x h1
  rw [show ib + (b.size - ib) = b.size by omega] at h1
  have h2 := MI.addA sa h1 (k := a.size - ia) (by omega) fun i x _ _ _ j y hj ey => by
    rw [Array.getElem?_eq_none (by omega)] at ey
    cases ey
  rw [show ia + (a.size - ia) = a.size by omega] at h2
  exact h2.whole
end
end PyProof.Rows

namespace PyProof.Rows
open PySem
section
variable {prog : Program} {w : World} {A : Around} {E : Value → Shared → Prop} {s : Shared} {rk : Keyed → Nat} {S : Keyed → Prop} {κ : SortKind}
def LtOk (prog : Program) (w : World) (A : Around) (E : Value → Shared → Prop) (s : Shared) (rk : Keyed → Nat) (S : Keyed → Prop) (κ : SortKind) : Prop := ∀ x y st (Q : Option Bool → SortSt → Prop), S x → S y → kindOf st = κ → Q (some (decide (rk x < rk y))) st → wpS (model prog w) A E s (lt' x y) Q st
def Stay (st st' : SortSt) : Prop := ∃ g, st' = SortSt.mk' (kindOf st) (arrOf st) (pendingOf st) g (failedOf st)
theorem Stay.refl (st : SortSt) : Stay st st := ⟨gallopOf st, rfl⟩
theorem Stay.kind {st st' : SortSt} (h : Stay st st') : kindOf st' = kindOf st := by
  obtain ⟨g, rfl⟩ := h
  rfl
theorem el_ok {arr : Array Keyed} {i : Nat} {x : Keyed} {st : SortSt} {Q : Keyed → SortSt → Prop} (e : arr[i]? = some x) (h : Q x st) : wpS (model prog w) A E s (elem' arr i) Q st := by
  rw [elem'_eq, e]
  exact wpS_pure h
theorem gal_right {key : Keyed} {arr : Array Keyed} {base n hint : Nat} {st : SortSt} {Q : Option Nat → SortSt → Prop} (hl : LtOk prog w A E s rk S κ) (hk : kindOf st = κ) (Sk : S key) (Sa : ∀ (i : Nat) x, base ≤ i → i < base + n → arr[i]? = some x → S x) (so : ∀ (i j : Nat) x y, base ≤ i → i ≤ j → j < base + n → arr[i]? = some x → arr[j]? = some y → rk x ≤ rk y) (hz : base + n ≤ arr.size) (hh : hint < n)
    (k : ∀ h, h ≤ n → (∀ (i : Nat) x, base ≤ i → i < base + h → arr[i]? = some x → rk x ≤ rk key) → (∀ (i : Nat) x, base + h ≤ i → i < base + n → arr[i]? = some x → rk key < rk x) → Q (some h) st) : wpS (model prog w) A E s (gallopP false key arr base n hint) Q st := by
  refine gallop_ok (B := fun i => (arr[base + i]?).any fun x => !decide (rk key < rk x)) hz hh (fun i x hi e => ?_) (fun i j ij jn z => ?_) fun h hn h1 h2 => ?_
  · refine ⟨(fun z => by cases z), fun _ Q' q => hl _ _ _ _ Sk (Sa _ x (by omega) (by omega) e) hk ?_⟩
    have : (some (decide (rk key < rk x))) = some (!((arr[base + i]?).any fun x => !decide (rk key < rk x))) := by rw [e]; simp
    rw [this]
    exact q
  · have e1 : arr[base + i]? = some arr[base + i] := Array.getElem?_eq_getElem (by omega)
    have e2 : arr[base + j]? = some arr[base + j] := Array.getElem?_eq_getElem (by omega)
    have := so _ _ _ _ (by omega) (by omega : base + i ≤ base + j) (by omega) e1 e2
    simp only [e1, e2, Option.any_some, Bool.not_eq_true', decide_eq_false_iff_not] at z ⊢
    omega
  · refine k h hn (fun i x b1 b2 e => ?_) (fun i x b1 b2 e => ?_)
    · have := h1 (i - base) (by omega)
      rw [show base + (i - base) = i by omega, e] at this
      simp only [Option.any_some, Bool.not_eq_true', decide_eq_false_iff_not] at this
      omega
    · have := h2 (i - base) (by omega) (by omega)
      rw [show base + (i - base) = i by omega, e] at this
      simpa using this
theorem gal_left {key : Keyed} {arr : Array Keyed} {base n hint : Nat} {st : SortSt} {Q : Option Nat → SortSt → Prop} (hl : LtOk prog w A E s rk S κ) (hk : kindOf st = κ) (Sk : S key) (Sa : ∀ (i : Nat) x, base ≤ i → i < base + n → arr[i]? = some x → S x) (so : ∀ (i j : Nat) x y, base ≤ i → i ≤ j → j < base + n → arr[i]? = some x → arr[j]? = some y → rk x ≤ rk y) (hz : base + n ≤ arr.size) (hh : hint < n)
    (k : ∀ h, h ≤ n → (∀ (i : Nat) x, base ≤ i → i < base + h → arr[i]? = some x → rk x < rk key) → (∀ (i : Nat) x, base + h ≤ i → i < base + n → arr[i]? = some x → rk key ≤ rk x) → Q (some h) st) : wpS (model prog w) A E s (gallopP true key arr base n hint) Q st := by
  refine gallop_ok (B := fun i => (arr[base + i]?).any fun x => decide (rk x < rk key)) hz hh (fun i x hi e => ?_) (fun i j ij jn z => ?_) fun h hn h1 h2 => ?_
  · refine ⟨fun _ Q' q => hl _ _ _ _ (Sa _ x (by omega) (by omega) e) Sk hk ?_, fun z => by cases z⟩
    have : (some (decide (rk x < rk key))) = some ((arr[base + i]?).any fun x => decide (rk x < rk key)) := by rw [e]; simp
    rw [this]
    exact q
  · have e1 : arr[base + i]? = some arr[base + i] := Array.getElem?_eq_getElem (by omega)
    have e2 : arr[base + j]? = some arr[base + j] := Array.getElem?_eq_getElem (by omega)
    have := so _ _ _ _ (by omega) (by omega : base + i ≤ base + j) (by omega) e1 e2
    simp only [e1, e2, Option.any_some, decide_eq_true_eq] at z ⊢
    omega
  · refine k h hn (fun i x b1 b2 e => ?_) (fun i x b1 b2 e => ?_)
    · have := h1 (i - base) (by omega)
      rw [show base + (i - base) = i by omega, e] at this
      simpa using this
    · have := h2 (i - base) (by omega) (by omega)
      rw [show base + (i - base) = i by omega, e] at this
      simpa using this
end
end PyProof.Rows

namespace PyProof.Rows
open PySem
def mergeLoP : Array Keyed → Array Keyed → StateT SortSt Sem (Array Keyed) := sortPriv% PySem.Builtin.mergeLo
structure Lv (rk : Keyed → Nat) (a b out : Array Keyed) (ia ib : Nat) : Prop where
  mi : MI rk a b out ia ib
  la : ia + 1 < a.size
  lb : ib < b.size
section
variable {prog : Program} {w : World} {A : Around} {E : Value → Shared → Prop} {s : Shared} {rk : Keyed → Nat} {S : Keyed → Prop} {κ : SortKind}
theorem mergeLo_ok {a b : Array Keyed} {st : SortSt} {Q : Array Keyed → SortSt → Prop} (hl : LtOk prog w A E s rk S κ) (hk : kindOf st = κ) (na : 1 ≤ a.size) (nb : 1 ≤ b.size) (Sa : ∀ (i : Nat) x, a[i]? = some x → S x) (Sb : ∀ (i : Nat) x, b[i]? = some x → S x) (sa : SoA rk a) (sb : SoA rk b) (first : ∀ x y, b[0]? = some x → a[0]? = some y → rk x ≤ rk y) (last : ∀ (i : Nat) x y, b[i]? = some x → a[a.size - 1]? = some y → rk x ≤ rk y) (k : ∀ out st', Mgd rk a b out → Stay st st' → Q out st') : wpS (model prog w) A E s (mergeLoP a b) Q st := by
  have atA : ∀ {i : Nat}, i < a.size → ∃ x, a[i]? = some x := fun {i} h => ⟨_, Array.getElem?_eq_getElem h⟩
  have atB : ∀ {i : Nat}, i < b.size → ∃ x, b[i]? = some x := fun {i} h => ⟨_, Array.getElem?_eq_getElem h⟩
  have lastL : ∀ {ia : Nat}, ia + 1 = a.size → ∀ {ib : Nat} (i : Nat) x, ib ≤ i → b[i]? = some x → ∀ (j : Nat) y, ia ≤ j → a[j]? = some y → rk x ≤ rk y := fun {ia} e {ib} i x _ ex j y hj ey => by
    have jl := (Array.getElem?_eq_some_iff.mp ey).1
    have : j = a.size - 1 := by omega
    subst this
    exact last i x y ex ey
  refine wpS_bind (wpS_lift (wpAny_rule ⟨rfl, ?_⟩))
  obtain ⟨x0, e0⟩ := atB nb
  refine wpS_bind (el_ok e0 ?_)
  dsimp only
  have m0 : MI rk a b #[x0] 0 1 := by
    have := MI.pushB (MI.nil (rk := rk) (a := a) (b := b)) sb e0 fun j y _ ey => by
      obtain ⟨y0, f0⟩ := atA na
      exact Nat.le_trans (first _ _ e0 f0) (sa 0 j _ _ (Nat.zero_le _) f0 ey)
    exact this
  by_cases z1 : (1 == b.size) = true
  · rw [if_pos z1]
    have z1 : 1 = b.size := by simpa using z1
    refine wpS_pure (k _ _ ?_ (Stay.refl st))
    rw [z1] at m0
    have := m0.doneA sa (Nat.zero_le _)
    rw [← z1] at this ⊢
    exact this
  rw [if_neg z1]
  by_cases z2 : (0 + 1 == a.size) = true
  · rw [if_pos z2]
    have z2 : 0 + 1 = a.size := by simpa using z2
    exact wpS_pure (k _ _ (m0.lastA sa sb (Nat.zero_le _) nb (lastL z2)) (Stay.refl st))
  rw [if_neg z2]
  have z1 : 1 < b.size := by
    have : ¬ 1 = b.size := fun z => z1 (by simpa using z)
    omega
  have z2 : 0 + 1 < a.size := by
    have : ¬ 0 + 1 = a.size := fun z => z2 (by simpa using z)
    omega
  refine wpS_bind (wpS_get ?_)
  refine wpS_bind (wpS_mono (wpS_forRange (I := fun x r st' => Stay st st' ∧ ∃ out ia ib g, r = (none, out, ia, ib, g) ∧ Lv rk a b out ia ib ∧ x ≤ ia + ib) (Q := fun r st' => Stay st st' ∧ ∃ o t, r = (some o, t) ∧ Mgd rk a b o) ?_ ?_ ⟨Stay.refl st, _, _, _, _, rfl, ⟨m0, z2, z1⟩, Nat.zero_le _⟩) ?_)
  · rintro x c st1 _ hx ⟨sy, out, ia, ib, g, rfl, lv, le⟩
    dsimp only
    have hk1 : kindOf st1 = κ := by rw [sy.kind, hk]
    refine wpS_bind (wpS_mono (wpS_forRange (I := fun x r st' => st' = st1 ∧ ∃ out' ia' ib' ac bc, r = (none, out', ia', ib', ac, bc) ∧ Lv rk a b out' ia' ib' ∧ ia + ib + x ≤ ia' + ib') (Q := fun r st' => st' = st1 ∧ ((∃ o t, r = (some o, t) ∧ Mgd rk a b o) ∨ ∃ out' ia' ib' ac bc, r = (none, out', ia', ib', ac, bc) ∧ Lv rk a b out' ia' ib' ∧ ia + ib + 1 ≤ ia' + ib')) ?_ ?_ ⟨rfl, out, ia, ib, 0, 0, rfl, lv, Nat.le_refl _⟩) ?_)
    · rintro x' c' st2 _ hx' ⟨rfl, out', ia', ib', ac, bc, rfl, lv', le'⟩
      dsimp only
      obtain ⟨y, ey⟩ := atB lv'.lb
      obtain ⟨z, ez⟩ := atA (Nat.lt_of_succ_lt lv'.la)
      refine wpS_bind (el_ok ey (wpS_bind (el_ok ez (wpS_bind (hl _ _ _ _ (Sb _ _ ey) (Sa _ _ ez) hk1 ?_)))))
      dsimp only
      by_cases lt : rk y < rk z
      · rw [decide_eq_true lt, if_pos rfl]
        refine wpS_bind (el_ok ey ?_)
        try dsimp only
        have mi := lv'.mi.pushB sb ey fun j y' hj ey' => by
          have := sa _ _ _ _ hj ez ey'
          omega
        by_cases q : (ib' + 1 == b.size) = true
        · rw [if_pos q]
          have q : ib' + 1 = b.size := by simpa using q
          refine wpS_pure ⟨rfl, .inl ⟨_, _, rfl, ?_⟩⟩
          rw [q] at mi ⊢
          exact mi.doneA sa (by have := lv'.la; omega)
        rw [if_neg q]
        have q : ¬ ib' + 1 = b.size := fun z => q (by simpa using z)
        have lv2 : Lv rk a b (out'.push y) ia' (ib' + 1) := ⟨mi, lv'.la, by have := lv'.lb; omega⟩
        split
        · exact wpS_pure ⟨rfl, .inr ⟨_, _, _, _, _, rfl, lv2, by omega⟩⟩
        · exact wpS_pure ⟨rfl, _, _, _, _, _, rfl, lv2, by omega⟩
      · rw [decide_eq_false lt, if_neg (by simp)]
        refine wpS_bind (el_ok ez ?_)
        try dsimp only
        have mi := lv'.mi.pushA sa ez fun j y' hj ey' => by
          have := sb _ _ _ _ hj ey ey'
          omega
        by_cases q : (ia' + 1 + 1 == a.size) = true
        · rw [if_pos q]
          have q : ia' + 1 + 1 = a.size := by simpa using q
          exact wpS_pure ⟨rfl, .inl ⟨_, _, rfl, mi.lastA sa sb (by omega) (Nat.le_of_lt lv'.lb) (lastL q)⟩⟩
        rw [if_neg q]
        have q : ¬ ia' + 1 + 1 = a.size := fun z => q (by simpa using z)
        have lv2 : Lv rk a b (out'.push z) (ia' + 1) ib' := ⟨mi, by have := lv'.la; omega, lv'.lb⟩
        split
        · exact wpS_pure ⟨rfl, .inr ⟨_, _, _, _, _, rfl, lv2, by omega⟩⟩
        · exact wpS_pure ⟨rfl, _, _, _, _, _, rfl, lv2, by omega⟩
    · rintro c' st2 ⟨rfl, out', ia', ib', ac, bc, rfl, lv', le'⟩
      have := lv'.la
      have := lv'.lb
      omega
    rintro r st2 ⟨rfl, ⟨o, t, rfl, mg⟩ | ⟨out', ia', ib', ac, bc, rfl, lv', le'⟩⟩
    · exact wpS_pure ⟨sy, _, _, rfl, mg⟩
    dsimp only
    refine wpS_bind (wpS_lift (wpAny_rule ⟨rfl, ?_⟩))
    refine wpS_bind (wpS_mono (wpS_forRange (I := fun x r st' => Stay st st' ∧ ∃ out2 ia2 ib2 g2 ac2 bc2, r = (none, out2, ia2, ib2, g2, ac2, bc2) ∧ Lv rk a b out2 ia2 ib2 ∧ ia' + ib' + x ≤ ia2 + ib2) (Q := fun r st' => Stay st st' ∧ ((∃ o t, r = (some o, t) ∧ Mgd rk a b o) ∨ ∃ out2 ia2 ib2 g2 ac2 bc2, r = (none, out2, ia2, ib2, g2, ac2, bc2) ∧ Lv rk a b out2 ia2 ib2 ∧ ia' + ib' ≤ ia2 + ib2)) ?_ ?_ ⟨sy, out', ia', ib', _, _, _, rfl, lv', Nat.le_refl _⟩) ?_)
    · rintro x2 c2 st3 _ hx2 ⟨sy2, out2, ia2, ib2, g2, ac2, bc2, rfl, lv2, le2⟩
      dsimp only
      by_cases zg : g2 > 1
      · rw [if_pos zg]
        have sy3 : Stay st (SortSt.mk' (kindOf st3) (arrOf st3) (pendingOf st3) (g2 - 1) (failedOf st3)) := by
          obtain ⟨gg, rfl⟩ := sy2
          exact ⟨_, rfl⟩
        have hk3 : kindOf (SortSt.mk' (kindOf st3) (arrOf st3) (pendingOf st3) (g2 - 1) (failedOf st3)) = κ := by rw [sy3.kind, hk]
        refine wpS_bind (wpS_modify ?_)
        obtain ⟨y, ey⟩ := atB lv2.lb
        have la2 := lv2.la
        have lb2 := lv2.lb
        refine wpS_bind (el_ok ey (wpS_bind (gal_right hl hk3 (Sb _ _ ey) (fun i x _ _ e => Sa i x e) (fun i j x y _ h _ => sa i j x y h) (by omega) (by omega) fun kk hkk h1 h2 => ?_)))
        try dsimp only
        by_cases zk : kk > 0
        · rw [if_pos zk]
          have mi2 := MI.addA sa lv2.mi (k := kk) (by omega) fun i x h1' h2' ex j y' hj ey' => Nat.le_trans (h1 i x h1' h2' ex) (sb _ _ _ _ hj ey ey')
          by_cases q1 : (ia2 + kk + 1 == a.size) = true
          · rw [if_pos q1]
            have q1 : ia2 + kk + 1 = a.size := by simpa using q1
            exact wpS_pure ⟨sy3, .inl ⟨_, _, rfl, mi2.lastA sa sb (by omega) (by omega) (lastL q1)⟩⟩
          rw [if_neg q1]
          have q1 : ¬ ia2 + kk + 1 = a.size := fun z => q1 (by simpa using z)
          by_cases q2 : (ia2 + kk == a.size) = true
          · rw [if_pos q2]
            have q2 : ia2 + kk = a.size := by simpa using q2
            refine wpS_pure ⟨sy3, .inl ⟨_, _, rfl, ?_⟩⟩
            have mi2' := mi2
            rw [q2] at mi2' ⊢
            exact mi2'.doneB sb (by omega)
          rw [if_neg q2]
          have q2 : ¬ ia2 + kk = a.size := fun z => q2 (by simpa using z)
          have gt : ∀ (i : Nat) x, ia2 + kk ≤ i → a[i]? = some x → rk y < rk x := fun i x hi ex => h2 i x hi (by have := (Array.getElem?_eq_some_iff.mp ex).1; omega) ex
          have mi3 := mi2.pushB sb ey fun j y' hj ey' => Nat.le_of_lt (gt j y' hj ey')
          refine wpS_bind (el_ok ey ?_)
          try dsimp only
          by_cases q3 : (ib2 + 1 == b.size) = true
          · rw [if_pos q3]
            have q3 : ib2 + 1 = b.size := by simpa using q3
            refine wpS_pure ⟨sy3, .inl ⟨_, _, rfl, ?_⟩⟩
            rw [q3] at mi3 ⊢
            exact mi3.doneA sa (by omega)
          rw [if_neg q3]
          have q3 : ¬ ib2 + 1 = b.size := fun z => q3 (by simpa using z)
          obtain ⟨z, ez⟩ := atA (i := ia2 + kk) (by omega)
          refine wpS_bind (el_ok ez (wpS_bind (gal_left hl hk3 (Sa _ _ ez) (fun i x _ _ e => Sb i x e) (fun i j x y _ h _ => sb i j x y h) (by omega) (by omega) fun k2 hk2 h3 h4 => ?_)))
          try dsimp only
          by_cases zk2 : k2 > 0
          · rw [if_pos zk2]
            have mi4 := MI.addB sb mi3 (k := k2) (by omega) fun i x h1' h2' ex j y' hj ey' => Nat.le_trans (Nat.le_of_lt (h3 i x h1' h2' ex)) (sa _ _ _ _ hj ez ey')
            by_cases q4 : (ib2 + 1 + k2 == b.size) = true
            · rw [if_pos q4]
              have q4 : ib2 + 1 + k2 = b.size := by simpa using q4
              refine wpS_pure ⟨sy3, .inl ⟨_, _, rfl, ?_⟩⟩
              have mi4' := mi4
              rw [q4] at mi4' ⊢
              exact mi4'.doneA sa (by omega)
            rw [if_neg q4]
            have q4 : ¬ ib2 + 1 + k2 = b.size := fun z => q4 (by simpa using z)
            have mi5 := mi4.pushA sa ez fun j y' hj ey' => h4 j y' (by omega) (by have := (Array.getElem?_eq_some_iff.mp ey').1; omega) ey'
            refine wpS_bind (el_ok ez ?_)
            try dsimp only
            by_cases q5 : (ia2 + kk + 1 + 1 == a.size) = true
            · rw [if_pos q5]
              have q5 : ia2 + kk + 1 + 1 = a.size := by simpa using q5
              exact wpS_pure ⟨sy3, .inl ⟨_, _, rfl, mi5.lastA sa sb (by omega) (by omega) (lastL q5)⟩⟩
            rw [if_neg q5]
            have q5 : ¬ ia2 + kk + 1 + 1 = a.size := fun z => q5 (by simpa using z)
            have lv3 : Lv rk a b _ (ia2 + kk + 1) (ib2 + 1 + k2) := ⟨mi5, by omega, by omega⟩
            split
            · exact wpS_pure ⟨sy3, .inr ⟨_, _, _, _, _, _, rfl, lv3, by omega⟩⟩
            · exact wpS_pure ⟨sy3, _, _, _, _, _, _, rfl, lv3, by omega⟩
          · rw [if_neg zk2]
            have zk2 : k2 = 0 := by omega
            subst zk2
            have mi5 := mi3.pushA sa ez fun j y' hj ey' => h4 j y' (by omega) (by have := (Array.getElem?_eq_some_iff.mp ey').1; omega) ey'
            refine wpS_bind (el_ok ez ?_)
            try dsimp only
            by_cases q5 : (ia2 + kk + 1 + 1 == a.size) = true
            · rw [if_pos q5]
              have q5 : ia2 + kk + 1 + 1 = a.size := by simpa using q5
              exact wpS_pure ⟨sy3, .inl ⟨_, _, rfl, mi5.lastA sa sb (by omega) (by omega) (lastL q5)⟩⟩
            rw [if_neg q5]
            have q5 : ¬ ia2 + kk + 1 + 1 = a.size := fun z => q5 (by simpa using z)
            have lv3 : Lv rk a b _ (ia2 + kk + 1) (ib2 + 1) := ⟨mi5, by omega, by omega⟩
            split
            · exact wpS_pure ⟨sy3, .inr ⟨_, _, _, _, _, _, rfl, lv3, by omega⟩⟩
            · exact wpS_pure ⟨sy3, _, _, _, _, _, _, rfl, lv3, by omega⟩
        · rw [if_neg zk]
          have zk : kk = 0 := by omega
          subst zk
          have gt : ∀ (i : Nat) x, ia2 ≤ i → a[i]? = some x → rk y < rk x := fun i x hi ex => h2 i x hi (by have := (Array.getElem?_eq_some_iff.mp ex).1; omega) ex
          have mi3 := lv2.mi.pushB sb ey fun j y' hj ey' => Nat.le_of_lt (gt j y' hj ey')
          refine wpS_bind (el_ok ey ?_)
          try dsimp only
          by_cases q3 : (ib2 + 1 == b.size) = true
          · rw [if_pos q3]
            have q3 : ib2 + 1 = b.size := by simpa using q3
            refine wpS_pure ⟨sy3, .inl ⟨_, _, rfl, ?_⟩⟩
            rw [q3] at mi3 ⊢
            exact mi3.doneA sa (by omega)
          rw [if_neg q3]
          have q3 : ¬ ib2 + 1 = b.size := fun z => q3 (by simpa using z)
          obtain ⟨z, ez⟩ := atA (i := ia2) (by omega)
          refine wpS_bind (el_ok ez (wpS_bind (gal_left hl hk3 (Sa _ _ ez) (fun i x _ _ e => Sb i x e) (fun i j x y _ h _ => sb i j x y h) (by omega) (by omega) fun k2 hk2 h3 h4 => ?_)))
          try dsimp only
          by_cases zk2 : k2 > 0
          · rw [if_pos zk2]
            have mi4 := MI.addB sb mi3 (k := k2) (by omega) fun i x h1' h2' ex j y' hj ey' => Nat.le_trans (Nat.le_of_lt (h3 i x h1' h2' ex)) (sa _ _ _ _ hj ez ey')
            by_cases q4 : (ib2 + 1 + k2 == b.size) = true
            · rw [if_pos q4]
              have q4 : ib2 + 1 + k2 = b.size := by simpa using q4
              refine wpS_pure ⟨sy3, .inl ⟨_, _, rfl, ?_⟩⟩
              have mi4' := mi4
              rw [q4] at mi4' ⊢
              exact mi4'.doneA sa (by omega)
            rw [if_neg q4]
            have q4 : ¬ ib2 + 1 + k2 = b.size := fun z => q4 (by simpa using z)
            have mi5 := mi4.pushA sa ez fun j y' hj ey' => h4 j y' (by omega) (by have := (Array.getElem?_eq_some_iff.mp ey').1; omega) ey'
            refine wpS_bind (el_ok ez ?_)
            try dsimp only
            by_cases q5 : (ia2 + 1 + 1 == a.size) = true
            · rw [if_pos q5]
              have q5 : ia2 + 1 + 1 = a.size := by simpa using q5
              exact wpS_pure ⟨sy3, .inl ⟨_, _, rfl, mi5.lastA sa sb (by omega) (by omega) (lastL q5)⟩⟩
            rw [if_neg q5]
            have q5 : ¬ ia2 + 1 + 1 = a.size := fun z => q5 (by simpa using z)
            have lv3 : Lv rk a b _ (ia2 + 1) (ib2 + 1 + k2) := ⟨mi5, by omega, by omega⟩
            split
            · exact wpS_pure ⟨sy3, .inr ⟨_, _, _, _, _, _, rfl, lv3, by omega⟩⟩
            · exact wpS_pure ⟨sy3, _, _, _, _, _, _, rfl, lv3, by omega⟩
          · rw [if_neg zk2]
            have zk2 : k2 = 0 := by omega
            subst zk2
            have mi5 := mi3.pushA sa ez fun j y' hj ey' => h4 j y' (by omega) (by have := (Array.getElem?_eq_some_iff.mp ey').1; omega) ey'
            refine wpS_bind (el_ok ez ?_)
            try dsimp only
            by_cases q5 : (ia2 + 1 + 1 == a.size) = true
            · rw [if_pos q5]
              have q5 : ia2 + 1 + 1 = a.size := by simpa using q5
              exact wpS_pure ⟨sy3, .inl ⟨_, _, rfl, mi5.lastA sa sb (by omega) (by omega) (lastL q5)⟩⟩
            rw [if_neg q5]
            have q5 : ¬ ia2 + 1 + 1 = a.size := fun z => q5 (by simpa using z)
            have lv3 : Lv rk a b _ (ia2 + 1) (ib2 + 1) := ⟨mi5, by omega, by omega⟩
            split
            · exact wpS_pure ⟨sy3, .inr ⟨_, _, _, _, _, _, rfl, lv3, by omega⟩⟩
            · exact wpS_pure ⟨sy3, _, _, _, _, _, _, rfl, lv3, by omega⟩
      · rw [if_neg zg]
        have sy3 : Stay st (SortSt.mk' (kindOf st3) (arrOf st3) (pendingOf st3) g2 (failedOf st3)) := by
          obtain ⟨gg, rfl⟩ := sy2
          exact ⟨_, rfl⟩
        have hk3 : kindOf (SortSt.mk' (kindOf st3) (arrOf st3) (pendingOf st3) g2 (failedOf st3)) = κ := by rw [sy3.kind, hk]
        refine wpS_bind (wpS_modify ?_)
        obtain ⟨y, ey⟩ := atB lv2.lb
        have la2 := lv2.la
        have lb2 := lv2.lb
        refine wpS_bind (el_ok ey (wpS_bind (gal_right hl hk3 (Sb _ _ ey) (fun i x _ _ e => Sa i x e) (fun i j x y _ h _ => sa i j x y h) (by omega) (by omega) fun kk hkk h1 h2 => ?_)))
        try dsimp only
        by_cases zk : kk > 0
        · rw [if_pos zk]
          have mi2 := MI.addA sa lv2.mi (k := kk) (by omega) fun i x h1' h2' ex j y' hj ey' => Nat.le_trans (h1 i x h1' h2' ex) (sb _ _ _ _ hj ey ey')
          by_cases q1 : (ia2 + kk + 1 == a.size) = true
          · rw [if_pos q1]
            have q1 : ia2 + kk + 1 = a.size := by simpa using q1
            exact wpS_pure ⟨sy3, .inl ⟨_, _, rfl, mi2.lastA sa sb (by omega) (by omega) (lastL q1)⟩⟩
          rw [if_neg q1]
          have q1 : ¬ ia2 + kk + 1 = a.size := fun z => q1 (by simpa using z)
          by_cases q2 : (ia2 + kk == a.size) = true
          · rw [if_pos q2]
            have q2 : ia2 + kk = a.size := by simpa using q2
            refine wpS_pure ⟨sy3, .inl ⟨_, _, rfl, ?_⟩⟩
            have mi2' := mi2
            rw [q2] at mi2' ⊢
            exact mi2'.doneB sb (by omega)
          rw [if_neg q2]
          have q2 : ¬ ia2 + kk = a.size := fun z => q2 (by simpa using z)
          have gt : ∀ (i : Nat) x, ia2 + kk ≤ i → a[i]? = some x → rk y < rk x := fun i x hi ex => h2 i x hi (by have := (Array.getElem?_eq_some_iff.mp ex).1; omega) ex
          have mi3 := mi2.pushB sb ey fun j y' hj ey' => Nat.le_of_lt (gt j y' hj ey')
          refine wpS_bind (el_ok ey ?_)
          try dsimp only
          by_cases q3 : (ib2 + 1 == b.size) = true
          · rw [if_pos q3]
            have q3 : ib2 + 1 = b.size := by simpa using q3
            refine wpS_pure ⟨sy3, .inl ⟨_, _, rfl, ?_⟩⟩
            rw [q3] at mi3 ⊢
            exact mi3.doneA sa (by omega)
          rw [if_neg q3]
          have q3 : ¬ ib2 + 1 = b.size := fun z => q3 (by simpa using z)
          obtain ⟨z, ez⟩ := atA (i := ia2 + kk) (by omega)
          refine wpS_bind (el_ok ez (wpS_bind (gal_left hl hk3 (Sa _ _ ez) (fun i x _ _ e => Sb i x e) (fun i j x y _ h _ => sb i j x y h) (by omega) (by omega) fun k2 hk2 h3 h4 => ?_)))
          try dsimp only
          by_cases zk2 : k2 > 0
          · rw [if_pos zk2]
            have mi4 := MI.addB sb mi3 (k := k2) (by omega) fun i x h1' h2' ex j y' hj ey' => Nat.le_trans (Nat.le_of_lt (h3 i x h1' h2' ex)) (sa _ _ _ _ hj ez ey')
            by_cases q4 : (ib2 + 1 + k2 == b.size) = true
            · rw [if_pos q4]
              have q4 : ib2 + 1 + k2 = b.size := by simpa using q4
              refine wpS_pure ⟨sy3, .inl ⟨_, _, rfl, ?_⟩⟩
              have mi4' := mi4
              rw [q4] at mi4' ⊢
              exact mi4'.doneA sa (by omega)
            rw [if_neg q4]
            have q4 : ¬ ib2 + 1 + k2 = b.size := fun z => q4 (by simpa using z)
            have mi5 := mi4.pushA sa ez fun j y' hj ey' => h4 j y' (by omega) (by have := (Array.getElem?_eq_some_iff.mp ey').1; omega) ey'
            refine wpS_bind (el_ok ez ?_)
            try dsimp only
            by_cases q5 : (ia2 + kk + 1 + 1 == a.size) = true
            · rw [if_pos q5]
              have q5 : ia2 + kk + 1 + 1 = a.size := by simpa using q5
              exact wpS_pure ⟨sy3, .inl ⟨_, _, rfl, mi5.lastA sa sb (by omega) (by omega) (lastL q5)⟩⟩
            rw [if_neg q5]
            have q5 : ¬ ia2 + kk + 1 + 1 = a.size := fun z => q5 (by simpa using z)
            have lv3 : Lv rk a b _ (ia2 + kk + 1) (ib2 + 1 + k2) := ⟨mi5, by omega, by omega⟩
            split
            · exact wpS_pure ⟨sy3, .inr ⟨_, _, _, _, _, _, rfl, lv3, by omega⟩⟩
            · exact wpS_pure ⟨sy3, _, _, _, _, _, _, rfl, lv3, by omega⟩
          · rw [if_neg zk2]
            have zk2 : k2 = 0 := by omega
            subst zk2
            have mi5 := mi3.pushA sa ez fun j y' hj ey' => h4 j y' (by omega) (by have := (Array.getElem?_eq_some_iff.mp ey').1; omega) ey'
            refine wpS_bind (el_ok ez ?_)
            try dsimp only
            by_cases q5 : (ia2 + kk + 1 + 1 == a.size) = true
            · rw [if_pos q5]
              have q5 : ia2 + kk + 1 + 1 = a.size := by simpa using q5
              exact wpS_pure ⟨sy3, .inl ⟨_, _, rfl, mi5.lastA sa sb (by omega) (by omega) (lastL q5)⟩⟩
            rw [if_neg q5]
            have q5 : ¬ ia2 + kk + 1 + 1 = a.size := fun z => q5 (by simpa using z)
            have lv3 : Lv rk a b _ (ia2 + kk + 1) (ib2 + 1) := ⟨mi5, by omega, by omega⟩
            split
            · exact wpS_pure ⟨sy3, .inr ⟨_, _, _, _, _, _, rfl, lv3, by omega⟩⟩
            · exact wpS_pure ⟨sy3, _, _, _, _, _, _, rfl, lv3, by omega⟩
        · rw [if_neg zk]
          have zk : kk = 0 := by omega
          subst zk
          have gt : ∀ (i : Nat) x, ia2 ≤ i → a[i]? = some x → rk y < rk x := fun i x hi ex => h2 i x hi (by have := (Array.getElem?_eq_some_iff.mp ex).1; omega) ex
          have mi3 := lv2.mi.pushB sb ey fun j y' hj ey' => Nat.le_of_lt (gt j y' hj ey')
          refine wpS_bind (el_ok ey ?_)
          try dsimp only
          by_cases q3 : (ib2 + 1 == b.size) = true
          · rw [if_pos q3]
            have q3 : ib2 + 1 = b.size := by simpa using q3
            refine wpS_pure ⟨sy3, .inl ⟨_, _, rfl, ?_⟩⟩
            rw [q3] at mi3 ⊢
            exact mi3.doneA sa (by omega)
          rw [if_neg q3]
          have q3 : ¬ ib2 + 1 = b.size := fun z => q3 (by simpa using z)
          obtain ⟨z, ez⟩ := atA (i := ia2) (by omega)
          refine wpS_bind (el_ok ez (wpS_bind (gal_left hl hk3 (Sa _ _ ez) (fun i x _ _ e => Sb i x e) (fun i j x y _ h _ => sb i j x y h) (by omega) (by omega) fun k2 hk2 h3 h4 => ?_)))
          try dsimp only
          by_cases zk2 : k2 > 0
          · rw [if_pos zk2]
            have mi4 := MI.addB sb mi3 (k := k2) (by omega) fun i x h1' h2' ex j y' hj ey' => Nat.le_trans (Nat.le_of_lt (h3 i x h1' h2' ex)) (sa _ _ _ _ hj ez ey')
            by_cases q4 : (ib2 + 1 + k2 == b.size) = true
            · rw [if_pos q4]
              have q4 : ib2 + 1 + k2 = b.size := by simpa using q4
              refine wpS_pure ⟨sy3, .inl ⟨_, _, rfl, ?_⟩⟩
              have mi4' := mi4
              rw [q4] at mi4' ⊢
              exact mi4'.doneA sa (by omega)
            rw [if_neg q4]
            have q4 : ¬ ib2 + 1 + k2 = b.size := fun z => q4 (by simpa using z)
            have mi5 := mi4.pushA sa ez fun j y' hj ey' => h4 j y' (by omega) (by have := (Array.getElem?_eq_some_iff.mp ey').1; omega) ey'
            refine wpS_bind (el_ok ez ?_)
            try dsimp only
            by_cases q5 : (ia2 + 1 + 1 == a.size) = true
            · rw [if_pos q5]
              have q5 : ia2 + 1 + 1 = a.size := by simpa using q5
              exact wpS_pure ⟨sy3, .inl ⟨_, _, rfl, mi5.lastA sa sb (by omega) (by omega) (lastL q5)⟩⟩
            rw [if_neg q5]
            have q5 : ¬ ia2 + 1 + 1 = a.size := fun z => q5 (by simpa using z)
            have lv3 : Lv rk a b _ (ia2 + 1) (ib2 + 1 + k2) := ⟨mi5, by omega, by omega⟩
            split
            · exact wpS_pure ⟨sy3, .inr ⟨_, _, _, _, _, _, rfl, lv3, by omega⟩⟩
            · exact wpS_pure ⟨sy3, _, _, _, _, _, _, rfl, lv3, by omega⟩
          · rw [if_neg zk2]
            have zk2 : k2 = 0 := by omega
            subst zk2
            have mi5 := mi3.pushA sa ez fun j y' hj ey' => h4 j y' (by omega) (by have := (Array.getElem?_eq_some_iff.mp ey').1; omega) ey'
            refine wpS_bind (el_ok ez ?_)
            try dsimp only
            by_cases q5 : (ia2 + 1 + 1 == a.size) = true
            · rw [if_pos q5]
              have q5 : ia2 + 1 + 1 = a.size := by simpa using q5
              exact wpS_pure ⟨sy3, .inl ⟨_, _, rfl, mi5.lastA sa sb (by omega) (by omega) (lastL q5)⟩⟩
            rw [if_neg q5]
            have q5 : ¬ ia2 + 1 + 1 = a.size := fun z => q5 (by simpa using z)
            have lv3 : Lv rk a b _ (ia2 + 1) (ib2 + 1) := ⟨mi5, by omega, by omega⟩
            split
            · exact wpS_pure ⟨sy3, .inr ⟨_, _, _, _, _, _, rfl, lv3, by omega⟩⟩
            · exact wpS_pure ⟨sy3, _, _, _, _, _, _, rfl, lv3, by omega⟩
    · rintro c2 st3 ⟨sy2, out2, ia2, ib2, g2, ac2, bc2, rfl, lv2, le2⟩
      have := lv2.la
      have := lv2.lb
      omega
    rintro r st3 ⟨sy2, ⟨o, t, rfl, mg⟩ | ⟨out2, ia2, ib2, g2, ac2, bc2, rfl, lv2, le2⟩⟩
    · exact wpS_pure ⟨sy2, _, _, rfl, mg⟩
    refine wpS_bind (wpS_modify (wpS_pure ?_))
    refine ⟨?_, _, _, _, _, rfl, lv2, by show x + 1 ≤ ia2 + ib2; omega⟩
    obtain ⟨gg, rfl⟩ := sy2
    exact ⟨_, rfl⟩
  · rintro c st1 ⟨sy, out, ia, ib, g, rfl, lv, le⟩
    have := lv.la
    have := lv.lb
    omega
  · rintro r st1 ⟨sy, o, t, rfl, mg⟩
    exact wpS_pure (k _ _ mg sy)
end
end PyProof.Rows

namespace PyProof.Rows
open PySem
structure MH (rk : Keyed → Nat) (a b out : Array Keyed) (na nb : Nat) : Prop where
  pm : out.toList.Perm (a.toList.drop na ++ b.toList.drop nb)
  so : out.toList.Pairwise (fun x y => rk y ≤ rk x)
  ba : ∀ o ∈ out.toList, ∀ i x, i < na → a[i]? = some x → rk x ≤ rk o
  bb : ∀ o ∈ out.toList, ∀ i x, i < nb → b[i]? = some x → rk x ≤ rk o
section
variable {rk : Keyed → Nat} {a b out : Array Keyed} {na nb : Nat}
theorem MH.nil : MH rk a b #[] a.size b.size := by
  refine ⟨?_, by simp, fun o h => by simp at h, fun o h => by simp at h⟩
  rw [show a.size = a.toList.length from Array.length_toList.symm, show b.size = b.toList.length from Array.length_toList.symm, List.drop_length, List.drop_length]
  exact List.Perm.refl _
theorem drop_prev {a : Array Keyed} {i : Nat} {x : Keyed} (h : a[i]? = some x) : a.toList.drop i = x :: a.toList.drop (i + 1) := by
  obtain ⟨hl, e⟩ := Array.getElem?_eq_some_iff.mp h
  rw [List.drop_eq_getElem_cons (by rw [Array.length_toList]; exact hl), Array.getElem_toList, e]
theorem MH.pushA {x : Keyed} (h : MH rk a b out (na + 1) nb) (sa : SoA rk a) (e : a[na]? = some x) (le : ∀ j y, j < nb → b[j]? = some y → rk y ≤ rk x) : MH rk a b (out.push x) na nb := by
  have me : ∀ o, o ∈ (out.push x).toList → o ∈ out.toList ∨ o = x := fun o ho => by
    rw [Array.toList_push, List.mem_append, List.mem_singleton] at ho
    exact ho
  refine ⟨?_, ?_, fun o ho i y hi ey => ?_, fun o ho i y hi ey => ?_⟩
  · rw [Array.toList_push, drop_prev e, List.cons_append]
    exact List.perm_append_singleton x _ |>.trans (h.pm.cons x)
  · rw [Array.toList_push, List.pairwise_append]
    refine ⟨h.so, by simp, fun o ho y hy => ?_⟩
    rw [List.mem_singleton.mp hy]
    exact h.ba o ho na x (by omega) e
  · rcases me o ho with z | rfl
    · exact h.ba o z i y (by omega) ey
    · exact sa i na y _ (by omega) ey e
  · rcases me o ho with z | rfl
    · exact h.bb o z i y hi ey
    · exact le i y hi ey
theorem MH.pushB {x : Keyed} (h : MH rk a b out na (nb + 1)) (sb : SoA rk b) (e : b[nb]? = some x) (le : ∀ j y, j < na → a[j]? = some y → rk y ≤ rk x) : MH rk a b (out.push x) na nb := by
  have me : ∀ o, o ∈ (out.push x).toList → o ∈ out.toList ∨ o = x := fun o ho => by
    rw [Array.toList_push, List.mem_append, List.mem_singleton] at ho
    exact ho
  refine ⟨?_, ?_, fun o ho i y hi ey => ?_, fun o ho i y hi ey => ?_⟩
  · rw [Array.toList_push, drop_prev e]
    exact (List.perm_append_singleton x _).trans ((h.pm.cons x).trans List.perm_middle.symm)
  · rw [Array.toList_push, List.pairwise_append]
    refine ⟨h.so, by simp, fun o ho y hy => ?_⟩
    rw [List.mem_singleton.mp hy]
    exact h.bb o ho nb x (by omega) e
  · rcases me o ho with z | rfl
    · exact h.ba o z i y hi ey
    · exact le i y hi ey
  · rcases me o ho with z | rfl
    · exact h.bb o z i y (by omega) ey
    · exact sb i nb y _ (by omega) ey e
theorem ext_prev {a : Array Keyed} {i j : Nat} {x : Keyed} (h : a[i]? = some x) (ij : i < j) : (a.extract i j).reverse = (a.extract (i + 1) j).reverse.push x := by
  apply Array.toList_inj.mp
  rw [Array.toList_push, Array.toList_reverse, Array.toList_reverse, Array.toList_extract, Array.toList_extract]
  simp only [List.extract]
  rw [drop_prev h, show j - i = (j - (i + 1)) + 1 by omega, List.take_succ_cons, List.reverse_cons]
theorem MH.addA (sa : SoA rk a) {n : Nat} (h : MH rk a b out n nb) (hn : n ≤ a.size) : ∀ {k t : Nat}, t + k = n → (∀ i x, t ≤ i → i < n → a[i]? = some x → ∀ j y, j < nb → b[j]? = some y → rk y ≤ rk x) → MH rk a b (out ++ (a.extract t n).reverse) t nb
  | 0, t, e, _ => by
    have : t = n := by omega
    subst this
    rw [Array.extract_eq_empty_of_le (by omega), Array.reverse_empty, Array.append_empty]
    exact h
  | k + 1, t, e, le => by
    have hl : t < a.size := by omega
    have ex : a[t]? = some a[t] := Array.getElem?_eq_getElem hl
    have := (MH.addA sa h hn (k := k) (t := t + 1) (by omega) (fun i x h1 h2 => le i x (by omega) h2)).pushA sa ex (le t _ (Nat.le_refl _) (by omega) ex)
    rw [ext_prev ex (by omega), Array.append_push]
    exact this
theorem MH.addB (sb : SoA rk b) {n : Nat} (h : MH rk a b out na n) (hn : n ≤ b.size) : ∀ {k t : Nat}, t + k = n → (∀ i x, t ≤ i → i < n → b[i]? = some x → ∀ j y, j < na → a[j]? = some y → rk y ≤ rk x) → MH rk a b (out ++ (b.extract t n).reverse) na t
  | 0, t, e, _ => by
    have : t = n := by omega
    subst this
    rw [Array.extract_eq_empty_of_le (by omega), Array.reverse_empty, Array.append_empty]
    exact h
  | k + 1, t, e, le => by
    have hl : t < b.size := by omega
    have ex : b[t]? = some b[t] := Array.getElem?_eq_getElem hl
    have := (MH.addB sb h hn (k := k) (t := t + 1) (by omega) (fun i x h1 h2 => le i x (by omega) h2)).pushB sb ex (le t _ (Nat.le_refl _) (by omega) ex)
    rw [ext_prev ex (by omega), Array.append_push]
    exact this
theorem MH.whole (h : MH rk a b out 0 0) : Mgd rk a b out.reverse := by
  refine ⟨?_, ?_⟩
  · rw [Array.toList_reverse]
    exact (List.reverse_perm _).trans h.pm
  · rw [Array.toList_reverse, List.pairwise_reverse]
    exact h.so
theorem MH.doneA (sa : SoA rk a) (h : MH rk a b out na 0) (hn : na ≤ a.size) : Mgd rk a b (a.extract 0 na ++ b.extract 0 0 ++ out.reverse) := by
  have h1 := (MH.addA sa h hn (k := na) (t := 0) (by omega) fun i x _ _ _ j y hj => absurd hj (by omega)).whole
  have e : b.extract 0 0 = #[] := by simp
  rw [e, Array.append_empty]
  rw [Array.reverse_append, Array.reverse_reverse] at h1
  exact h1
theorem MH.doneB (sb : SoA rk b) (h : MH rk a b out 0 nb) (hn : nb ≤ b.size) : Mgd rk a b (a.extract 0 0 ++ b.extract 0 nb ++ out.reverse) := by
  have h1 := (MH.addB sb h hn (k := nb) (t := 0) (by omega) fun i x _ _ _ j y hj => absurd hj (by omega)).whole
  have e : a.extract 0 0 = #[] := by simp
  rw [e, Array.empty_append]
  rw [Array.reverse_append, Array.reverse_reverse] at h1
  exact h1
theorem MH.firstB (sa : SoA rk a) (sb : SoA rk b) (h : MH rk a b out na nb) (ha : na ≤ a.size) (hb : nb ≤ b.size) (le : ∀ i x, i < na → a[i]? = some x → ∀ j y, j < nb → b[j]? = some y → rk y ≤ rk x) : Mgd rk a b (b.extract 0 nb ++ a.extract 0 na ++ out.reverse) := by
  have h1 := MH.addA sa h ha (k := na) (t := 0) (by omega) fun i x _ h2 => le i x h2
  have h2 := (MH.addB sb h1 hb (k := nb) (t := 0) (by omega) fun i x _ _ _ j y hj => absurd hj (by omega)).whole
  rw [Array.reverse_append, Array.reverse_append, Array.reverse_reverse, Array.reverse_reverse, ← Array.append_assoc] at h2
  exact h2
end
end PyProof.Rows

namespace PyProof.Rows
open PySem
def mergeHiP : Array Keyed → Array Keyed → StateT SortSt Sem (Array Keyed) := sortPriv% PySem.Builtin.mergeHi
structure LvH (rk : Keyed → Nat) (a b out : Array Keyed) (na nb : Nat) : Prop where
  mh : MH rk a b out na nb
  la : 1 ≤ na
  ka : na ≤ a.size
  lb : 2 ≤ nb
  kb : nb ≤ b.size
section
variable {prog : Program} {w : World} {A : Around} {E : Value → Shared → Prop} {s : Shared} {rk : Keyed → Nat} {S : Keyed → Prop} {κ : SortKind}
theorem mergeHi_ok {a b : Array Keyed} {st : SortSt} {Q : Array Keyed → SortSt → Prop} (hl : LtOk prog w A E s rk S κ) (hk : kindOf st = κ) (na : 1 ≤ a.size) (nb : 1 ≤ b.size) (Sa : ∀ (i : Nat) x, a[i]? = some x → S x) (Sb : ∀ (i : Nat) x, b[i]? = some x → S x) (sa : SoA rk a) (sb : SoA rk b) (first : ∀ x y, b[0]? = some x → a[0]? = some y → rk x ≤ rk y) (last : ∀ (i : Nat) x y, b[i]? = some x → a[a.size - 1]? = some y → rk x ≤ rk y) (k : ∀ out st', Mgd rk a b out → Stay st st' → Q out st') : wpS (model prog w) A E s (mergeHiP a b) Q st := by
  have atA : ∀ {i : Nat}, i < a.size → ∃ x, a[i]? = some x := fun {i} h => ⟨_, Array.getElem?_eq_getElem h⟩
  have atB : ∀ {i : Nat}, i < b.size → ∃ x, b[i]? = some x := fun {i} h => ⟨_, Array.getElem?_eq_getElem h⟩
  obtain ⟨f0, ef0⟩ := atA na
  have firstL : ∀ {nb : Nat}, nb = 1 → ∀ {na : Nat} (i : Nat) x, i < na → a[i]? = some x → ∀ (j : Nat) y, j < nb → b[j]? = some y → rk y ≤ rk x := fun {nb} e {na} i x _ ex j y hj ey => by
    have : j = 0 := by omega
    subst this
    exact Nat.le_trans (first _ _ ey ef0) (sa 0 i _ _ (Nat.zero_le _) ef0 ex)
  refine wpS_bind (wpS_lift (wpAny_rule ⟨rfl, ?_⟩))
  obtain ⟨x0, e0⟩ := atA (i := a.size - 1) (by omega)
  refine wpS_bind (el_ok e0 ?_)
  dsimp only
  have m0 : MH rk a b #[x0] (a.size - 1) b.size := by
    have := MH.pushA (na := a.size - 1) (show MH rk a b #[] (a.size - 1 + 1) b.size by rw [Nat.sub_add_cancel na]; exact MH.nil) sa e0 fun j y _ ey => last j y x0 ey e0
    exact this
  by_cases z1 : (a.size - 1 == 0) = true
  · rw [if_pos z1]
    have z1 : a.size - 1 = 0 := by simpa using z1
    refine wpS_pure (k _ _ ?_ (Stay.refl st))
    rw [z1] at m0 ⊢
    exact m0.doneB sb (Nat.le_refl _)
  rw [if_neg z1]
  have z1 : ¬ a.size - 1 = 0 := fun z => z1 (by simpa using z)
  by_cases z2 : (b.size == 1) = true
  · rw [if_pos z2]
    have z2 : b.size = 1 := by simpa using z2
    exact wpS_pure (k _ _ (m0.firstB sa sb (by omega) (Nat.le_refl _) (firstL z2)) (Stay.refl st))
  rw [if_neg z2]
  have z2 : ¬ b.size = 1 := fun z => z2 (by simpa using z)
  refine wpS_bind (wpS_get ?_)
  refine wpS_bind (wpS_mono (wpS_forRange (I := fun x r st' => Stay st st' ∧ ∃ na nb out g, r = (none, na, nb, out, g) ∧ LvH rk a b out na nb ∧ na + nb + x ≤ a.size + b.size) (Q := fun r st' => Stay st st' ∧ ∃ o t, r = (some o, t) ∧ Mgd rk a b o) ?_ ?_ ⟨Stay.refl st, _, _, _, _, rfl, ⟨m0, by omega, by omega, by omega, Nat.le_refl _⟩, by omega⟩) ?_)
  · rintro x c st1 _ hx ⟨sy, na1, nb1, out, g, rfl, lv, le⟩
    dsimp only
    have hk1 : kindOf st1 = κ := by rw [sy.kind, hk]
    refine wpS_bind (wpS_mono (wpS_forRange (I := fun x r st' => st' = st1 ∧ ∃ na' nb' out' ac bc, r = (none, na', nb', out', ac, bc) ∧ LvH rk a b out' na' nb' ∧ na' + nb' + x ≤ na1 + nb1) (Q := fun r st' => st' = st1 ∧ ((∃ o t, r = (some o, t) ∧ Mgd rk a b o) ∨ ∃ na' nb' out' ac bc, r = (none, na', nb', out', ac, bc) ∧ LvH rk a b out' na' nb' ∧ na' + nb' + 1 ≤ na1 + nb1)) ?_ ?_ ⟨rfl, na1, nb1, out, 0, 0, rfl, lv, Nat.le_refl _⟩) ?_)
    · rintro x' c' st2 _ hx' ⟨rfl, na', nb', out', ac, bc, rfl, lv', le'⟩
      dsimp only
      have la' := lv'.la
      have ka' := lv'.ka
      have lb' := lv'.lb
      have kb' := lv'.kb
      obtain ⟨y, ey⟩ := atB (i := nb' - 1) (by omega)
      obtain ⟨z, ez⟩ := atA (i := na' - 1) (by omega)
      refine wpS_bind (el_ok ey (wpS_bind (el_ok ez (wpS_bind (hl _ _ _ _ (Sb _ _ ey) (Sa _ _ ez) hk1 ?_)))))
      dsimp only
      by_cases lt : rk y < rk z
      · rw [decide_eq_true lt, if_pos rfl]
        refine wpS_bind (el_ok ez ?_)
        try dsimp only
        have mi := (show MH rk a b out' (na' - 1 + 1) nb' by rw [Nat.sub_add_cancel la']; exact lv'.mh).pushA sa ez fun j y' hj ey' => by
          have := sb j (nb' - 1) _ _ (by omega) ey' ey
          omega
        by_cases q : (na' - 1 == 0) = true
        · rw [if_pos q]
          have q : na' - 1 = 0 := by simpa using q
          refine wpS_pure ⟨rfl, .inl ⟨_, _, rfl, ?_⟩⟩
          rw [q] at mi ⊢
          exact mi.doneB sb (by omega)
        rw [if_neg q]
        have q : ¬ na' - 1 = 0 := fun z => q (by simpa using z)
        have lv2 : LvH rk a b (out'.push z) (na' - 1) nb' := ⟨mi, by omega, by omega, by omega, by omega⟩
        split
        · exact wpS_pure ⟨rfl, .inr ⟨_, _, _, _, _, rfl, lv2, by omega⟩⟩
        · exact wpS_pure ⟨rfl, _, _, _, _, _, rfl, lv2, by omega⟩
      · rw [decide_eq_false lt, if_neg (by simp)]
        refine wpS_bind (el_ok ey ?_)
        try dsimp only
        have mi := (show MH rk a b out' na' (nb' - 1 + 1) by rw [Nat.sub_add_cancel (by omega)]; exact lv'.mh).pushB sb ey fun j y' hj ey' => by
          have := sa j (na' - 1) _ _ (by omega) ey' ez
          omega
        by_cases q : (nb' - 1 == 1) = true
        · rw [if_pos q]
          have q : nb' - 1 = 1 := by simpa using q
          exact wpS_pure ⟨rfl, .inl ⟨_, _, rfl, mi.firstB sa sb (by omega) (by omega) (firstL q)⟩⟩
        rw [if_neg q]
        have q : ¬ nb' - 1 = 1 := fun z => q (by simpa using z)
        have lv2 : LvH rk a b (out'.push y) na' (nb' - 1) := ⟨mi, by omega, by omega, by omega, by omega⟩
        split
        · exact wpS_pure ⟨rfl, .inr ⟨_, _, _, _, _, rfl, lv2, by omega⟩⟩
        · exact wpS_pure ⟨rfl, _, _, _, _, _, rfl, lv2, by omega⟩
    · rintro c' st2 ⟨rfl, na', nb', out', ac, bc, rfl, lv', le'⟩
      have := lv'.la
      have := lv'.lb
      have := lv.ka
      have := lv.kb
      omega
    rintro r st2 ⟨rfl, ⟨o, t, rfl, mg⟩ | ⟨na', nb', out', ac, bc, rfl, lv', le'⟩⟩
    · exact wpS_pure ⟨sy, _, _, rfl, mg⟩
    dsimp only
    refine wpS_bind (wpS_lift (wpAny_rule ⟨rfl, ?_⟩))
    refine wpS_bind (wpS_mono (wpS_forRange (I := fun x r st' => Stay st st' ∧ ∃ na2 nb2 out2 g2 ac2 bc2, r = (none, na2, nb2, out2, g2, ac2, bc2) ∧ LvH rk a b out2 na2 nb2 ∧ na2 + nb2 + x ≤ na' + nb') (Q := fun r st' => Stay st st' ∧ ((∃ o t, r = (some o, t) ∧ Mgd rk a b o) ∨ ∃ na2 nb2 out2 g2 ac2 bc2, r = (none, na2, nb2, out2, g2, ac2, bc2) ∧ LvH rk a b out2 na2 nb2 ∧ na2 + nb2 ≤ na' + nb')) ?_ ?_ ⟨sy, na', nb', out', _, _, _, rfl, lv', Nat.le_refl _⟩) ?_)
    · rintro x2 c2 st3 _ hx2 ⟨sy2, na2, nb2, out2, g2, ac2, bc2, rfl, lv2, le2⟩
      dsimp only
      by_cases zg : g2 > 1
      · rw [if_pos zg]
        have sy3 : Stay st (SortSt.mk' (kindOf st3) (arrOf st3) (pendingOf st3) (g2 - 1) (failedOf st3)) := by
          obtain ⟨gg, rfl⟩ := sy2
          exact ⟨_, rfl⟩
        have hk3 : kindOf (SortSt.mk' (kindOf st3) (arrOf st3) (pendingOf st3) (g2 - 1) (failedOf st3)) = κ := by rw [sy3.kind, hk]
        refine wpS_bind (wpS_modify ?_)
        have la2 := lv2.la
        have lb2 := lv2.lb
        have ka2 := lv2.ka
        have kb2 := lv2.kb
        obtain ⟨y, ey⟩ := atB (i := nb2 - 1) (by omega)
        refine wpS_bind (el_ok ey (wpS_bind (gal_right hl hk3 (Sb _ _ ey) (fun i x _ _ e => Sa i x e) (fun i j x y _ h _ => sa i j x y h) (by omega) (by omega) fun t1 ht1 h1 h2 => ?_)))
        try dsimp only
        by_cases zk : na2 - t1 > 0
        · rw [if_pos zk]
          have mi2 := MH.addA sa lv2.mh (by omega) (k := na2 - t1) (t := t1) (by omega) fun i x h1' h2' ex j y' hj ey' => Nat.le_trans (sb j (nb2 - 1) _ _ (by omega) ey' ey) (Nat.le_of_lt (h2 i x (by omega) (by omega) ex))
          by_cases q1 : (t1 == 0) = true
          · rw [if_pos q1]
            have q1 : t1 = 0 := by simpa using q1
            refine wpS_pure ⟨sy3, .inl ⟨_, _, rfl, ?_⟩⟩
            subst q1
            exact mi2.doneB sb (by omega)
          rw [if_neg q1]
          have q1 : ¬ t1 = 0 := fun z => q1 (by simpa using z)
          have mi3 := (show MH rk a b _ (t1) (nb2 - 1 + 1) by rw [Nat.sub_add_cancel (by omega)]; exact mi2).pushB sb ey fun j y' hj ey' => h1 j y' (by omega) (by omega) ey'
          refine wpS_bind (el_ok ey ?_)
          try dsimp only
          by_cases q3 : (nb2 - 1 == 1) = true
          · rw [if_pos q3]
            have q3 : nb2 - 1 = 1 := by simpa using q3
            exact wpS_pure ⟨sy3, .inl ⟨_, _, rfl, mi3.firstB sa sb (by omega) (by omega) (firstL q3)⟩⟩
          rw [if_neg q3]
          have q3 : ¬ nb2 - 1 = 1 := fun z => q3 (by simpa using z)
          obtain ⟨z, ez⟩ := atA (i := t1 - 1) (by omega)
          refine wpS_bind (el_ok ez (wpS_bind (gal_left hl hk3 (Sa _ _ ez) (fun i x _ _ e => Sb i x e) (fun i j x y _ h _ => sb i j x y h) (by omega) (by omega) fun t2 ht2 h3 h4 => ?_)))
          try dsimp only
          by_cases zk2 : nb2 - 1 - t2 > 0
          · rw [if_pos zk2]
            have mi4 := MH.addB sb mi3 (by omega) (k := nb2 - 1 - t2) (t := t2) (by omega) fun i x h1' h2' ex j y' hj ey' => Nat.le_trans (sa j (t1 - 1) _ _ (by omega) ey' ez) (h4 i x (by omega) (by omega) ex)
            by_cases q4 : (t2 == 1) = true
            · rw [if_pos q4]
              have q4 : t2 = 1 := by simpa using q4
              exact wpS_pure ⟨sy3, .inl ⟨_, _, rfl, mi4.firstB sa sb (by omega) (by omega) (firstL q4)⟩⟩
            rw [if_neg q4]
            have q4 : ¬ t2 = 1 := fun z => q4 (by simpa using z)
            by_cases q6 : (t2 == 0) = true
            · rw [if_pos q6]
              have q6 : t2 = 0 := by simpa using q6
              refine wpS_pure ⟨sy3, .inl ⟨_, _, rfl, ?_⟩⟩
              subst q6
              exact mi4.doneA sa (by omega)
            rw [if_neg q6]
            have q6 : ¬ t2 = 0 := fun z => q6 (by simpa using z)
            have mi5 := (show MH rk a b _ (t1 - 1 + 1) (t2) by rw [Nat.sub_add_cancel (by omega)]; exact mi4).pushA sa ez fun j y' hj ey' => Nat.le_of_lt (h3 j y' (by omega) (by omega) ey')
            refine wpS_bind (el_ok ez ?_)
            try dsimp only
            by_cases q5 : (t1 - 1 == 0) = true
            · rw [if_pos q5]
              have q5 : t1 - 1 = 0 := by simpa using q5
              refine wpS_pure ⟨sy3, .inl ⟨_, _, rfl, ?_⟩⟩
              rw [q5] at mi5 ⊢
              exact mi5.doneB sb (by omega)
            rw [if_neg q5]
            have q5 : ¬ t1 - 1 = 0 := fun z => q5 (by simpa using z)
            have lv3 : LvH rk a b _ (t1 - 1) (t2) := ⟨mi5, by omega, by omega, by omega, by omega⟩
            split
            · exact wpS_pure ⟨sy3, .inr ⟨_, _, _, _, _, _, rfl, lv3, by omega⟩⟩
            · exact wpS_pure ⟨sy3, _, _, _, _, _, _, rfl, lv3, by omega⟩
          · rw [if_neg zk2]
            have zk2 : t2 = nb2 - 1 := by omega
            subst zk2
            have mi5 := (show MH rk a b _ (t1 - 1 + 1) (nb2 - 1) by rw [Nat.sub_add_cancel (by omega)]; exact mi3).pushA sa ez fun j y' hj ey' => Nat.le_of_lt (h3 j y' (by omega) (by omega) ey')
            refine wpS_bind (el_ok ez ?_)
            try dsimp only
            by_cases q5 : (t1 - 1 == 0) = true
            · rw [if_pos q5]
              have q5 : t1 - 1 = 0 := by simpa using q5
              refine wpS_pure ⟨sy3, .inl ⟨_, _, rfl, ?_⟩⟩
              rw [q5] at mi5 ⊢
              exact mi5.doneB sb (by omega)
            rw [if_neg q5]
            have q5 : ¬ t1 - 1 = 0 := fun z => q5 (by simpa using z)
            have lv3 : LvH rk a b _ (t1 - 1) (nb2 - 1) := ⟨mi5, by omega, by omega, by omega, by omega⟩
            split
            · exact wpS_pure ⟨sy3, .inr ⟨_, _, _, _, _, _, rfl, lv3, by omega⟩⟩
            · exact wpS_pure ⟨sy3, _, _, _, _, _, _, rfl, lv3, by omega⟩
        · rw [if_neg zk]
          have zk : t1 = na2 := by omega
          subst zk
          have mi3 := (show MH rk a b _ (t1) (nb2 - 1 + 1) by rw [Nat.sub_add_cancel (by omega)]; exact lv2.mh).pushB sb ey fun j y' hj ey' => h1 j y' (by omega) (by omega) ey'
          refine wpS_bind (el_ok ey ?_)
          try dsimp only
          by_cases q3 : (nb2 - 1 == 1) = true
          · rw [if_pos q3]
            have q3 : nb2 - 1 = 1 := by simpa using q3
            exact wpS_pure ⟨sy3, .inl ⟨_, _, rfl, mi3.firstB sa sb (by omega) (by omega) (firstL q3)⟩⟩
          rw [if_neg q3]
          have q3 : ¬ nb2 - 1 = 1 := fun z => q3 (by simpa using z)
          obtain ⟨z, ez⟩ := atA (i := t1 - 1) (by omega)
          refine wpS_bind (el_ok ez (wpS_bind (gal_left hl hk3 (Sa _ _ ez) (fun i x _ _ e => Sb i x e) (fun i j x y _ h _ => sb i j x y h) (by omega) (by omega) fun t2 ht2 h3 h4 => ?_)))
          try dsimp only
          by_cases zk2 : nb2 - 1 - t2 > 0
          · rw [if_pos zk2]
            have mi4 := MH.addB sb mi3 (by omega) (k := nb2 - 1 - t2) (t := t2) (by omega) fun i x h1' h2' ex j y' hj ey' => Nat.le_trans (sa j (t1 - 1) _ _ (by omega) ey' ez) (h4 i x (by omega) (by omega) ex)
            by_cases q4 : (t2 == 1) = true
            · rw [if_pos q4]
              have q4 : t2 = 1 := by simpa using q4
              exact wpS_pure ⟨sy3, .inl ⟨_, _, rfl, mi4.firstB sa sb (by omega) (by omega) (firstL q4)⟩⟩
            rw [if_neg q4]
            have q4 : ¬ t2 = 1 := fun z => q4 (by simpa using z)
            by_cases q6 : (t2 == 0) = true
            · rw [if_pos q6]
              have q6 : t2 = 0 := by simpa using q6
              refine wpS_pure ⟨sy3, .inl ⟨_, _, rfl, ?_⟩⟩
              subst q6
              exact mi4.doneA sa (by omega)
            rw [if_neg q6]
            have q6 : ¬ t2 = 0 := fun z => q6 (by simpa using z)
            have mi5 := (show MH rk a b _ (t1 - 1 + 1) (t2) by rw [Nat.sub_add_cancel (by omega)]; exact mi4).pushA sa ez fun j y' hj ey' => Nat.le_of_lt (h3 j y' (by omega) (by omega) ey')
            refine wpS_bind (el_ok ez ?_)
            try dsimp only
            by_cases q5 : (t1 - 1 == 0) = true
            · rw [if_pos q5]
              have q5 : t1 - 1 = 0 := by simpa using q5
              refine wpS_pure ⟨sy3, .inl ⟨_, _, rfl, ?_⟩⟩
              rw [q5] at mi5 ⊢
              exact mi5.doneB sb (by omega)
            rw [if_neg q5]
            have q5 : ¬ t1 - 1 = 0 := fun z => q5 (by simpa using z)
            have lv3 : LvH rk a b _ (t1 - 1) (t2) := ⟨mi5, by omega, by omega, by omega, by omega⟩
            split
            · exact wpS_pure ⟨sy3, .inr ⟨_, _, _, _, _, _, rfl, lv3, by omega⟩⟩
            · exact wpS_pure ⟨sy3, _, _, _, _, _, _, rfl, lv3, by omega⟩
          · rw [if_neg zk2]
            have zk2 : t2 = nb2 - 1 := by omega
            subst zk2
            have mi5 := (show MH rk a b _ (t1 - 1 + 1) (nb2 - 1) by rw [Nat.sub_add_cancel (by omega)]; exact mi3).pushA sa ez fun j y' hj ey' => Nat.le_of_lt (h3 j y' (by omega) (by omega) ey')
            refine wpS_bind (el_ok ez ?_)
            try dsimp only
            by_cases q5 : (t1 - 1 == 0) = true
            · rw [if_pos q5]
              have q5 : t1 - 1 = 0 := by simpa using q5
              refine wpS_pure ⟨sy3, .inl ⟨_, _, rfl, ?_⟩⟩
              rw [q5] at mi5 ⊢
              exact mi5.doneB sb (by omega)
            rw [if_neg q5]
            have q5 : ¬ t1 - 1 = 0 := fun z => q5 (by simpa using z)
            have lv3 : LvH rk a b _ (t1 - 1) (nb2 - 1) := ⟨mi5, by omega, by omega, by omega, by omega⟩
            split
            · exact wpS_pure ⟨sy3, .inr ⟨_, _, _, _, _, _, rfl, lv3, by omega⟩⟩
            · exact wpS_pure ⟨sy3, _, _, _, _, _, _, rfl, lv3, by omega⟩
      · rw [if_neg zg]
        have sy3 : Stay st (SortSt.mk' (kindOf st3) (arrOf st3) (pendingOf st3) g2 (failedOf st3)) := by
          obtain ⟨gg, rfl⟩ := sy2
          exact ⟨_, rfl⟩
        have hk3 : kindOf (SortSt.mk' (kindOf st3) (arrOf st3) (pendingOf st3) g2 (failedOf st3)) = κ := by rw [sy3.kind, hk]
        refine wpS_bind (wpS_modify ?_)
        have la2 := lv2.la
        have lb2 := lv2.lb
        have ka2 := lv2.ka
        have kb2 := lv2.kb
        obtain ⟨y, ey⟩ := atB (i := nb2 - 1) (by omega)
        refine wpS_bind (el_ok ey (wpS_bind (gal_right hl hk3 (Sb _ _ ey) (fun i x _ _ e => Sa i x e) (fun i j x y _ h _ => sa i j x y h) (by omega) (by omega) fun t1 ht1 h1 h2 => ?_)))
        try dsimp only
        by_cases zk : na2 - t1 > 0
        · rw [if_pos zk]
          have mi2 := MH.addA sa lv2.mh (by omega) (k := na2 - t1) (t := t1) (by omega) fun i x h1' h2' ex j y' hj ey' => Nat.le_trans (sb j (nb2 - 1) _ _ (by omega) ey' ey) (Nat.le_of_lt (h2 i x (by omega) (by omega) ex))
          by_cases q1 : (t1 == 0) = true
          · rw [if_pos q1]
            have q1 : t1 = 0 := by simpa using q1
            refine wpS_pure ⟨sy3, .inl ⟨_, _, rfl, ?_⟩⟩
            subst q1
            exact mi2.doneB sb (by omega)
          rw [if_neg q1]
          have q1 : ¬ t1 = 0 := fun z => q1 (by simpa using z)
          have mi3 := (show MH rk a b _ (t1) (nb2 - 1 + 1) by rw [Nat.sub_add_cancel (by omega)]; exact mi2).pushB sb ey fun j y' hj ey' => h1 j y' (by omega) (by omega) ey'
          refine wpS_bind (el_ok ey ?_)
          try dsimp only
          by_cases q3 : (nb2 - 1 == 1) = true
          · rw [if_pos q3]
            have q3 : nb2 - 1 = 1 := by simpa using q3
            exact wpS_pure ⟨sy3, .inl ⟨_, _, rfl, mi3.firstB sa sb (by omega) (by omega) (firstL q3)⟩⟩
          rw [if_neg q3]
          have q3 : ¬ nb2 - 1 = 1 := fun z => q3 (by simpa using z)
          obtain ⟨z, ez⟩ := atA (i := t1 - 1) (by omega)
          refine wpS_bind (el_ok ez (wpS_bind (gal_left hl hk3 (Sa _ _ ez) (fun i x _ _ e => Sb i x e) (fun i j x y _ h _ => sb i j x y h) (by omega) (by omega) fun t2 ht2 h3 h4 => ?_)))
          try dsimp only
          by_cases zk2 : nb2 - 1 - t2 > 0
          · rw [if_pos zk2]
            have mi4 := MH.addB sb mi3 (by omega) (k := nb2 - 1 - t2) (t := t2) (by omega) fun i x h1' h2' ex j y' hj ey' => Nat.le_trans (sa j (t1 - 1) _ _ (by omega) ey' ez) (h4 i x (by omega) (by omega) ex)
            by_cases q4 : (t2 == 1) = true
            · rw [if_pos q4]
              have q4 : t2 = 1 := by simpa using q4
              exact wpS_pure ⟨sy3, .inl ⟨_, _, rfl, mi4.firstB sa sb (by omega) (by omega) (firstL q4)⟩⟩
            rw [if_neg q4]
            have q4 : ¬ t2 = 1 := fun z => q4 (by simpa using z)
            by_cases q6 : (t2 == 0) = true
            · rw [if_pos q6]
              have q6 : t2 = 0 := by simpa using q6
              refine wpS_pure ⟨sy3, .inl ⟨_, _, rfl, ?_⟩⟩
              subst q6
              exact mi4.doneA sa (by omega)
            rw [if_neg q6]
            have q6 : ¬ t2 = 0 := fun z => q6 (by simpa using z)
            have mi5 := (show MH rk a b _ (t1 - 1 + 1) (t2) by rw [Nat.sub_add_cancel (by omega)]; exact mi4).pushA sa ez fun j y' hj ey' => Nat.le_of_lt (h3 j y' (by omega) (by omega) ey')
            refine wpS_bind (el_ok ez ?_)
            try dsimp only
            by_cases q5 : (t1 - 1 == 0) = true
            · rw [if_pos q5]
              have q5 : t1 - 1 = 0 := by simpa using q5
              refine wpS_pure ⟨sy3, .inl ⟨_, _, rfl, ?_⟩⟩
              rw [q5] at mi5 ⊢
              exact mi5.doneB sb (by omega)
            rw [if_neg q5]
            have q5 : ¬ t1 - 1 = 0 := fun z => q5 (by simpa using z)
            have lv3 : LvH rk a b _ (t1 - 1) (t2) := ⟨mi5, by omega, by omega, by omega, by omega⟩
            split
            · exact wpS_pure ⟨sy3, .inr ⟨_, _, _, _, _, _, rfl, lv3, by omega⟩⟩
            · exact wpS_pure ⟨sy3, _, _, _, _, _, _, rfl, lv3, by omega⟩
          · rw [if_neg zk2]
            have zk2 : t2 = nb2 - 1 := by omega
            subst zk2
            have mi5 := (show MH rk a b _ (t1 - 1 + 1) (nb2 - 1) by rw [Nat.sub_add_cancel (by omega)]; exact mi3).pushA sa ez fun j y' hj ey' => Nat.le_of_lt (h3 j y' (by omega) (by omega) ey')
            refine wpS_bind (el_ok ez ?_)
            try dsimp only
            by_cases q5 : (t1 - 1 == 0) = true
            · rw [if_pos q5]
              have q5 : t1 - 1 = 0 := by simpa using q5
              refine wpS_pure ⟨sy3, .inl ⟨_, _, rfl, ?_⟩⟩
              rw [q5] at mi5 ⊢
              exact mi5.doneB sb (by omega)
            rw [if_neg q5]
            have q5 : ¬ t1 - 1 = 0 := fun z => q5 (by simpa using z)
            have lv3 : LvH rk a b _ (t1 - 1) (nb2 - 1) := ⟨mi5, by omega, by omega, by omega, by omega⟩
            split
            · exact wpS_pure ⟨sy3, .inr ⟨_, _, _, _, _, _, rfl, lv3, by omega⟩⟩
            · exact wpS_pure ⟨sy3, _, _, _, _, _, _, rfl, lv3, by omega⟩
        · rw [if_neg zk]
          have zk : t1 = na2 := by omega
          subst zk
          have mi3 := (show MH rk a b _ (t1) (nb2 - 1 + 1) by rw [Nat.sub_add_cancel (by omega)]; exact lv2.mh).pushB sb ey fun j y' hj ey' => h1 j y' (by omega) (by omega) ey'
          refine wpS_bind (el_ok ey ?_)
          try dsimp only
          by_cases q3 : (nb2 - 1 == 1) = true
          · rw [if_pos q3]
            have q3 : nb2 - 1 = 1 := by simpa using q3
            exact wpS_pure ⟨sy3, .inl ⟨_, _, rfl, mi3.firstB sa sb (by omega) (by omega) (firstL q3)⟩⟩
          rw [if_neg q3]
          have q3 : ¬ nb2 - 1 = 1 := fun z => q3 (by simpa using z)
          obtain ⟨z, ez⟩ := atA (i := t1 - 1) (by omega)
          refine wpS_bind (el_ok ez (wpS_bind (gal_left hl hk3 (Sa _ _ ez) (fun i x _ _ e => Sb i x e) (fun i j x y _ h _ => sb i j x y h) (by omega) (by omega) fun t2 ht2 h3 h4 => ?_)))
          try dsimp only
          by_cases zk2 : nb2 - 1 - t2 > 0
          · rw [if_pos zk2]
            have mi4 := MH.addB sb mi3 (by omega) (k := nb2 - 1 - t2) (t := t2) (by omega) fun i x h1' h2' ex j y' hj ey' => Nat.le_trans (sa j (t1 - 1) _ _ (by omega) ey' ez) (h4 i x (by omega) (by omega) ex)
            by_cases q4 : (t2 == 1) = true
            · rw [if_pos q4]
              have q4 : t2 = 1 := by simpa using q4
              exact wpS_pure ⟨sy3, .inl ⟨_, _, rfl, mi4.firstB sa sb (by omega) (by omega) (firstL q4)⟩⟩
            rw [if_neg q4]
            have q4 : ¬ t2 = 1 := fun z => q4 (by simpa using z)
            by_cases q6 : (t2 == 0) = true
            · rw [if_pos q6]
              have q6 : t2 = 0 := by simpa using q6
              refine wpS_pure ⟨sy3, .inl ⟨_, _, rfl, ?_⟩⟩
              subst q6
              exact mi4.doneA sa (by omega)
            rw [if_neg q6]
            have q6 : ¬ t2 = 0 := fun z => q6 (by simpa using z)
            have mi5 := (show MH rk a b _ (t1 - 1 + 1) (t2) by rw [Nat.sub_add_cancel (by omega)]; exact mi4).pushA sa ez fun j y' hj ey' => Nat.le_of_lt (h3 j y' (by omega) (by omega) ey')
            refine wpS_bind (el_ok ez ?_)
            try dsimp only
            by_cases q5 : (t1 - 1 == 0) = true
            · rw [if_pos q5]
              have q5 : t1 - 1 = 0 := by simpa using q5
              refine wpS_pure ⟨sy3, .inl ⟨_, _, rfl, ?_⟩⟩
              rw [q5] at mi5 ⊢
              exact mi5.doneB sb (by omega)
            rw [if_neg q5]
            have q5 : ¬ t1 - 1 = 0 := fun z => q5 (by simpa using z)
            have lv3 : LvH rk a b _ (t1 - 1) (t2) := ⟨mi5, by omega, by omega, by omega, by omega⟩
            split
            · exact wpS_pure ⟨sy3, .inr ⟨_, _, _, _, _, _, rfl, lv3, by omega⟩⟩
            · exact wpS_pure ⟨sy3, _, _, _, _, _, _, rfl, lv3, by omega⟩
          · rw [if_neg zk2]
            have zk2 : t2 = nb2 - 1 := by omega
            subst zk2
            have mi5 := (show MH rk a b _ (t1 - 1 + 1) (nb2 - 1) by rw [Nat.sub_add_cancel (by omega)]; exact mi3).pushA sa ez fun j y' hj ey' => Nat.le_of_lt (h3 j y' (by omega) (by omega) ey')
            refine wpS_bind (el_ok ez ?_)
            try dsimp only
            by_cases q5 : (t1 - 1 == 0) = true
            · rw [if_pos q5]
              have q5 : t1 - 1 = 0 := by simpa using q5
              refine wpS_pure ⟨sy3, .inl ⟨_, _, rfl, ?_⟩⟩
              rw [q5] at mi5 ⊢
              exact mi5.doneB sb (by omega)
            rw [if_neg q5]
            have q5 : ¬ t1 - 1 = 0 := fun z => q5 (by simpa using z)
            have lv3 : LvH rk a b _ (t1 - 1) (nb2 - 1) := ⟨mi5, by omega, by omega, by omega, by omega⟩
            split
            · exact wpS_pure ⟨sy3, .inr ⟨_, _, _, _, _, _, rfl, lv3, by omega⟩⟩
            · exact wpS_pure ⟨sy3, _, _, _, _, _, _, rfl, lv3, by omega⟩
    · rintro c2 st3 ⟨sy2, na2, nb2, out2, g2, ac2, bc2, rfl, lv2, le2⟩
      have := lv2.la
      have := lv2.lb
      have := lv'.ka
      have := lv'.kb
      omega
    rintro r st3 ⟨sy2, ⟨o, t, rfl, mg⟩ | ⟨na2, nb2, out2, g2, ac2, bc2, rfl, lv2, le2⟩⟩
    · exact wpS_pure ⟨sy2, _, _, rfl, mg⟩
    refine wpS_bind (wpS_modify (wpS_pure ?_))
    refine ⟨?_, _, _, _, _, rfl, lv2, by show na2 + nb2 + (x + 1) ≤ a.size + b.size; omega⟩
    obtain ⟨gg, rfl⟩ := sy2
    exact ⟨_, rfl⟩
  · rintro c st1 ⟨sy, na1, nb1, out, g, rfl, lv, le⟩
    have := lv.la
    have := lv.lb
    omega
  · rintro r st1 ⟨sy, o, t, rfl, mg⟩
    exact wpS_pure (k _ _ mg sy)
end
end PyProof.Rows

namespace PyProof.Rows
open PySem
theorem laid_go (t : Nat) : ∀ (l : List Keyed) (n : Nat) (arr : Array Keyed), t + n + l.length ≤ arr.size → ((l.zipIdx n).foldl (fun a (p : Keyed × Nat) => a.setIfInBounds (t + p.2) p.1) arr).toList = arr.toList.take (t + n) ++ l ++ arr.toList.drop (t + n + l.length)
  | [], n, arr, h => by simp
  | x :: l, n, arr, h => by
    rw [List.length_cons] at h
    rw [List.zipIdx_cons, List.foldl_cons, laid_go t l (n + 1) _ (by rw [Array.size_setIfInBounds]; omega)]
    have hl : t + n < arr.toList.length := by rw [Array.length_toList]; omega
    rw [Array.toList_setIfInBounds, List.length_cons]
    have e1 : (arr.toList.set (t + n) x).take (t + (n + 1)) = arr.toList.take (t + n) ++ [x] := by
      rw [show t + (n + 1) = (t + n) + 1 by omega, List.take_add_one, List.take_set_of_le (Nat.le_refl _), List.getElem?_set_self hl]
      rfl
    have e2 : (arr.toList.set (t + n) x).drop (t + (n + 1) + l.length) = arr.toList.drop (t + n + (l.length + 1)) := by
      rw [List.drop_set_of_lt (by omega)]
      congr 1
      omega
    rw [e1, e2]
    simp
theorem laid_list {t : Nat} {m arr : Array Keyed} (h : t + m.size ≤ arr.size) : (m.toList.zipIdx.foldl (fun a (p : Keyed × Nat) => a.setIfInBounds (t + p.2) p.1) arr).toList = arr.toList.take t ++ m.toList ++ arr.toList.drop (t + m.size) := by
  have := laid_go t m.toList 0 arr (by rw [Array.length_toList]; omega)
  rw [Array.length_toList] at this
  exact this
end PyProof.Rows

namespace PyProof.Rows
open PySem
def SoR (rk : Keyed → Nat) (arr : Array Keyed) (lo hi : Nat) : Prop := ∀ (i j : Nat) (x y : Keyed), lo ≤ i → i ≤ j → j < hi → arr[i]? = some x → arr[j]? = some y → rk x ≤ rk y
structure Mgr (rk : Keyed → Nat) (arr arr' : Array Keyed) (lo hi : Nat) : Prop where
  pm : arr'.toList.Perm arr.toList
  out : ∀ i : Nat, i < lo ∨ hi ≤ i → arr'[i]? = arr[i]?
  so : SoR rk arr' lo hi
section
variable {prog : Program} {w : World} {A : Around} {E : Value → Shared → Prop} {s : Shared} {rk : Keyed → Nat} {S : Keyed → Prop} {κ : SortKind}
theorem SoR.ext {arr : Array Keyed} {lo hi : Nat} (h : SoR rk arr lo hi) (hz : hi ≤ arr.size) : SoA rk (arr.extract lo hi) := fun i j x y ij ex ey => by
  have jl := (Array.getElem?_eq_some_iff.mp ey).1
  rw [Array.size_extract] at jl
  rw [Array.getElem?_extract] at ex ey
  rw [if_pos (by omega)] at ex ey
  exact h (lo + i) (lo + j) x y (by omega) (by omega) (by omega) ex ey
theorem SoR.join {arr : Array Keyed} {lo mid hi : Nat} (h1 : SoR rk arr lo mid) (h2 : SoR rk arr mid hi) (h : ∀ (i j : Nat) x y, lo ≤ i → i < mid → mid ≤ j → j < hi → arr[i]? = some x → arr[j]? = some y → rk x ≤ rk y) : SoR rk arr lo hi := fun i j x y li ij jh ex ey => by
  by_cases a : j < mid
  · exact h1 i j x y li ij a ex ey
  · by_cases b : i < mid
    · exact h i j x y li b (by omega) jh ex ey
    · exact h2 i j x y (by omega) ij jh ex ey
theorem Mgr.same {arr : Array Keyed} {lo hi : Nat} (h : SoR rk arr lo hi) : Mgr rk arr arr lo hi := ⟨List.Perm.refl _, fun _ _ => rfl, h⟩
theorem laid_at {t : Nat} {m arr arr' : Array Keyed} (h : t + m.size ≤ arr.size) (e : arr'.toList = arr.toList.take t ++ m.toList ++ arr.toList.drop (t + m.size)) (i : Nat) : arr'[i]? = if t ≤ i ∧ i < t + m.size then m[i - t]? else arr[i]? := by
  rw [← Array.getElem?_toList, e]
  have l1 : (arr.toList.take t).length = t := by rw [List.length_take, Array.length_toList]; omega
  have l2 : (arr.toList.take t ++ m.toList).length = t + m.size := by rw [List.length_append, l1, Array.length_toList]
  by_cases a : i < t
  · rw [if_neg (by omega), List.append_assoc, List.getElem?_append_left (by omega), List.getElem?_take, if_pos a, Array.getElem?_toList]
  · by_cases b : i < t + m.size
    · rw [if_pos (by omega), List.getElem?_append_left (by omega), List.getElem?_append_right (by omega), l1, Array.getElem?_toList]
    · rw [if_neg (by omega), List.getElem?_append_right (by omega), l2, List.getElem?_drop, show t + m.size + (i - (t + m.size)) = i by omega, Array.getElem?_toList]
theorem mgd_laid {arr arr' m : Array Keyed} {lo t mid u hi : Nat} (b1 : lo ≤ t) (b2 : t < mid) (b3 : mid < u) (b4 : u ≤ hi) (hz : hi ≤ arr.size) (h1 : SoR rk arr lo mid) (h2 : SoR rk arr mid hi) (low : ∀ (i j : Nat) x y, lo ≤ i → i < t → mid ≤ j → j < hi → arr[i]? = some x → arr[j]? = some y → rk x ≤ rk y) (high : ∀ (i j : Nat) x y, lo ≤ i → i < mid → u ≤ j → j < hi → arr[i]? = some x → arr[j]? = some y → rk x ≤ rk y) (mg : Mgd rk (arr.extract t mid) (arr.extract mid u) m) (e : arr'.toList = arr.toList.take t ++ m.toList ++ arr.toList.drop (t + m.size)) : Mgr rk arr arr' lo hi := by
  have ms : m.size = u - t := by
    have := mg.pm.length_eq
    rw [List.length_append, Array.length_toList, Array.length_toList, Array.length_toList, Array.size_extract, Array.size_extract] at this
    omega
  have tm : t + m.size = u := by omega
  have at' := laid_at (t := t) (m := m) (arr := arr) (arr' := arr') (by omega) e
  have ml : arr.extract t mid ++ arr.extract mid u = arr.extract t u := by
    rw [Array.extract_append_extract]
    congr 1 <;> omega
  have inm : ∀ {i : Nat} {x : Keyed}, m[i]? = some x → ∃ j, t ≤ j ∧ j < u ∧ arr[j]? = some x := fun {i x} ex => by
    have hm : x ∈ m.toList := by rw [← Array.getElem?_toList] at ex; exact List.mem_of_getElem? ex
    have := mg.pm.mem_iff.mp hm
    rw [← Array.toList_append, ml] at this
    obtain ⟨j, hj⟩ := List.getElem?_of_mem this
    rw [Array.getElem?_toList, Array.getElem?_extract] at hj
    split at hj
    · exact ⟨t + j, by omega, by omega, hj⟩
    · cases hj
  refine ⟨?_, fun i hi' => ?_, fun i j x y li ij jh ex ey => ?_⟩
  · rw [e]
    have : arr.toList = arr.toList.take t ++ (arr.extract t u).toList ++ arr.toList.drop (t + m.size) := by
      rw [Array.toList_extract, tm, List.append_assoc]
      simp only [List.extract]
      have : (arr.toList.drop t).take (u - t) ++ arr.toList.drop u = arr.toList.drop t := by
        have := List.take_append_drop (u - t) (arr.toList.drop t)
        rw [List.drop_drop, show t + (u - t) = u by omega] at this
        exact this
      rw [this, List.take_append_drop]
    rw (occs := .pos [3]) [this]
    refine List.Perm.append_right _ (List.Perm.append_left _ ?_)
    rw [← ml, Array.toList_append]
    exact mg.pm
  · rw [at', if_neg (by omega)]
  · rw [at'] at ex ey
    by_cases ci : t ≤ i ∧ i < t + m.size
    · rw [if_pos ci] at ex
      by_cases cj : t ≤ j ∧ j < t + m.size
      · rw [if_pos cj] at ey
        by_cases q : i = j
        · subst q
          rw [ex] at ey
          cases ey
          exact Nat.le_refl _
        · have := List.pairwise_iff_getElem.mp mg.so (i - t) (j - t) (by rw [Array.length_toList]; omega) (by rw [Array.length_toList]; omega) (by omega)
          obtain ⟨_, f1⟩ := Array.getElem?_eq_some_iff.mp ex
          obtain ⟨_, f2⟩ := Array.getElem?_eq_some_iff.mp ey
          rw [Array.getElem_toList, Array.getElem_toList, f1, f2] at this
          exact this
      · rw [if_neg cj] at ey
        obtain ⟨k, k1, k2, ek⟩ := inm ex
        by_cases q : k < mid
        · exact high k j x y (by omega) q (by omega) jh ek ey
        · exact h2 k j x y (by omega) (by omega) jh ek ey
    · rw [if_neg ci] at ex
      by_cases cj : t ≤ j ∧ j < t + m.size
      · rw [if_pos cj] at ey
        obtain ⟨k, k1, k2, ek⟩ := inm ey
        by_cases q : k < mid
        · exact h1 i k x y li (by omega) q ex ek
        · exact low i k x y li (by omega) (by omega) (by omega) ex ek
      · rw [if_neg cj] at ey
        by_cases q : i < t
        · by_cases r : j < mid
          · exact h1 i j x y li ij r ex ey
          · exact low i j x y li q (by omega) jh ex ey
        · exact h2 i j x y (by omega) ij jh ex ey
end
end PyProof.Rows

namespace PyProof.Rows
open PySem
section
variable {prog : Program} {w : World} {A : Around} {E : Value → Shared → Prop} {s : Shared} {rk : Keyed → Nat} {S : Keyed → Prop} {κ : SortKind}
theorem wpS_setS {st st' : SortSt} {Q : PUnit → SortSt → Prop} (h : Q ⟨⟩ st') : wpS (model prog w) A E s (set st' : StateT SortSt Sem PUnit) Q st := by
  unfold wpS
  rw [StateT.run_set]
  exact wpAny_pure ⟨rfl, h⟩
theorem mergeAt_ok {st : SortSt} {Q : Bool → SortSt → Prop} {i sa na pw sb nb pw' : Nat} (hl : LtOk prog w A E s rk S κ) (hk : kindOf st = κ) (hf : failedOf st = none) (e1 : (pendingOf st)[i]? = some (sa, na, pw)) (e2 : (pendingOf st)[i + 1]? = some (sb, nb, pw')) (hab : sb = sa + na) (na1 : 1 ≤ na) (nb1 : 1 ≤ nb) (hz : sb + nb ≤ (arrOf st).size) (Sall : ∀ (i : Nat) x, (arrOf st)[i]? = some x → S x) (s1 : SoR rk (arrOf st) sa sb) (s2 : SoR rk (arrOf st) sb (sb + nb))
    (k : ∀ st', kindOf st' = κ → failedOf st' = none → pendingOf st' = ((pendingOf st).setIfInBounds i (sa, na + nb, pw)).eraseIdxIfInBounds (i + 1) → Mgr rk (arrOf st) (arrOf st') sa (sb + nb) → Q true st') : wpS (model prog w) A E s (mergeAt' i) Q st := by
  subst hab
  have at' : ∀ {j : Nat}, j < (arrOf st).size → ∃ x, (arrOf st)[j]? = some x := fun {j} h => ⟨_, Array.getElem?_eq_getElem h⟩
  refine wpS_bind (wpS_get ?_)
  rw [e1, e2]
  dsimp only
  refine wpS_bind (wpS_setS ?_)
  obtain ⟨y0, ey0⟩ := at' (j := sa + na) (by omega)
  refine wpS_bind (el_ok ey0 (wpS_bind (gal_right hl hk (Sall _ _ ey0) (fun i x _ _ e => Sall i x e) (fun i j x y h1 h2 h3 => s1 i j x y h1 h2 h3) (show sa + na ≤ (arrOf st).size by omega) (by omega) fun kk hkk h1 h2 => ?_)))
  dsimp only
  by_cases q1 : (na - kk == 0) = true
  · rw [if_pos q1]
    have q1 : na - kk = 0 := by simpa using q1
    refine wpS_pure (k _ hk hf rfl (Mgr.same (s1.join s2 fun i j x y a1 a2 a3 a4 ex ey => ?_)))
    exact Nat.le_trans (h1 i x a1 (by omega) ex) (s2 _ _ _ _ (Nat.le_refl _) a3 a4 ey0 ey)
  rw [if_neg q1]
  have q1 : ¬ na - kk = 0 := fun z => q1 (by simpa using z)
  obtain ⟨xl, exl⟩ := at' (j := sa + kk + (na - kk) - 1) (by omega)
  refine wpS_bind (el_ok exl (wpS_bind (gal_left hl hk (Sall _ _ exl) (fun i x _ _ e => Sall i x e) (fun i j x y h1 h2 h3 => s2 i j x y h1 h2 h3) (show sa + na + nb ≤ (arrOf st).size by omega) (by omega) fun t2 ht2 h3 h4 => ?_)))
  dsimp only
  have low : ∀ (i j : Nat) x y, sa ≤ i → i < sa + kk → sa + na ≤ j → j < sa + na + nb → (arrOf st)[i]? = some x → (arrOf st)[j]? = some y → rk x ≤ rk y := fun i j x y a1 a2 a3 a4 ex ey => Nat.le_trans (h1 i x a1 a2 ex) (s2 _ _ _ _ (Nat.le_refl _) a3 a4 ey0 ey)
  have high : ∀ (i j : Nat) x y, sa ≤ i → i < sa + na → sa + na + t2 ≤ j → j < sa + na + nb → (arrOf st)[i]? = some x → (arrOf st)[j]? = some y → rk x ≤ rk y := fun i j x y a1 a2 a3 a4 ex ey => Nat.le_trans (s1 i _ x xl a1 (by omega) (by omega) ex exl) (h4 j y a3 a4 ey)
  by_cases q2 : (t2 == 0) = true
  · rw [if_pos q2]
    have q2 : t2 = 0 := by simpa using q2
    subst q2
    exact wpS_pure (k _ hk hf rfl (Mgr.same (s1.join s2 fun i j x y a1 a2 a3 a4 ex ey => high i j x y a1 a2 a3 a4 ex ey)))
  rw [if_neg q2]
  have q2 : ¬ t2 = 0 := fun z => q2 (by simpa using z)
  have sx : SoA rk ((arrOf st).extract (sa + kk) (sa + na)) := SoR.ext (fun i j x y a1 a2 a3 => s1 i j x y (by omega) a2 a3) (by omega)
  have sy : SoA rk ((arrOf st).extract (sa + na) (sa + na + t2)) := SoR.ext (fun i j x y a1 a2 a3 => s2 i j x y (by omega) a2 (by omega)) (by omega)
  have zx : ((arrOf st).extract (sa + kk) (sa + na)).size = na - kk := by rw [Array.size_extract]; omega
  have zy : ((arrOf st).extract (sa + na) (sa + na + t2)).size = t2 := by rw [Array.size_extract]; omega
  have ax : ∀ {j : Nat} {x : Keyed}, ((arrOf st).extract (sa + kk) (sa + na))[j]? = some x → (arrOf st)[sa + kk + j]? = some x ∧ j < na - kk := fun {j x} e => by
    have := (Array.getElem?_eq_some_iff.mp e).1
    rw [Array.getElem?_extract, if_pos (by omega)] at e
    exact ⟨e, by omega⟩
  have ay : ∀ {j : Nat} {x : Keyed}, ((arrOf st).extract (sa + na) (sa + na + t2))[j]? = some x → (arrOf st)[sa + na + j]? = some x ∧ j < t2 := fun {j x} e => by
    have := (Array.getElem?_eq_some_iff.mp e).1
    rw [Array.getElem?_extract, if_pos (by omega)] at e
    exact ⟨e, by omega⟩
  have fst : ∀ x y, ((arrOf st).extract (sa + na) (sa + na + t2))[0]? = some x → ((arrOf st).extract (sa + kk) (sa + na))[0]? = some y → rk x ≤ rk y := fun x y ex ey => by
    have e := (ay ex).1
    rw [Nat.add_zero, ey0] at e
    cases e
    exact Nat.le_of_lt (h2 _ y (by omega) (by omega) (ax ey).1)
  have lst : ∀ (i : Nat) x y, ((arrOf st).extract (sa + na) (sa + na + t2))[i]? = some x → ((arrOf st).extract (sa + kk) (sa + na))[((arrOf st).extract (sa + kk) (sa + na)).size - 1]? = some y → rk x ≤ rk y := fun i x y ex ey => by
    have e := (ax ey).1
    rw [zx, show sa + kk + (na - kk - 1) = sa + kk + (na - kk) - 1 by omega, exl] at e
    cases e
    exact Nat.le_of_lt (h3 _ x (by omega) (by have := (ay ex).2; omega) (ay ex).1)
  have fin : ∀ (m : Array Keyed) (st1 : SortSt), Mgd rk ((arrOf st).extract (sa + kk) (sa + na)) ((arrOf st).extract (sa + na) (sa + na + t2)) m → Stay (SortSt.mk' (kindOf st) (arrOf st) (((pendingOf st).setIfInBounds i (sa, na + nb, pw)).eraseIdxIfInBounds (i + 1)) (gallopOf st) (failedOf st)) st1 → wpS (model prog w) A E s (do modify fun s => setArr s (m.toList.zipIdx.foldl (fun a (p : Keyed × Nat) => a.setIfInBounds (sa + kk + p.2) p.1) (arrOf s)); pure (failedOf (← get)).isNone) Q st1 := fun m st1 mg sy1 => by
    obtain ⟨g, rfl⟩ := sy1
    refine wpS_bind (wpS_modify (wpS_bind (wpS_get (wpS_pure ?_))))
    show Q (failedOf st).isNone _
    rw [hf]
    have ms : m.size = na - kk + t2 := by
      have := mg.pm.length_eq
      rw [List.length_append, Array.length_toList, Array.length_toList, Array.length_toList, zx, zy] at this
      exact this
    refine k _ hk rfl rfl (mgd_laid (t := sa + kk) (mid := sa + na) (u := sa + na + t2) (by omega) (by omega) (by omega) (by omega) (by omega) s1 s2 low high mg (laid_list (show sa + kk + m.size ≤ (arrOf st).size by omega)))
  by_cases q3 : na - kk ≤ t2
  · rw [if_pos q3]
    exact wpS_bind (mergeLo_ok hl hk (show 1 ≤ ((arrOf st).extract (sa + kk) (sa + na)).size by rw [zx]; omega) (show 1 ≤ ((arrOf st).extract (sa + na) (sa + na + t2)).size by rw [zy]; omega) (fun i x e => Sall _ x (ax e).1) (fun i x e => Sall _ x (ay e).1) sx sy fst lst fin)
  · rw [if_neg q3]
    exact wpS_bind (mergeHi_ok hl hk (show 1 ≤ ((arrOf st).extract (sa + kk) (sa + na)).size by rw [zx]; omega) (show 1 ≤ ((arrOf st).extract (sa + na) (sa + na + t2)).size by rw [zy]; omega) (fun i x e => Sall _ x (ax e).1) (fun i x e => Sall _ x (ay e).1) sx sy fst lst fin)
end
end PyProof.Rows

namespace PyProof.Rows
open PySem
structure Rea (arr arr' : Array Keyed) (lo hi : Nat) : Prop where
  pm : arr'.toList.Perm arr.toList
  out : ∀ i : Nat, i < lo ∨ hi ≤ i → arr'[i]? = arr[i]?
section
variable {prog : Program} {w : World} {A : Around} {E : Value → Shared → Prop} {s : Shared} {rk : Keyed → Nat} {S : Keyed → Prop} {κ : SortKind}
theorem Rea.refl (arr : Array Keyed) (lo hi : Nat) : Rea arr arr lo hi := ⟨List.Perm.refl _, fun _ _ => rfl⟩
theorem Rea.size {arr arr' : Array Keyed} {lo hi : Nat} (h : Rea arr arr' lo hi) : arr'.size = arr.size := by
  have := h.pm.length_eq
  rw [Array.length_toList, Array.length_toList] at this
  exact this
theorem Rea.all {arr arr' : Array Keyed} {lo hi : Nat} (h : Rea arr arr' lo hi) (Sa : ∀ (i : Nat) x, arr[i]? = some x → S x) (i : Nat) (x : Keyed) (e : arr'[i]? = some x) : S x := by
  rw [← Array.getElem?_toList] at e
  obtain ⟨j, hj⟩ := List.getElem?_of_mem (h.pm.mem_iff.mp (List.mem_of_getElem? e))
  rw [Array.getElem?_toList] at hj
  exact Sa j x hj
theorem Rea.trans {a b c : Array Keyed} {lo hi : Nat} (h : Rea a b lo hi) (h2 : Rea b c lo hi) : Rea a c lo hi := ⟨h2.pm.trans h.pm, fun i hi => (h2.out i hi).trans (h.out i hi)⟩
theorem ins_ok {arr : Array Keyed} {lo k l hi : Nat} {key : Keyed} (hk : lo + k < hi) (hz : hi ≤ arr.size) (lk : l ≤ k) (ek : arr[lo + k]? = some key) (so : SoR rk arr lo (lo + k)) (h1 : ∀ (i : Nat) x, lo ≤ i → i < lo + l → arr[i]? = some x → rk x ≤ rk key) (h2 : ∀ (i : Nat) x, lo + l ≤ i → i < lo + k → arr[i]? = some x → rk key ≤ rk x) : Rea arr (bubble arr (lo + k) (lo + k - (lo + l))) lo hi ∧ SoR rk (bubble arr (lo + k) (lo + k - (lo + l))) lo (lo + k + 1) := by
  have g := getElem?_bubble (xs := arr) (src := lo + k) (by omega) (lo + k - (lo + l)) (by omega)
  rw [show lo + k - (lo + k - (lo + l)) = lo + l by omega] at g
  refine ⟨⟨Array.perm_iff_toList_perm.mp (bubble_perm _ _ _), fun i hi' => ?_⟩, fun i j x y li ij jh ex ey => ?_⟩
  · rw [g, if_neg (by omega), if_neg (by omega)]
  · rw [g] at ex ey
    by_cases ci : i = lo + l
    · rw [if_pos ci, ek] at ex
      cases ex
      by_cases cj : j = lo + l
      · rw [if_pos cj, ek] at ey
        cases ey
        exact Nat.le_refl _
      · rw [if_neg cj, if_pos (by omega)] at ey
        exact h2 (j - 1) y (by omega) (by omega) ey
    · rw [if_neg ci] at ex
      by_cases di : lo + l < i ∧ i ≤ lo + k
      · rw [if_pos di] at ex
        rw [if_neg (by omega), if_pos (by omega)] at ey
        exact so (i - 1) (j - 1) x y (by omega) (by omega) (by omega) ex ey
      · rw [if_neg di] at ex
        by_cases cj : j = lo + l
        · rw [if_pos cj, ek] at ey
          cases ey
          exact h1 i x li (by omega) ex
        · rw [if_neg cj] at ey
          by_cases dj : lo + l < j ∧ j ≤ lo + k
          · rw [if_pos dj] at ey
            exact so i (j - 1) x y li (by omega) (by omega) ex ey
          · rw [if_neg dj] at ey
            exact so i j x y li ij (by omega) ex ey
end
end PyProof.Rows

namespace PyProof.Rows
open PySem
section
variable {prog : Program} {w : World} {A : Around} {E : Value → Shared → Prop} {s : Shared} {rk : Keyed → Nat} {S : Keyed → Prop} {κ : SortKind}
theorem ltAt_ok {st : SortSt} {i j : Nat} {x y : Keyed} {Q : Option Bool → SortSt → Prop} (hl : LtOk prog w A E s rk S κ) (hk : kindOf st = κ) (ex : (arrOf st)[i]? = some x) (ey : (arrOf st)[j]? = some y) (Sx : S x) (Sy : S y) (h : Q (some (decide (rk x < rk y))) st) : wpS (model prog w) A E s (ltAt' i j) Q st := by
  rw [ltAt'_eq]
  exact wpS_bind (wpS_get (wpS_bind (el_ok ex (wpS_bind (el_ok ey (hl _ _ _ _ Sx Sy hk h))))))
theorem move_ok {st : SortSt} {src dst : Nat} {Q : Unit → SortSt → Prop} (h : Q () (setArr st (bubble (arrOf st) src (src - dst)))) : wpS (model prog w) A E s (moveDown' src dst) Q st := by
  rw [moveDown'_eq]
  exact wpS_modify h
theorem binarySort_ok {st : SortSt} {Q : Bool → SortSt → Prop} {lo n ok : Nat} (hl : LtOk prog w A E s rk S κ) (hk : kindOf st = κ) (hz : lo + n ≤ (arrOf st).size) (hok : ok ≤ n) (Sall : ∀ (i : Nat) x, (arrOf st)[i]? = some x → S x) (so : SoR rk (arrOf st) lo (lo + ok)) (k : ∀ arr', Rea (arrOf st) arr' lo (lo + n) → SoR rk arr' lo (lo + n) → Q true (setArr st arr')) : wpS (model prog w) A E s (binarySort' lo n ok) Q st := by
  refine wpS_bind (wpS_mono (wpS_forRange (I := fun x c st' => c = (none, ()) ∧ ∃ arr', st' = setArr st arr' ∧ Rea (arrOf st) arr' lo (lo + n) ∧ SoR rk arr' lo (lo + x)) (Q := fun c st' => c = (none, ()) ∧ ∃ arr', st' = setArr st arr' ∧ Rea (arrOf st) arr' lo (lo + n) ∧ SoR rk arr' lo (lo + n)) ?_ ?_ ⟨rfl, arrOf st, rfl, Rea.refl _ _ _, ?_⟩) ?_)
  · rintro x c st' hx1 hx ⟨rfl, arr', rfl, re, so'⟩
    have sz := re.size
    obtain ⟨key, ek⟩ : ∃ key, arr'[lo + x]? = some key := ⟨_, Array.getElem?_eq_getElem (by omega)⟩
    refine wpS_bind (wpS_mono (wpS_forRange (I := fun y r st'' => st'' = setArr st arr' ∧ ∃ l h, r = (none, l, h) ∧ l ≤ h ∧ h - l ≤ x - y ∧ h ≤ x ∧ (∀ (i : Nat) z, lo ≤ i → i < lo + l → arr'[i]? = some z → rk z ≤ rk key) ∧ (∀ (i : Nat) z, lo + h ≤ i → i < lo + x → arr'[i]? = some z → rk key ≤ rk z)) (Q := fun r st'' => st'' = setArr st arr' ∧ ∃ l h, r = (none, l, h) ∧ l ≤ x ∧ (∀ (i : Nat) z, lo ≤ i → i < lo + l → arr'[i]? = some z → rk z ≤ rk key) ∧ (∀ (i : Nat) z, lo + l ≤ i → i < lo + x → arr'[i]? = some z → rk key ≤ rk z)) ?_ ?_ ⟨rfl, 0, x, rfl, by omega, by omega, by omega, fun i z h1 h2 => absurd h2 (by omega), fun i z h1 h2 => absurd h2 (by omega)⟩) ?_)
    · rintro y r st'' _ hy ⟨rfl, l, h, rfl, lh, me, hh, i1, i2⟩
      dsimp only
      by_cases z : l ≥ h
      · rw [if_pos z]
        exact wpS_pure ⟨rfl, l, h, rfl, by omega, i1, fun i z' a b => i2 i z' (by omega) b⟩
      rw [if_neg z]
      obtain ⟨v, ev⟩ : ∃ v, arr'[lo + (l + h) / 2]? = some v := ⟨_, Array.getElem?_eq_getElem (by omega)⟩
      refine wpS_bind (ltAt_ok hl hk ek ev (re.all Sall _ _ ek) (re.all Sall _ _ ev) ?_)
      dsimp only
      by_cases lt : rk key < rk v
      · rw [decide_eq_true lt, if_pos rfl]
        exact wpS_pure ⟨rfl, l, (l + h) / 2, rfl, by omega, by omega, by omega, i1, fun i z' a b e => by
          have := so' _ i _ _ (by omega) a (by omega) ev e
          omega⟩
      · rw [decide_eq_false lt, if_neg (by simp)]
        exact wpS_pure ⟨rfl, (l + h) / 2 + 1, h, rfl, by omega, by omega, hh, fun i z' a b e => by
          have := so' i (lo + (l + h) / 2) _ _ a (by omega) (by omega) e ev
          omega, i2⟩
    · rintro r st'' ⟨rfl, l, h, rfl, lh, me, hh, i1, i2⟩
      exact ⟨rfl, l, h, rfl, by omega, i1, fun i z' a b => i2 i z' (by omega) b⟩
    · rintro r st'' ⟨rfl, l, h, rfl, lx, i1, i2⟩
      dsimp only
      have fin := ins_ok (hi := lo + n) (by omega) (by omega) lx ek so' i1 i2
      exact wpS_bind (move_ok (wpS_pure ⟨rfl, _, rfl, re.trans fin.1, fin.2⟩))
  · rintro c st' ⟨rfl, arr', rfl, re, so'⟩
    exact ⟨rfl, arr', rfl, re, fun i j x y a b d => so' i j x y a b (by omega)⟩
  · intro i j x y a b d ex ey
    by_cases z : j < lo + ok
    · exact so i j x y a b z ex ey
    · have : i = j := by omega
      subst this
      rw [ex] at ey
      cases ey
      exact Nat.le_refl _
  · rintro c st' ⟨rfl, arr', rfl, re, so'⟩
    exact wpS_pure (k arr' re so')
end
end PyProof.Rows

namespace PyProof.Rows
open PySem
def DeR (rk : Keyed → Nat) (arr : Array Keyed) (lo hi : Nat) : Prop := ∀ (i j : Nat) (x y : Keyed), lo ≤ i → i ≤ j → j < hi → arr[i]? = some x → arr[j]? = some y → rk y ≤ rk x
def EqR (rk : Keyed → Nat) (arr : Array Keyed) (lo hi : Nat) : Prop := ∀ (i j : Nat) (x y : Keyed), lo ≤ i → i < hi → lo ≤ j → j < hi → arr[i]? = some x → arr[j]? = some y → rk x = rk y
def Kr (rk : Keyed → Nat) (arr arr' : Array Keyed) : Prop := ∀ (k : Nat) (x' : Keyed), arr'[k]? = some x' → ∃ x, arr[k]? = some x ∧ rk x' = rk x
section
variable {prog : Program} {w : World} {A : Around} {E : Value → Shared → Prop} {s : Shared} {rk : Keyed → Nat} {S : Keyed → Prop} {κ : SortKind}
theorem SoR.one {arr : Array Keyed} {lo : Nat} : SoR rk arr lo (lo + 1) := fun i j x y a b c ex ey => by
  have : i = j := by omega
  subst this
  rw [ex] at ey
  cases ey
  exact Nat.le_refl _
theorem EqR.one {arr : Array Keyed} {lo : Nat} : EqR rk arr (lo + 1 - (0 + 1)) (lo + 1) := fun i j x y a b c d ex ey => by
  have : i = j := by omega
  subst this
  rw [ex] at ey
  cases ey
  rfl
theorem SoR.snoc {arr : Array Keyed} {lo hi : Nat} {x y : Keyed} (h : SoR rk arr lo hi) (l : lo < hi) (ex : arr[hi]? = some x) (ey : arr[hi - 1]? = some y) (le : rk y ≤ rk x) : SoR rk arr lo (hi + 1) := fun i j a b li ij jh ea eb => by
  by_cases z : j < hi
  · exact h i j a b li ij z ea eb
  · have : j = hi := by omega
    subst this
    rw [ex] at eb
    cases eb
    by_cases q : i = j
    · subst q
      rw [ex] at ea
      cases ea
      exact Nat.le_refl _
    · exact Nat.le_trans (h i (j - 1) a y li (by omega) (by omega) ea ey) le
theorem DeR.snoc {arr : Array Keyed} {lo hi : Nat} {x y : Keyed} (h : DeR rk arr lo hi) (l : lo < hi) (ex : arr[hi]? = some x) (ey : arr[hi - 1]? = some y) (le : rk x ≤ rk y) : DeR rk arr lo (hi + 1) := fun i j a b li ij jh ea eb => by
  by_cases z : j < hi
  · exact h i j a b li ij z ea eb
  · have : j = hi := by omega
    subst this
    rw [ex] at eb
    cases eb
    by_cases q : i = j
    · subst q
      rw [ex] at ea
      cases ea
      exact Nat.le_refl _
    · exact Nat.le_trans le (h i (j - 1) a y li (by omega) (by omega) ea ey)
theorem EqR.snoc {arr : Array Keyed} {lo hi : Nat} {x y : Keyed} (h : EqR rk arr lo hi) (l : lo < hi) (ex : arr[hi]? = some x) (ey : arr[hi - 1]? = some y) (le : rk x = rk y) : EqR rk arr lo (hi + 1) := by
  have key : ∀ (i : Nat) a, lo ≤ i → i < hi + 1 → arr[i]? = some a → rk a = rk y := fun i a li ih ea => by
    by_cases z : i < hi
    · exact h i (hi - 1) a y li z (by omega) (by omega) ea ey
    · have : i = hi := by omega
      subst this
      rw [ex] at ea
      cases ea
      exact le
  exact fun i j a b li ih lj jh ea eb => (key i a li ih ea).trans (key j b lj jh eb).symm
theorem DeR.kr {arr arr' : Array Keyed} {lo hi : Nat} (h : DeR rk arr lo hi) (k : Kr rk arr arr') : DeR rk arr' lo hi := fun i j a b li ij jh ea eb => by
  obtain ⟨a', e1, q1⟩ := k i a ea
  obtain ⟨b', e2, q2⟩ := k j b eb
  rw [q1, q2]
  exact h i j a' b' li ij jh e1 e2
theorem EqR.mir {arr : Array Keyed} {lo hi : Nat} (h : EqR rk arr lo hi) (hz : hi ≤ arr.size) : Kr rk arr (mirror arr lo hi ((hi - lo) / 2)) := fun k x' e => by
  have g := getElem?_mirror_all (xs := arr) (i := lo) hz k
  rw [g] at e
  split at e
  · rename_i q
    obtain ⟨x, ex⟩ : ∃ x, arr[k]? = some x := ⟨_, Array.getElem?_eq_getElem (by omega)⟩
    exact ⟨x, ex, h _ _ _ _ (by omega) (by omega) q.1 q.2 e ex⟩
  · exact ⟨x', e, rfl⟩
theorem mir_rea {arr : Array Keyed} {i j lo hi : Nat} (li : lo ≤ i) (jh : j ≤ hi) (hz : hi ≤ arr.size) : Rea arr (mirror arr i j ((j - i) / 2)) lo hi := ⟨Array.perm_iff_toList_perm.mp (mirror_perm _ _ _ _), fun k hk => by
  rw [getElem?_mirror_all (by omega)]
  by_cases q : i ≤ k ∧ k < j
  · omega
  · rw [if_neg q]⟩
theorem DeR.mir {arr : Array Keyed} {lo hi : Nat} (h : DeR rk arr lo hi) (hz : hi ≤ arr.size) : SoR rk (mirror arr lo hi ((hi - lo) / 2)) lo hi := fun i j a b li ij jh ea eb => by
  rw [getElem?_mirror_all hz, if_pos (by omega)] at ea eb
  exact h _ _ b a (by omega) (by omega) (by omega) eb ea
theorem rev_ok {st : SortSt} {i j : Nat} {Q : Unit → SortSt → Prop} (h : Q () (setArr st (mirror (arrOf st) i j ((j - i) / 2)))) : wpS (model prog w) A E s (reverseSlice' i j) Q st := by
  rw [reverseSlice'_eq]
  exact wpS_modify h
theorem countRun_ok {st : SortSt} {Q : Option Nat → SortSt → Prop} {lo nrem : Nat} (hl : LtOk prog w A E s rk S κ) (hk : kindOf st = κ) (hz : lo + nrem ≤ (arrOf st).size) (h1 : 1 ≤ nrem) (Sall : ∀ (i : Nat) x, (arrOf st)[i]? = some x → S x)
    (k : ∀ arr' m, Rea (arrOf st) arr' lo (lo + nrem) → 1 ≤ m → m ≤ nrem → SoR rk arr' lo (lo + m) → Q (some m) (setArr st arr')) : wpS (model prog w) A E s (countRun' lo nrem) Q st := by
  refine wpS_bind (wpS_mono (wpS_forRange (I := fun x c st' => st' = setArr st (arrOf st) ∧ c = (none, x) ∧ SoR rk (arrOf st) lo (lo + x)) (Q := fun c st' => st' = setArr st (arrOf st) ∧ ∃ n, c = (none, n) ∧ 1 ≤ n ∧ n ≤ nrem ∧ SoR rk (arrOf st) lo (lo + n) ∧ (n = nrem ∨ ∀ x y, (arrOf st)[lo + n]? = some x → (arrOf st)[lo + n - 1]? = some y → rk x < rk y)) ?_ ?_ ⟨rfl, rfl, ?_⟩) ?_)
  · rintro x c st' hx1 hx ⟨rfl, rfl, so⟩
    dsimp only
    have hzz : lo + nrem ≤ (arrOf st).size := by rw [Rea.size (Rea.refl (arrOf st) lo (lo + nrem))]; exact hz
    obtain ⟨a, ea⟩ : ∃ a, (arrOf st)[lo + x]? = some a := ⟨_, Array.getElem?_eq_getElem (by omega)⟩
    obtain ⟨b, eb⟩ : ∃ b, (arrOf st)[lo + x - 1]? = some b := ⟨_, Array.getElem?_eq_getElem (by omega)⟩
    refine wpS_bind (ltAt_ok hl hk ea eb (Rea.all (Rea.refl (arrOf st) lo (lo + nrem)) Sall _ _ ea) (Rea.all (Rea.refl (arrOf st) lo (lo + nrem)) Sall _ _ eb) ?_)
    dsimp only
    by_cases lt : rk a < rk b
    · rw [decide_eq_true lt, if_pos rfl]
      exact wpS_pure ⟨rfl, x, rfl, by omega, by omega, so, .inr fun p q ep eq => by rw [ea] at ep; rw [eb] at eq; cases ep; cases eq; exact lt⟩
    · rw [decide_eq_false lt, if_neg (by simp)]
      exact wpS_pure ⟨rfl, rfl, so.snoc (by omega) ea eb (by omega)⟩
  · rintro c st' ⟨rfl, rfl, so⟩
    rw [Nat.max_eq_right (by omega)] at so ⊢
    exact ⟨rfl, nrem, rfl, h1, Nat.le_refl _, so, .inl rfl⟩
  · exact SoR.one
  · rintro c st' ⟨rfl, n, rfl, n1, n2, so, fall⟩
    dsimp only
    by_cases q1 : (n == nrem) = true
    · rw [if_pos q1]
      exact wpS_pure (k (arrOf st) n (Rea.refl _ _ _) n1 n2 so)
    rw [if_neg q1]
    have q1 : ¬ n = nrem := fun z => q1 (by simpa using z)
    have fall := fall.resolve_left q1
    obtain ⟨a, ea⟩ : ∃ a, (arrOf st)[lo + n]? = some a := ⟨_, Array.getElem?_eq_getElem (by omega)⟩
    obtain ⟨b, eb⟩ : ∃ b, (arrOf st)[lo + n - 1]? = some b := ⟨_, Array.getElem?_eq_getElem (by omega)⟩
    have flt := fall a b ea eb
    by_cases q2 : n > 1
    · rw [if_pos q2]
      obtain ⟨z, ez⟩ : ∃ z, (arrOf st)[lo]? = some z := ⟨_, Array.getElem?_eq_getElem (by omega)⟩
      refine wpS_bind (ltAt_ok hl hk ez eb (Sall _ _ ez) (Sall _ _ eb) ?_)
      dsimp only
      by_cases rose : rk z < rk b
      · rw [decide_eq_true rose, if_pos rfl]
        exact wpS_pure (k (arrOf st) n (Rea.refl _ _ _) n1 n2 so)
      rw [decide_eq_false rose, if_neg (by simp)]
      have eqa : EqR rk (arrOf st) lo (lo + n) := by
        have key : ∀ (i : Nat) x, lo ≤ i → i < lo + n → (arrOf st)[i]? = some x → rk x = rk b := fun i x li ih ex => by
          have := so lo i z x (Nat.le_refl _) li ih ez ex
          have := so i (lo + n - 1) x b li (by omega) (by omega) ex eb
          omega
        exact fun i j x y li ih lj jh ex ey => (key i x li ih ex).trans (key j y lj jh ey).symm
      have re0 : Rea (arrOf st) (mirror (arrOf st) lo (lo + n) ((lo + n - lo) / 2)) lo (lo + nrem) := mir_rea (Nat.le_refl _) (by omega) hz
      have de0 : DeR rk (mirror (arrOf st) lo (lo + n) ((lo + n - lo) / 2)) lo (lo + n + 1) := DeR.kr (DeR.snoc (fun i j x y li ij jh ex ey => Nat.le_of_eq (eqa j i y x (by omega) jh li (by omega) ey ex)) (by omega) ea eb (Nat.le_of_lt flt)) (eqa.mir (by omega))
      refine wpS_bind (rev_ok ?_)
      refine wpS_bind (wpS_lift (wpAny_rule ⟨rfl, ?_⟩))
      refine wpS_bind (wpS_mono (wpS_forRange (I := fun x c st' => ∃ arr' neq, st' = setArr st arr' ∧ c = (none, x, neq) ∧ Rea (arrOf st) arr' lo (lo + nrem) ∧ neq + 1 ≤ x ∧ DeR rk arr' lo (lo + x) ∧ EqR rk arr' (lo + x - (neq + 1)) (lo + x)) (Q := fun c st' => ∃ arr' n neq, st' = setArr st arr' ∧ c = (none, n, neq) ∧ Rea (arrOf st) arr' lo (lo + nrem) ∧ 1 ≤ n ∧ n ≤ nrem ∧ neq + 1 ≤ n ∧ DeR rk arr' lo (lo + n) ∧ EqR rk arr' (lo + n - (neq + 1)) (lo + n)) ?_ ?_ ⟨mirror (arrOf st) lo (lo + n) ((lo + n - lo) / 2), 0, rfl, rfl, re0, by omega, de0, EqR.one (lo := lo + n)⟩) ?_)
      · rintro x c st' hx1 hx ⟨arr', neq, rfl, rfl, re', nq, de', eq'⟩
        dsimp only
        have hzz : lo + nrem ≤ arr'.size := by rw [Rea.size re']; exact hz
        obtain ⟨a, ea⟩ : ∃ a, arr'[lo + x]? = some a := ⟨_, Array.getElem?_eq_getElem (by omega)⟩
        obtain ⟨b, eb⟩ : ∃ b, arr'[lo + x - 1]? = some b := ⟨_, Array.getElem?_eq_getElem (by omega)⟩
        refine wpS_bind (ltAt_ok hl hk ea eb (Rea.all re' Sall _ _ ea) (Rea.all re' Sall _ _ eb) ?_)
        dsimp only
        by_cases lt : rk a < rk b
        · rw [decide_eq_true lt, if_pos rfl]
          have dn : DeR rk arr' lo (lo + x + 1) := de'.snoc (by omega) ea eb (by omega)
          by_cases q : neq > 0
          · rw [if_pos q]
            exact wpS_bind (rev_ok (wpS_pure ⟨_, 0, rfl, rfl, Rea.trans re' (mir_rea (by omega) (by omega) hzz), by omega, dn.kr (eq'.mir (by omega)), EqR.one (lo := lo + x)⟩))
          · rw [if_neg q]
            exact wpS_pure ⟨arr', 0, rfl, rfl, re', by omega, dn, EqR.one (lo := lo + x)⟩
        · rw [decide_eq_false lt, if_neg (by simp)]
          refine wpS_bind (ltAt_ok hl hk eb ea (Rea.all re' Sall _ _ eb) (Rea.all re' Sall _ _ ea) ?_)
          dsimp only
          by_cases gt : rk b < rk a
          · rw [decide_eq_true gt, if_pos rfl]
            exact wpS_pure ⟨arr', x, neq, rfl, rfl, re', by omega, by omega, nq, de', eq'⟩
          · rw [decide_eq_false gt, if_neg (by simp)]
            refine wpS_pure ⟨arr', neq + 1, rfl, rfl, re', by omega, de'.snoc (by omega) ea eb (by omega), ?_⟩
            have := eq'.snoc (by omega) ea eb (by omega)
            rw [show lo + (x + 1) - (neq + 1 + 1) = lo + x - (neq + 1) by omega]
            exact this
      · rintro c st' ⟨arr', neq, rfl, rfl, re', nq, de', eq'⟩
        rw [Nat.max_eq_right (by omega)] at nq de' eq' ⊢
        exact ⟨arr', nrem, neq, rfl, rfl, re', h1, Nat.le_refl _, nq, de', eq'⟩
      · rintro c st' ⟨arr', n', neq, rfl, rfl, re', n1, n2, nq, de', eq'⟩
        dsimp only
        have hzz : lo + nrem ≤ arr'.size := by rw [Rea.size re']; exact hz
        by_cases q : neq > 0
        · rw [if_pos q]
          have reM : Rea (arrOf st) (mirror arr' (lo + n' - (neq + 1)) (lo + n') ((lo + n' - (lo + n' - (neq + 1))) / 2)) lo (lo + nrem) := Rea.trans re' (mir_rea (by omega) (by omega) hzz)
          have deM := de'.kr (eq'.mir (by omega))
          refine wpS_bind (rev_ok ?_)
          have reT : Rea (arrOf st) (mirror (mirror arr' (lo + n' - (neq + 1)) (lo + n') ((lo + n' - (lo + n' - (neq + 1))) / 2)) lo (lo + n') ((lo + n' - lo) / 2)) lo (lo + nrem) := Rea.trans reM (mir_rea (Nat.le_refl _) (by omega) (by rw [Rea.size reM]; exact hz))
          refine wpS_bind (rev_ok ?_)
          refine wpS_bind (wpS_mono (wpS_forRange (I := fun x c st' => st' = setArr st (mirror (mirror arr' (lo + n' - (neq + 1)) (lo + n') ((lo + n' - (lo + n' - (neq + 1))) / 2)) lo (lo + n') ((lo + n' - lo) / 2)) ∧ c = (none, x) ∧ SoR rk (mirror (mirror arr' (lo + n' - (neq + 1)) (lo + n') ((lo + n' - (lo + n' - (neq + 1))) / 2)) lo (lo + n') ((lo + n' - lo) / 2)) lo (lo + x)) (Q := fun c st' => st' = setArr st (mirror (mirror arr' (lo + n' - (neq + 1)) (lo + n') ((lo + n' - (lo + n' - (neq + 1))) / 2)) lo (lo + n') ((lo + n' - lo) / 2)) ∧ ∃ n, c = (none, n) ∧ 1 ≤ n ∧ n ≤ nrem ∧ SoR rk (mirror (mirror arr' (lo + n' - (neq + 1)) (lo + n') ((lo + n' - (lo + n' - (neq + 1))) / 2)) lo (lo + n') ((lo + n' - lo) / 2)) lo (lo + n)) ?_ ?_ ⟨rfl, rfl, ?_⟩) ?_)
          · rintro x c st' hx1 hx ⟨rfl, rfl, so⟩
            dsimp only
            have hzz : lo + nrem ≤ (mirror (mirror arr' (lo + n' - (neq + 1)) (lo + n') ((lo + n' - (lo + n' - (neq + 1))) / 2)) lo (lo + n') ((lo + n' - lo) / 2)).size := by rw [Rea.size reT]; exact hz
            obtain ⟨a, ea⟩ : ∃ a, (mirror (mirror arr' (lo + n' - (neq + 1)) (lo + n') ((lo + n' - (lo + n' - (neq + 1))) / 2)) lo (lo + n') ((lo + n' - lo) / 2))[lo + x]? = some a := ⟨_, Array.getElem?_eq_getElem (by omega)⟩
            obtain ⟨b, eb⟩ : ∃ b, (mirror (mirror arr' (lo + n' - (neq + 1)) (lo + n') ((lo + n' - (lo + n' - (neq + 1))) / 2)) lo (lo + n') ((lo + n' - lo) / 2))[lo + x - 1]? = some b := ⟨_, Array.getElem?_eq_getElem (by omega)⟩
            refine wpS_bind (ltAt_ok hl hk ea eb (Rea.all reT Sall _ _ ea) (Rea.all reT Sall _ _ eb) ?_)
            dsimp only
            by_cases lt : rk a < rk b
            · rw [decide_eq_true lt, if_pos rfl]
              exact wpS_pure ⟨rfl, x, rfl, by omega, by omega, so⟩
            · rw [decide_eq_false lt, if_neg (by simp)]
              exact wpS_pure ⟨rfl, rfl, so.snoc (by omega) ea eb (by omega)⟩
          · rintro c st' ⟨rfl, rfl, so⟩
            rw [Nat.max_eq_right (by omega)] at so ⊢
            exact ⟨rfl, nrem, rfl, h1, Nat.le_refl _, so⟩
          · exact DeR.mir deM (by rw [Rea.size reM]; omega)
          · rintro c st' ⟨rfl, m, rfl, m1, m2, so⟩
            exact wpS_pure (k _ m reT m1 m2 so)
        · rw [if_neg q]
          have reT : Rea (arrOf st) (mirror (arr') lo (lo + n') ((lo + n' - lo) / 2)) lo (lo + nrem) := Rea.trans re' (mir_rea (Nat.le_refl _) (by omega) (by rw [Rea.size re']; exact hz))
          refine wpS_bind (rev_ok ?_)
          refine wpS_bind (wpS_mono (wpS_forRange (I := fun x c st' => st' = setArr st (mirror (arr') lo (lo + n') ((lo + n' - lo) / 2)) ∧ c = (none, x) ∧ SoR rk (mirror (arr') lo (lo + n') ((lo + n' - lo) / 2)) lo (lo + x)) (Q := fun c st' => st' = setArr st (mirror (arr') lo (lo + n') ((lo + n' - lo) / 2)) ∧ ∃ n, c = (none, n) ∧ 1 ≤ n ∧ n ≤ nrem ∧ SoR rk (mirror (arr') lo (lo + n') ((lo + n' - lo) / 2)) lo (lo + n)) ?_ ?_ ⟨rfl, rfl, ?_⟩) ?_)
          · rintro x c st' hx1 hx ⟨rfl, rfl, so⟩
            dsimp only
            have hzz : lo + nrem ≤ (mirror (arr') lo (lo + n') ((lo + n' - lo) / 2)).size := by rw [Rea.size reT]; exact hz
            obtain ⟨a, ea⟩ : ∃ a, (mirror (arr') lo (lo + n') ((lo + n' - lo) / 2))[lo + x]? = some a := ⟨_, Array.getElem?_eq_getElem (by omega)⟩
            obtain ⟨b, eb⟩ : ∃ b, (mirror (arr') lo (lo + n') ((lo + n' - lo) / 2))[lo + x - 1]? = some b := ⟨_, Array.getElem?_eq_getElem (by omega)⟩
            refine wpS_bind (ltAt_ok hl hk ea eb (Rea.all reT Sall _ _ ea) (Rea.all reT Sall _ _ eb) ?_)
            dsimp only
            by_cases lt : rk a < rk b
            · rw [decide_eq_true lt, if_pos rfl]
              exact wpS_pure ⟨rfl, x, rfl, by omega, by omega, so⟩
            · rw [decide_eq_false lt, if_neg (by simp)]
              exact wpS_pure ⟨rfl, rfl, so.snoc (by omega) ea eb (by omega)⟩
          · rintro c st' ⟨rfl, rfl, so⟩
            rw [Nat.max_eq_right (by omega)] at so ⊢
            exact ⟨rfl, nrem, rfl, h1, Nat.le_refl _, so⟩
          · exact DeR.mir de' (by rw [Rea.size re']; omega)
          · rintro c st' ⟨rfl, m, rfl, m1, m2, so⟩
            exact wpS_pure (k _ m reT m1 m2 so)
    · rw [if_neg q2]
      have de0 : DeR rk (arrOf st) lo (lo + n + 1) := DeR.snoc (fun i j x y li ij jh ex ey => by
        have : i = j := by omega
        subst this
        rw [ex] at ey
        cases ey
        exact Nat.le_refl _) (by omega) ea eb (Nat.le_of_lt flt)
      have re0 : Rea (arrOf st) (arrOf st) lo (lo + nrem) := Rea.refl _ _ _
      refine wpS_bind (wpS_lift (wpAny_rule ⟨rfl, ?_⟩))
      refine wpS_bind (wpS_mono (wpS_forRange (I := fun x c st' => ∃ arr' neq, st' = setArr st arr' ∧ c = (none, x, neq) ∧ Rea (arrOf st) arr' lo (lo + nrem) ∧ neq + 1 ≤ x ∧ DeR rk arr' lo (lo + x) ∧ EqR rk arr' (lo + x - (neq + 1)) (lo + x)) (Q := fun c st' => ∃ arr' n neq, st' = setArr st arr' ∧ c = (none, n, neq) ∧ Rea (arrOf st) arr' lo (lo + nrem) ∧ 1 ≤ n ∧ n ≤ nrem ∧ neq + 1 ≤ n ∧ DeR rk arr' lo (lo + n) ∧ EqR rk arr' (lo + n - (neq + 1)) (lo + n)) ?_ ?_ ⟨arrOf st, 0, rfl, rfl, re0, by omega, de0, EqR.one (lo := lo + n)⟩) ?_)
      · rintro x c st' hx1 hx ⟨arr', neq, rfl, rfl, re', nq, de', eq'⟩
        dsimp only
        have hzz : lo + nrem ≤ arr'.size := by rw [Rea.size re']; exact hz
        obtain ⟨a, ea⟩ : ∃ a, arr'[lo + x]? = some a := ⟨_, Array.getElem?_eq_getElem (by omega)⟩
        obtain ⟨b, eb⟩ : ∃ b, arr'[lo + x - 1]? = some b := ⟨_, Array.getElem?_eq_getElem (by omega)⟩
        refine wpS_bind (ltAt_ok hl hk ea eb (Rea.all re' Sall _ _ ea) (Rea.all re' Sall _ _ eb) ?_)
        dsimp only
        by_cases lt : rk a < rk b
        · rw [decide_eq_true lt, if_pos rfl]
          have dn : DeR rk arr' lo (lo + x + 1) := de'.snoc (by omega) ea eb (by omega)
          by_cases q : neq > 0
          · rw [if_pos q]
            exact wpS_bind (rev_ok (wpS_pure ⟨_, 0, rfl, rfl, Rea.trans re' (mir_rea (by omega) (by omega) hzz), by omega, dn.kr (eq'.mir (by omega)), EqR.one (lo := lo + x)⟩))
          · rw [if_neg q]
            exact wpS_pure ⟨arr', 0, rfl, rfl, re', by omega, dn, EqR.one (lo := lo + x)⟩
        · rw [decide_eq_false lt, if_neg (by simp)]
          refine wpS_bind (ltAt_ok hl hk eb ea (Rea.all re' Sall _ _ eb) (Rea.all re' Sall _ _ ea) ?_)
          dsimp only
          by_cases gt : rk b < rk a
          · rw [decide_eq_true gt, if_pos rfl]
            exact wpS_pure ⟨arr', x, neq, rfl, rfl, re', by omega, by omega, nq, de', eq'⟩
          · rw [decide_eq_false gt, if_neg (by simp)]
            refine wpS_pure ⟨arr', neq + 1, rfl, rfl, re', by omega, de'.snoc (by omega) ea eb (by omega), ?_⟩
            have := eq'.snoc (by omega) ea eb (by omega)
            rw [show lo + (x + 1) - (neq + 1 + 1) = lo + x - (neq + 1) by omega]
            exact this
      · rintro c st' ⟨arr', neq, rfl, rfl, re', nq, de', eq'⟩
        rw [Nat.max_eq_right (by omega)] at nq de' eq' ⊢
        exact ⟨arr', nrem, neq, rfl, rfl, re', h1, Nat.le_refl _, nq, de', eq'⟩
      · rintro c st' ⟨arr', n', neq, rfl, rfl, re', n1, n2, nq, de', eq'⟩
        dsimp only
        have hzz : lo + nrem ≤ arr'.size := by rw [Rea.size re']; exact hz
        by_cases q : neq > 0
        · rw [if_pos q]
          have reM : Rea (arrOf st) (mirror arr' (lo + n' - (neq + 1)) (lo + n') ((lo + n' - (lo + n' - (neq + 1))) / 2)) lo (lo + nrem) := Rea.trans re' (mir_rea (by omega) (by omega) hzz)
          have deM := de'.kr (eq'.mir (by omega))
          refine wpS_bind (rev_ok ?_)
          have reT : Rea (arrOf st) (mirror (mirror arr' (lo + n' - (neq + 1)) (lo + n') ((lo + n' - (lo + n' - (neq + 1))) / 2)) lo (lo + n') ((lo + n' - lo) / 2)) lo (lo + nrem) := Rea.trans reM (mir_rea (Nat.le_refl _) (by omega) (by rw [Rea.size reM]; exact hz))
          refine wpS_bind (rev_ok ?_)
          refine wpS_bind (wpS_mono (wpS_forRange (I := fun x c st' => st' = setArr st (mirror (mirror arr' (lo + n' - (neq + 1)) (lo + n') ((lo + n' - (lo + n' - (neq + 1))) / 2)) lo (lo + n') ((lo + n' - lo) / 2)) ∧ c = (none, x) ∧ SoR rk (mirror (mirror arr' (lo + n' - (neq + 1)) (lo + n') ((lo + n' - (lo + n' - (neq + 1))) / 2)) lo (lo + n') ((lo + n' - lo) / 2)) lo (lo + x)) (Q := fun c st' => st' = setArr st (mirror (mirror arr' (lo + n' - (neq + 1)) (lo + n') ((lo + n' - (lo + n' - (neq + 1))) / 2)) lo (lo + n') ((lo + n' - lo) / 2)) ∧ ∃ n, c = (none, n) ∧ 1 ≤ n ∧ n ≤ nrem ∧ SoR rk (mirror (mirror arr' (lo + n' - (neq + 1)) (lo + n') ((lo + n' - (lo + n' - (neq + 1))) / 2)) lo (lo + n') ((lo + n' - lo) / 2)) lo (lo + n)) ?_ ?_ ⟨rfl, rfl, ?_⟩) ?_)
          · rintro x c st' hx1 hx ⟨rfl, rfl, so⟩
            dsimp only
            have hzz : lo + nrem ≤ (mirror (mirror arr' (lo + n' - (neq + 1)) (lo + n') ((lo + n' - (lo + n' - (neq + 1))) / 2)) lo (lo + n') ((lo + n' - lo) / 2)).size := by rw [Rea.size reT]; exact hz
            obtain ⟨a, ea⟩ : ∃ a, (mirror (mirror arr' (lo + n' - (neq + 1)) (lo + n') ((lo + n' - (lo + n' - (neq + 1))) / 2)) lo (lo + n') ((lo + n' - lo) / 2))[lo + x]? = some a := ⟨_, Array.getElem?_eq_getElem (by omega)⟩
            obtain ⟨b, eb⟩ : ∃ b, (mirror (mirror arr' (lo + n' - (neq + 1)) (lo + n') ((lo + n' - (lo + n' - (neq + 1))) / 2)) lo (lo + n') ((lo + n' - lo) / 2))[lo + x - 1]? = some b := ⟨_, Array.getElem?_eq_getElem (by omega)⟩
            refine wpS_bind (ltAt_ok hl hk ea eb (Rea.all reT Sall _ _ ea) (Rea.all reT Sall _ _ eb) ?_)
            dsimp only
            by_cases lt : rk a < rk b
            · rw [decide_eq_true lt, if_pos rfl]
              exact wpS_pure ⟨rfl, x, rfl, by omega, by omega, so⟩
            · rw [decide_eq_false lt, if_neg (by simp)]
              exact wpS_pure ⟨rfl, rfl, so.snoc (by omega) ea eb (by omega)⟩
          · rintro c st' ⟨rfl, rfl, so⟩
            rw [Nat.max_eq_right (by omega)] at so ⊢
            exact ⟨rfl, nrem, rfl, h1, Nat.le_refl _, so⟩
          · exact DeR.mir deM (by rw [Rea.size reM]; omega)
          · rintro c st' ⟨rfl, m, rfl, m1, m2, so⟩
            exact wpS_pure (k _ m reT m1 m2 so)
        · rw [if_neg q]
          have reT : Rea (arrOf st) (mirror (arr') lo (lo + n') ((lo + n' - lo) / 2)) lo (lo + nrem) := Rea.trans re' (mir_rea (Nat.le_refl _) (by omega) (by rw [Rea.size re']; exact hz))
          refine wpS_bind (rev_ok ?_)
          refine wpS_bind (wpS_mono (wpS_forRange (I := fun x c st' => st' = setArr st (mirror (arr') lo (lo + n') ((lo + n' - lo) / 2)) ∧ c = (none, x) ∧ SoR rk (mirror (arr') lo (lo + n') ((lo + n' - lo) / 2)) lo (lo + x)) (Q := fun c st' => st' = setArr st (mirror (arr') lo (lo + n') ((lo + n' - lo) / 2)) ∧ ∃ n, c = (none, n) ∧ 1 ≤ n ∧ n ≤ nrem ∧ SoR rk (mirror (arr') lo (lo + n') ((lo + n' - lo) / 2)) lo (lo + n)) ?_ ?_ ⟨rfl, rfl, ?_⟩) ?_)
          · rintro x c st' hx1 hx ⟨rfl, rfl, so⟩
            dsimp only
            have hzz : lo + nrem ≤ (mirror (arr') lo (lo + n') ((lo + n' - lo) / 2)).size := by rw [Rea.size reT]; exact hz
            obtain ⟨a, ea⟩ : ∃ a, (mirror (arr') lo (lo + n') ((lo + n' - lo) / 2))[lo + x]? = some a := ⟨_, Array.getElem?_eq_getElem (by omega)⟩
            obtain ⟨b, eb⟩ : ∃ b, (mirror (arr') lo (lo + n') ((lo + n' - lo) / 2))[lo + x - 1]? = some b := ⟨_, Array.getElem?_eq_getElem (by omega)⟩
            refine wpS_bind (ltAt_ok hl hk ea eb (Rea.all reT Sall _ _ ea) (Rea.all reT Sall _ _ eb) ?_)
            dsimp only
            by_cases lt : rk a < rk b
            · rw [decide_eq_true lt, if_pos rfl]
              exact wpS_pure ⟨rfl, x, rfl, by omega, by omega, so⟩
            · rw [decide_eq_false lt, if_neg (by simp)]
              exact wpS_pure ⟨rfl, rfl, so.snoc (by omega) ea eb (by omega)⟩
          · rintro c st' ⟨rfl, rfl, so⟩
            rw [Nat.max_eq_right (by omega)] at so ⊢
            exact ⟨rfl, nrem, rfl, h1, Nat.le_refl _, so⟩
          · exact DeR.mir de' (by rw [Rea.size re']; omega)
          · rintro c st' ⟨rfl, m, rfl, m1, m2, so⟩
            exact wpS_pure (k _ m reT m1 m2 so)
end
end PyProof.Rows

namespace PyProof.Rows
open PySem
def Runs (rk : Keyed → Nat) (arr : Array Keyed) : List (Nat × Nat × Nat) → Nat → Nat → Prop
  | [], a, b => a = b
  | r :: l, a, b => r.1 = a ∧ 1 ≤ r.2.1 ∧ SoR rk arr a (a + r.2.1) ∧ Runs rk arr l (a + r.2.1) b
section
variable {prog : Program} {w : World} {A : Around} {E : Value → Shared → Prop} {s : Shared} {rk : Keyed → Nat} {S : Keyed → Prop} {κ : SortKind}
theorem Runs.le {arr : Array Keyed} : ∀ {l : List (Nat × Nat × Nat)} {a b : Nat}, Runs rk arr l a b → a + l.length ≤ b
  | [], a, b, h => Nat.le_of_eq h
  | r :: l, a, b, h => by
    have := Runs.le h.2.2.2
    have := h.2.1
    rw [List.length_cons]
    omega
theorem Runs.app {arr : Array Keyed} : ∀ {l l2 : List (Nat × Nat × Nat)} {a b c : Nat}, Runs rk arr l a b → Runs rk arr l2 b c → Runs rk arr (l ++ l2) a c
  | [], l2, a, b, c, h, h2 => by
    cases (show a = b from h)
    exact h2
  | r :: l, l2, a, b, c, h, h2 => ⟨h.1, h.2.1, h.2.2.1, Runs.app h.2.2.2 h2⟩
theorem Runs.cut {arr : Array Keyed} : ∀ {l l2 : List (Nat × Nat × Nat)} {a c : Nat}, Runs rk arr (l ++ l2) a c → ∃ b, Runs rk arr l a b ∧ Runs rk arr l2 b c
  | [], l2, a, c, h => ⟨a, rfl, h⟩
  | r :: l, l2, a, c, h => by
    obtain ⟨b, h1, h2⟩ := Runs.cut h.2.2.2
    exact ⟨b, ⟨h.1, h.2.1, h.2.2.1, h1⟩, h2⟩
theorem Runs.out {arr arr' : Array Keyed} : ∀ {l : List (Nat × Nat × Nat)} {a b : Nat}, Runs rk arr l a b → (∀ i : Nat, a ≤ i → i < b → arr'[i]? = arr[i]?) → Runs rk arr' l a b
  | [], a, b, h, k => h
  | r :: l, a, b, h, k => by
    have := Runs.le h.2.2.2
    refine ⟨h.1, h.2.1, fun i j x y li ij jh ex ey => ?_, Runs.out h.2.2.2 fun i p q => k i (by omega) q⟩
    rw [k _ (by omega) (by omega)] at ex ey
    exact h.2.2.1 i j x y li ij jh ex ey
theorem Runs.last {arr : Array Keyed} {f : Nat × Nat × Nat → Nat × Nat × Nat} (hf : ∀ r, (f r).1 = r.1 ∧ (f r).2.1 = r.2.1) : ∀ {l : List (Nat × Nat × Nat)} {a b k : Nat}, Runs rk arr l a b → Runs rk arr (l.modify k f) a b
  | [], a, b, k, h => by
    rw [List.modify_nil]
    exact h
  | r :: l, a, b, 0, h => by
    rw [List.modify_zero_cons]
    refine ⟨(hf r).1.trans h.1, ?_, ?_, ?_⟩
    · rw [(hf r).2]
      exact h.2.1
    · rw [(hf r).2]
      exact h.2.2.1
    · rw [(hf r).2]
      exact h.2.2.2
  | r :: l, a, b, k + 1, h => by
    rw [List.modify_succ_cons]
    exact ⟨h.1, h.2.1, h.2.2.1, Runs.last hf h.2.2.2⟩
theorem two_of {α : Type} {l : List α} {i : Nat} {x y : α} (e1 : l[i]? = some x) (e2 : l[i + 1]? = some y) : ∃ l1 l2, l = l1 ++ x :: y :: l2 ∧ l1.length = i := by
  have h1 := (List.getElem?_eq_some_iff.mp e1).1
  have h2 := (List.getElem?_eq_some_iff.mp e2).1
  refine ⟨l.take i, l.drop (i + 2), ?_, by rw [List.length_take]; omega⟩
  have d1 : l.drop i = x :: l.drop (i + 1) := by
    rw [List.drop_eq_getElem_cons h1, (List.getElem?_eq_some_iff.mp e1).2]
  have d2 : l.drop (i + 1) = y :: l.drop (i + 2) := by
    rw [List.drop_eq_getElem_cons h2, (List.getElem?_eq_some_iff.mp e2).2]
  rw [← d2, ← d1, List.take_append_drop]
theorem pend_set {p : Array (Nat × Nat × Nat)} {i : Nat} {x y z : Nat × Nat × Nat} {l1 l2 : List (Nat × Nat × Nat)} (e : p.toList = l1 ++ x :: y :: l2) (li : l1.length = i) : ((p.setIfInBounds i z).eraseIdxIfInBounds (i + 1)).toList = l1 ++ z :: l2 := by
  subst li
  have e1 : (p.setIfInBounds l1.length z).toList = l1 ++ z :: y :: l2 := by
    rw [Array.toList_setIfInBounds, e, List.set_append_right _ _ (Nat.le_refl _), Nat.sub_self]
    rfl
  have sz : (p.setIfInBounds l1.length z).size = l1.length + 2 + l2.length := by
    rw [← Array.length_toList, e1, List.length_append, List.length_cons, List.length_cons]
    omega
  unfold Array.eraseIdxIfInBounds
  rw [dif_pos (by omega), Array.toList_eraseIdx, e1, List.eraseIdx_append_of_length_le (by omega), Nat.add_sub_cancel_left]
  rfl
structure Srn (rk : Keyed → Nat) (κ : SortKind) (a0 : Array Keyed) (lo : Nat) (st : SortSt) : Prop where
  kind : kindOf st = κ
  fail : failedOf st = none
  pm : (arrOf st).toList.Perm a0.toList
  runs : Runs rk (arrOf st) (pendingOf st).toList 0 lo
theorem Srn.size {a0 : Array Keyed} {lo : Nat} {st : SortSt} (h : Srn rk κ a0 lo st) : (arrOf st).size = a0.size := by
  have := h.pm.length_eq
  rw [Array.length_toList, Array.length_toList] at this
  exact this
theorem Srn.all {a0 : Array Keyed} {lo : Nat} {st : SortSt} (h : Srn rk κ a0 lo st) (Sa : ∀ (i : Nat) x, a0[i]? = some x → S x) (i : Nat) (x : Keyed) (e : (arrOf st)[i]? = some x) : S x := by
  rw [← Array.getElem?_toList] at e
  obtain ⟨j, hj⟩ := List.getElem?_of_mem (h.pm.mem_iff.mp (List.mem_of_getElem? e))
  rw [Array.getElem?_toList] at hj
  exact Sa j x hj
theorem merge_ok {st : SortSt} {Q : Bool → SortSt → Prop} {i lo : Nat} {a0 : Array Keyed} (hl : LtOk prog w A E s rk S κ) (h : Srn rk κ a0 lo st) (Sa : ∀ (i : Nat) x, a0[i]? = some x → S x) (hi : i + 1 < (pendingOf st).size) (hlo : lo ≤ a0.size)
    (k : ∀ st', Srn rk κ a0 lo st' → (pendingOf st').size + 1 = (pendingOf st).size → (∀ j : Nat, lo ≤ j → (arrOf st')[j]? = (arrOf st)[j]?) → Q true st') : wpS (model prog w) A E s (mergeAt' i) Q st := by
  obtain ⟨⟨sa, na, pa⟩, e1⟩ : ∃ x, (pendingOf st)[i]? = some x := ⟨_, Array.getElem?_eq_getElem (by omega)⟩
  obtain ⟨⟨sb, nb, pb⟩, e2⟩ : ∃ x, (pendingOf st)[i + 1]? = some x := ⟨_, Array.getElem?_eq_getElem hi⟩
  obtain ⟨l1, l2, el, li⟩ := two_of (l := (pendingOf st).toList) (by rw [Array.getElem?_toList]; exact e1) (by rw [Array.getElem?_toList]; exact e2)
  have rn := h.runs
  rw [el] at rn
  obtain ⟨c, r1, rn⟩ := rn.cut
  obtain ⟨q1, n1, s1, rn⟩ := rn
  obtain ⟨q2, n2, s2, rn⟩ := rn
  dsimp only at q1 n1 s1 q2 n2 s2 rn
  subst q1
  have r1le := r1.le
  have rnle := rn.le
  have sz := h.size
  refine mergeAt_ok hl h.kind h.fail e1 e2 q2 n1 n2 (by omega) (h.all Sa) (q2 ▸ s1) (q2 ▸ s2) fun st' k1 k2 k3 mg => ?_
  have pl := pend_set (z := (sa, na + nb, pa)) el li
  rw [← k3] at pl
  refine k st' ⟨k1, k2, mg.pm.trans h.pm, ?_⟩ ?_ fun j hj => mg.out j (.inr (by omega))
  · rw [pl]
    refine Runs.app (Runs.out r1 fun j _ hj => mg.out j (.inl hj)) ⟨rfl, by show 1 ≤ na + nb; omega, ?_, ?_⟩
    · have := mg.so
      rw [q2, Nat.add_assoc] at this
      exact this
    · show Runs rk (arrOf st') l2 (sa + (na + nb)) lo
      rw [← Nat.add_assoc]
      exact Runs.out rn fun j hj _ => mg.out j (.inr (by omega))
  · have a1 := congrArg List.length pl
    have a2 := congrArg List.length el
    rw [Array.length_toList, List.length_append, List.length_cons] at a1
    rw [Array.length_toList, List.length_append, List.length_cons, List.length_cons] at a2
    omega
end
end PyProof.Rows

namespace PyProof.Rows
open PySem
section
variable {prog : Program} {w : World} {A : Around} {E : Value → Shared → Prop} {s : Shared} {rk : Keyed → Nat} {S : Keyed → Prop} {κ : SortKind}
theorem Srn.push {a0 : Array Keyed} {lo n pw : Nat} {st : SortSt} (h : Srn rk κ a0 lo st) (n1 : 1 ≤ n) (so : SoR rk (arrOf st) lo (lo + n)) : Srn rk κ a0 (lo + n) (setPending st ((pendingOf st).push (lo, n, pw))) :=
  ⟨h.kind, h.fail, h.pm, by
    show Runs rk (arrOf st) ((pendingOf st).push (lo, n, pw)).toList 0 (lo + n)
    rw [Array.toList_push]
    exact Runs.app h.runs ⟨rfl, n1, so, rfl⟩⟩
theorem Srn.last {a0 : Array Keyed} {lo k : Nat} {st : SortSt} {f : Nat × Nat × Nat → Nat × Nat × Nat} (hf : ∀ r, (f r).1 = r.1 ∧ (f r).2.1 = r.2.1) (h : Srn rk κ a0 lo st) : Srn rk κ a0 lo (setPending st ((pendingOf st).modify k f)) :=
  ⟨h.kind, h.fail, h.pm, by
    show Runs rk (arrOf st) ((pendingOf st).modify k f).toList 0 lo
    rw [Array.toList_modify]
    exact Runs.last hf h.runs⟩
theorem sortRuns_ok {st : SortSt} {Q : Unit → SortSt → Prop} (hl : LtOk prog w A E s rk S κ) (hk : kindOf st = κ) (hf : failedOf st = none) (hp : pendingOf st = #[]) (Sa : ∀ (i : Nat) x, (arrOf st)[i]? = some x → S x)
    (k : ∀ st', failedOf st' = none → (arrOf st').toList.Perm (arrOf st).toList → SoR rk (arrOf st') 0 (arrOf st).size → Q () st') : wpS (model prog w) A E s sortRuns' Q st := by
  have h0 : Srn rk κ (arrOf st) 0 st := ⟨hk, hf, List.Perm.refl _, by rw [hp]; rfl⟩
  generalize e0 : arrOf st = a0 at h0 Sa k
  rw [sortRuns'_eq]
  refine wpS_bind (wpS_get ?_)
  dsimp only
  have esz : (arrOf st).size = a0.size := by rw [e0]
  simp only [esz]
  generalize minRun' a0.size a0.size 0 = mr
  refine wpS_bind (wpS_mono (wpS_forRange (I := fun x c st' => ∃ lo, c = (none, lo) ∧ Srn rk κ a0 lo st' ∧ lo ≤ a0.size ∧ (x ≤ lo ∨ a0.size ≤ lo)) (Q := fun c st' => c = (none, a0.size) ∧ Srn rk κ a0 a0.size st') ?step ?fin ⟨0, rfl, h0, by omega, by omega⟩) ?post)
  case fin =>
    rintro c st' ⟨lo, rfl, hS, l1, l2⟩
    have : lo = a0.size := by omega
    subst this
    exact ⟨rfl, hS⟩
  case step =>
    rintro x c st' _ hx ⟨lo, rfl, hS, l1, l2⟩
    dsimp only
    by_cases ge : lo ≥ a0.size
    · rw [if_pos ge]
      have : lo = a0.size := by omega
      subst this
      exact wpS_pure ⟨rfl, hS⟩
    rw [if_neg ge]
    have sz := hS.size
    have rest : ∀ (n : Nat) (st2 : SortSt), Srn rk κ a0 lo st2 → 1 ≤ n → lo + n ≤ a0.size → SoR rk (arrOf st2) lo (lo + n) → ∃ lo', ((none, lo + n) : Option Unit × Nat) = (none, lo') ∧ Srn rk κ a0 lo' (setPending st2 ((pendingOf st2).push (lo, n, 0))) ∧ lo' ≤ a0.size ∧ (x + 1 ≤ lo' ∨ a0.size ≤ lo') := fun n st2 h2 n1 nl so => ⟨lo + n, rfl, h2.push n1 so, nl, by omega⟩
    refine wpS_bind (countRun_ok hl hS.kind (show lo + (a0.size - lo) ≤ (arrOf st').size by omega) (by omega) (hS.all Sa) fun arr' m re m1 m2 so => ?_)
    dsimp only
    have hS1 : Srn rk κ a0 lo (setArr st' arr') := ⟨hS.kind, hS.fail, re.pm.trans hS.pm, Runs.out hS.runs fun i _ h => re.out i (.inl h)⟩
    by_cases few : m < mr
    · rw [if_pos few]
      refine wpS_bind (wpS_lift (wpAny_rule ⟨rfl, ?_⟩))
      refine wpS_bind (binarySort_ok hl hS1.kind (show lo + min (a0.size - lo) mr ≤ (arrOf (setArr st' arr')).size by rw [hS1.size]; omega) (by omega) (hS1.all Sa) so fun arr2 re2 so2 => ?_)
      have hS2 : Srn rk κ a0 lo (setArr st' arr2) := ⟨hS.kind, hS.fail, re2.pm.trans hS1.pm, Runs.out hS1.runs fun i _ h => re2.out i (.inl h)⟩
      generalize hn : min (a0.size - lo) mr = n at so2 ⊢
      have n1 : 1 ≤ n := by omega
      have nl : lo + n ≤ a0.size := by omega
      simp only [Bool.not_true, Bool.false_eq_true, if_false]
      have so2 : SoR rk (arrOf (setArr st' arr2)) lo (lo + n) := so2
      generalize setArr st' arr2 = st2 at hS2 so2 ⊢
      refine wpS_bind (wpS_get ?_)
      cases hb : (pendingOf st2).back? with
      | none =>
        dsimp only
        exact wpS_bind (wpS_modify (wpS_pure (rest n st2 hS2 n1 nl so2)))
      | some r =>
        obtain ⟨s1, n1', p1⟩ := r
        dsimp only
        refine wpS_bind (wpS_mono (wpS_forRange (I := fun _ c st3 => c = (none, ()) ∧ Srn rk κ a0 lo st3 ∧ SoR rk (arrOf st3) lo (lo + n)) (Q := fun c st3 => c = (none, ()) ∧ Srn rk κ a0 lo st3 ∧ SoR rk (arrOf st3) lo (lo + n)) ?_ (fun c st3 h => h) ⟨rfl, hS2, so2⟩) ?_)
        · rintro y c st3 _ _ ⟨rfl, h3, so3⟩
          refine wpS_bind (wpS_get ?_)
          by_cases g : (pendingOf st3).size > 1
          · rw [if_pos g]
            obtain ⟨⟨sx, nx, older⟩, e⟩ : ∃ x, (pendingOf st3)[(pendingOf st3).size - 2]? = some x := ⟨_, Array.getElem?_eq_getElem (by omega)⟩
            rw [e]
            dsimp only
            split
            · exact wpS_pure ⟨rfl, h3, so3⟩
            · refine wpS_bind (merge_ok hl h3 Sa (by omega) l1 fun st4 h4 _ keep => ?_)
              simp only [Bool.not_true, Bool.false_eq_true, if_false]
              refine wpS_pure ⟨rfl, h4, fun i j x y li ij jh ex ey => ?_⟩
              rw [keep _ (by omega)] at ex ey
              exact so3 i j x y li ij jh ex ey
          · rw [if_neg g]
            exact wpS_pure ⟨rfl, h3, so3⟩
        · rintro c st3 ⟨rfl, h3, so3⟩
          dsimp only
          exact wpS_bind (wpS_modify (wpS_bind (wpS_modify (wpS_pure (rest n _ (Srn.last (fun r => ⟨rfl, rfl⟩) h3) n1 nl so3)))))
    · rw [if_neg few]
      have so2 : SoR rk (arrOf (setArr st' arr')) lo (lo + m) := so
      have hS2 := hS1
      generalize setArr st' arr' = st2 at hS2 so2 ⊢
      have n1 : 1 ≤ m := m1
      have nl : lo + m ≤ a0.size := by omega
      generalize m = n at so2 n1 nl ⊢
      refine wpS_bind (wpS_get ?_)
      cases hb : (pendingOf st2).back? with
      | none =>
        dsimp only
        exact wpS_bind (wpS_modify (wpS_pure (rest n st2 hS2 n1 nl so2)))
      | some r =>
        obtain ⟨s1, n1', p1⟩ := r
        dsimp only
        refine wpS_bind (wpS_mono (wpS_forRange (I := fun _ c st3 => c = (none, ()) ∧ Srn rk κ a0 lo st3 ∧ SoR rk (arrOf st3) lo (lo + n)) (Q := fun c st3 => c = (none, ()) ∧ Srn rk κ a0 lo st3 ∧ SoR rk (arrOf st3) lo (lo + n)) ?_ (fun c st3 h => h) ⟨rfl, hS2, so2⟩) ?_)
        · rintro y c st3 _ _ ⟨rfl, h3, so3⟩
          refine wpS_bind (wpS_get ?_)
          by_cases g : (pendingOf st3).size > 1
          · rw [if_pos g]
            obtain ⟨⟨sx, nx, older⟩, e⟩ : ∃ x, (pendingOf st3)[(pendingOf st3).size - 2]? = some x := ⟨_, Array.getElem?_eq_getElem (by omega)⟩
            rw [e]
            dsimp only
            split
            · exact wpS_pure ⟨rfl, h3, so3⟩
            · refine wpS_bind (merge_ok hl h3 Sa (by omega) l1 fun st4 h4 _ keep => ?_)
              simp only [Bool.not_true, Bool.false_eq_true, if_false]
              refine wpS_pure ⟨rfl, h4, fun i j x y li ij jh ex ey => ?_⟩
              rw [keep _ (by omega)] at ex ey
              exact so3 i j x y li ij jh ex ey
          · rw [if_neg g]
            exact wpS_pure ⟨rfl, h3, so3⟩
        · rintro c st3 ⟨rfl, h3, so3⟩
          dsimp only
          exact wpS_bind (wpS_modify (wpS_bind (wpS_modify (wpS_pure (rest n _ (Srn.last (fun r => ⟨rfl, rfl⟩) h3) n1 nl so3)))))
  case post =>
    rintro c st' ⟨rfl, hS⟩
    dsimp only
    refine wpS_bind (wpS_mono (wpS_forRange (I := fun x c st'' => c = (none, ()) ∧ Srn rk κ a0 a0.size st'' ∧ ((pendingOf st'').size ≤ 1 ∨ (pendingOf st'').size + x ≤ a0.size)) (Q := fun c st'' => c = (none, ()) ∧ Srn rk κ a0 a0.size st'' ∧ (pendingOf st'').size ≤ 1) ?_ ?_ ⟨rfl, hS, ?_⟩) ?_)
    · rintro x c st'' _ hx ⟨rfl, h1, h2⟩
      refine wpS_bind (wpS_get ?_)
      by_cases q : (pendingOf st'').size ≤ 1
      · rw [if_pos q]
        exact wpS_pure ⟨rfl, h1, q⟩
      rw [if_neg q]
      have go : ∀ i, i + 1 < (pendingOf st'').size → wpS (model prog w) A E s (mergeAt' i) (fun b st4 => b = true ∧ Srn rk κ a0 a0.size st4 ∧ (pendingOf st4).size + (x + 1) ≤ a0.size) st'' := fun i hi => merge_ok hl h1 Sa hi (Nat.le_refl _) fun st4 h4 h5 _ => ⟨rfl, h4, by omega⟩
      refine wpS_bind (wpS_mono (go _ ?_) fun b st4 h => ?_)
      · repeat' split
        all_goals omega
      · obtain ⟨rfl, h4, h5⟩ := h
        simp only [Bool.not_true, Bool.false_eq_true, if_false]
        exact wpS_pure ⟨rfl, h4, .inr h5⟩
    · rintro c st'' ⟨rfl, h1, h2⟩
      exact ⟨rfl, h1, by omega⟩
    · have := hS.runs.le
      rw [Array.length_toList] at this
      exact .inr (by omega)
    · rintro c st'' ⟨rfl, h1, h2⟩
      refine wpS_pure (k st'' h1.fail h1.pm ?_)
      have rn := h1.runs
      have lz : (pendingOf st'').toList.length ≤ 1 := by rw [Array.length_toList]; exact h2
      generalize (pendingOf st'').toList = l at rn lz
      match l, rn, lz with
      | [], rn, _ =>
        have z : 0 = a0.size := rn
        exact fun i j x y _ _ h => absurd h (by omega)
      | [r], rn, _ =>
        obtain ⟨q1, q2, q3, q4⟩ := rn
        have : 0 + r.2.1 = a0.size := q4
        rw [this] at q3
        exact q3
end
end PyProof.Rows

namespace L2
open PySem PySem.W PySem.Spec PyProof.Rows
theorem perm_lift {α β : Type} {f : β → α} {l' l : List α} (h : l'.Perm l) : ∀ p : List β, p.map f = l → ∃ p' : List β, p'.Perm p ∧ p'.map f = l' := by
  induction h with
  | nil => exact fun p e => ⟨p, List.Perm.refl _, e⟩
  | cons x _ ih =>
    intro p e
    cases p with
    | nil => cases e
    | cons i p =>
      rw [List.map_cons] at e
      injection e with e1 e2
      obtain ⟨p', h1, h2⟩ := ih p e2
      exact ⟨i :: p', h1.cons i, by rw [List.map_cons, h2, e1]⟩
  | swap x y l =>
    intro p e
    match p, e with
    | i :: j :: p, e =>
      rw [List.map_cons, List.map_cons] at e
      injection e with e1 e2
      injection e2 with e2 e3
      exact ⟨j :: i :: p, List.Perm.swap i j p, by rw [List.map_cons, List.map_cons, e1, e2, e3]⟩
  | trans _ _ ih1 ih2 =>
    intro p e
    obtain ⟨p1, h1, h2⟩ := ih2 p e
    obtain ⟨p2, h3, h4⟩ := ih1 p1 h2
    exact ⟨p2, h3.trans h1, h4⟩
section
variable {prog : Program} {w : World} {A : Around} {E : Value → Shared → Prop} {s : Shared} {ks vs : List Value} {κ : SortKind}
theorem run_any {Q : SortSt → Shared → Prop} {rk : Nat → Int} {rk' : Keyed → Nat} (lk : ks.length = vs.length) (hr : ∀ i, i < vs.length → rk i = (rk' (kas_item (ks.toArray.zip vs.toArray) i) : Int)) (hc : ∀ i j C, i < vs.length → j < vs.length → C (decide (rk i < rk j)) s → kas_ask prog w A κ ks i j C s)
    (k : ∀ p st', PermN vs.length p → Up rk p vs.length → failedOf st' = none → arrOf st' = p.map (kas_item (ks.toArray.zip vs.toArray)) → Q st' s) : wpAny (model prog w) A ((sortRuns').run (SortSt.mk' κ (ks.toArray.zip vs.toArray) #[] 7 none)) (fun r s' => Q r.2 s') E s := by
  have sz : (ks.toArray.zip vs.toArray).size = vs.length := by simp [lk]
  have whole : ((List.range vs.length).map (kas_item (ks.toArray.zip vs.toArray))) = (ks.toArray.zip vs.toArray).toList := by
    have e := kas_range (ks.toArray.zip vs.toArray)
    rw [sz] at e
    rw [← congrArg Array.toList e]
    simp
  have fst : ∀ i, i < vs.length → (kas_item (ks.toArray.zip vs.toArray) i).1 = ks.getD i Value.none := fun i hi => by
    have h1 : i < ks.length := by rw [lk]; exact hi
    unfold kas_item
    rw [Array.getD_eq_getD_getElem?, Array.getElem?_eq_getElem (by rw [sz]; exact hi), List.getD_eq_getElem?_getD, List.getElem?_eq_getElem h1]
    simp
  have hl : LtOk prog w A E s rk' (fun x => ∃ i, i < vs.length ∧ x = kas_item (ks.toArray.zip vs.toArray) i) κ := by
    rintro x y st Q' ⟨i, hi, rfl⟩ ⟨j, hj, rfl⟩ hk q
    rw [lt'_eq]
    refine wpS_bind (wpS_get ?_)
    rw [hk]
    have c := hc i j (fun b s' => s' = s ∧ b = decide (rk i < rk j)) hi hj ⟨rfl, rfl⟩
    unfold kas_ask at c
    rw [← fst i hi, ← fst j hj] at c
    refine wpS_bind (wpS_lift (wpAny_attempt (wpAny_mono c (fun b s' h => ?_) fun _ _ x => x.elim)))
    obtain ⟨rfl, rfl⟩ := h
    refine ⟨rfl, ?_⟩
    refine wpS_pure ?_
    have e : decide (rk i < rk j) = decide (rk' (kas_item (ks.toArray.zip vs.toArray) i) < rk' (kas_item (ks.toArray.zip vs.toArray) j)) := by
      rw [hr i hi, hr j hj]
      exact decide_eq_decide.mpr Int.ofNat_lt
    rw [e]
    exact q
  have run := sortRuns_ok (st := SortSt.mk' κ (ks.toArray.zip vs.toArray) #[] 7 none) (Q := fun _ st' => Q st' s) hl rfl rfl rfl (fun i x e => ?_) fun st' hf pm so => ?_
  · exact wpAny_mono run (fun r s' h => by obtain ⟨rfl, q⟩ := h; exact q) fun _ _ e => e
  · have hi : i < vs.length := by
      have := (Array.getElem?_eq_some_iff.mp e).1
      rw [sz] at this
      exact this
    refine ⟨i, hi, ?_⟩
    have e : (ks.toArray.zip vs.toArray)[i]? = some x := e
    unfold kas_item
    rw [Array.getD_eq_getD_getElem?, e]
    rfl
  · have pm : (arrOf st').toList.Perm (ks.toArray.zip vs.toArray).toList := pm
    obtain ⟨p, h1, h2⟩ := perm_lift pm _ whole
    have lp : p.length = vs.length := by rw [h1.length_eq, List.length_range]
    have ea : arrOf st' = p.toArray.map (kas_item (ks.toArray.zip vs.toArray)) := by
      apply Array.toList_inj.mp
      rw [Array.toList_map]
      exact h2.symm
    refine k p.toArray st' ⟨by simpa using lp, Array.perm_iff_toList_perm.mpr (by simpa using h1)⟩ (fun i j ij hj => ?_) hf ea
    have so : SoR rk' (arrOf st') 0 vs.length := by
      rw [← sz]
      exact so
    have at' : ∀ {i : Nat}, i < vs.length → p.toArray.getD i 0 < vs.length ∧ (arrOf st')[i]? = some (kas_item (ks.toArray.zip vs.toArray) (p.toArray.getD i 0)) := fun {i} hi => by
      have hp : i < p.length := by rw [lp]; exact hi
      have e : p.toArray.getD i 0 = p[i] := by simp [Array.getD, hp]
      rw [e]
      refine ⟨by simpa using h1.mem_iff.mp (List.getElem_mem hp), ?_⟩
      rw [ea, Array.getElem?_map, List.getElem?_toArray, List.getElem?_eq_getElem hp]
      rfl
    obtain ⟨a1, a2⟩ := at' (i := i) (by lia)
    obtain ⟨b1, b2⟩ := at' hj
    unfold kk
    rw [hr _ a1, hr _ b1]
    exact Int.ofNat_le.mpr (so i j _ _ (Nat.zero_le _) ij hj a2 b2)
end
def keyRow (H : Hp) (v : Value) : List Int := match v with
  | .ref u => (match H u with
    | some (.tup vs) => vs.filterMap fun v => (match v with | .int n => some n | _ => none)
    | _ => [])
  | _ => []
theorem keyRow_at {H : Hp} {u : Addr} {ns : List Int} (h : H u = some (.tup (ns.map V.int))) : keyRow H (.ref u) = ns := by
  unfold keyRow
  dsimp only
  rw [h]
  dsimp only
  clear h
  induction ns with
  | nil => rfl
  | cons n ns ih =>
    rw [List.map_cons, List.filterMap_cons]
    dsimp only
    rw [ih]
def rkK (H : Hp) (rows : List (List Int)) (x : Keyed) : Nat := rows.countP fun r => lexI r (keyRow H x.1)
theorem rkK_of {H : Hp} {items : List (Addr × List Int)} (ht : ∀ q ∈ items, H q.1 = some (.tup (q.2.map V.int))) {vs : List Value} (lv : vs.length = items.length) {i : Nat} (hi : i < items.length) : rkOf (items.map (·.2)) i = (rkK H (items.map (·.2)) (kas_item ((items.map fun q => Value.ref q.1).toArray.zip vs.toArray) i) : Int) := by
  have e : (kas_item ((items.map fun q => Value.ref q.1).toArray.zip vs.toArray) i).1 = .ref items[i].1 := by
    unfold kas_item
    rw [Array.getD_eq_getD_getElem?, Array.getElem?_eq_getElem (by simp; lia)]
    simp
  unfold rkOf rkK
  rw [e, keyRow_at (ht _ (List.getElem_mem hi)), List.getD_eq_getElem?_getD, List.getElem?_map, List.getElem?_eq_getElem hi]
  rfl
section
variable {prog : Program} {w : World} {A : Around} {E : Value → Shared → Prop}
theorem listSortA {s : Shared} {a : Addr} {vs : List Value} {n : Nat} {P : PySem.Fin → Shared → Prop} {κ : SortKind} {rk : Nat → Int} {rk' : Keyed → Nat} (ho : s.heap.get? a = some (seqObj "list" vs.toArray n)) (h64 : vs.length ≤ 100000) (hr : ∀ i, i < vs.length → rk i = (rk' (kas_item (vs.toArray.zip vs.toArray) i) : Int))
    (hk : ∀ (s' : Shared) (Q : SortKind → Shared → Prop), (∀ b o, b ≠ a → s.heap.get? b = some o → s'.heap.get? b = some o) → 2 ≤ vs.length → Q κ s' → wpAny (model prog w) A (keyKind' vs.toArray) Q E s')
    (hc : ∀ (s' : Shared), (∀ b o, b ≠ a → s.heap.get? b = some o → s'.heap.get? b = some o) → ∀ i j C, i < vs.length → j < vs.length → C (decide (rk i < rk j)) s' → kas_ask prog w A κ vs i j C s')
    (fin : ∀ p, PermN vs.length p → Up rk p vs.length → P (.done (.ret .none)) { s with heap := sortedHeap s.heap a vs (p.toList.map fun i => vs.getD i Value.none).toArray }) :
    wpAny (model prog w) A (Builtin.«list.sort» ⟨[.ref a], []⟩) P E s := by
  have alt : a < s.heap.objs.size := Heap.lt_size ho
  have len : vs.toArray.size = vs.length := List.size_toArray
  have ln : vs.length ≤ sizeLine := Nat.le_trans h64 (by decide)
  rw [list_sort_plain]
  refine wpAny_bind (listItems_at ho rfl (wpAny_bind (listUpdate_at ho rfl ?_)))
  have ⟨e1, he1⟩ : ∃ e1, (s.heap.update a (Obj.mapSeq fun _ => #[])).get? a = some (seqObj "list" #[] e1) := ⟨_, get?_update_seq ho _⟩
  refine wpAny_bind (seqEpoch_at he1 rfl (wpAny_bind (wpAny_newTuple (wpAny_bind (wpAny_newList (wpAny_holding ?_))))))
  have hin : (((s.heap.update a (Obj.mapSeq fun _ => #[])).push (seqObj "tuple" vs.toArray 0)).push (seqObj "list" #[] 0)).get? a = some (seqObj "list" #[] e1) := by
    refine Heap.get?_push_of_some _ (Heap.get?_push_of_some _ he1)
  have keep : ∀ b o, b ≠ a → s.heap.get? b = some o → (((s.heap.update a (Obj.mapSeq fun _ => #[])).push (seqObj "tuple" vs.toArray 0)).push (seqObj "list" #[] 0)).get? b = some o := fun b o hb e =>
    Heap.get?_push_of_some _ (Heap.get?_push_of_some _ (by rw [Heap.get?_update_ne _ _ _ _ hb]; exact e))
  show wpAny (model prog w) A _ P E { s with heap := (((s.heap.update a (Obj.mapSeq fun _ => #[])).push (seqObj "tuple" vs.toArray 0)).push (seqObj "list" #[] 0)) }
  dsimp only
  by_cases few : vs.toArray.size < 2
  · rw [if_pos few, if_pos few]
    refine wpAny_bind (wpAny_pure ?_)
    rw [StateT.run_pure]
    refine wpAny_bind (wpAny_pure ?_)
    dsimp only
    have eo : (arrOf (SortSt.mk' general' (vs.toArray.zip vs.toArray) #[] 7 none)).map (·.2) = ((List.range vs.length).toArray.toList.map fun i => vs.getD i Value.none).toArray := by
      rw [len] at few
      clear hk hc fin keep hin ho hr
      show (vs.toArray.zip vs.toArray).map (·.2) = _
      match vs, few with
      | [], _ => simp
      | [v], _ => simp
    refine wpAny_bind (seqEpoch_at hin rfl (wpAny_bind (listUpdate_at hin rfl ?_ (hsz2 := by rw [eo]; simp; lia))))
    simp only [bne_self_eq_false, Bool.false_eq_true, if_false]
    rw [eo]
    refine wpAny_pure (fin _ ⟨by simp, Array.Perm.refl _⟩ fun i j ij hj => ?_)
    have : i = j := by lia
    rw [this]
    exact Int.le_refl _
  · rw [if_neg few, if_neg few]
    have two : 2 ≤ vs.length := by lia
    refine wpAny_bind (hk _ _ keep two ?_)
    refine wpAny_bind (wpAny_mono (run_any (ks := vs) (rk := rk) (Q := fun st' s' => s' = { s with heap := (((s.heap.update a (Obj.mapSeq fun _ => #[])).push (seqObj "tuple" vs.toArray 0)).push (seqObj "list" #[] 0)) } ∧ failedOf st' = none ∧ ∃ p, PermN vs.length p ∧ Up rk p vs.length ∧ arrOf st' = p.map (kas_item (vs.toArray.zip vs.toArray))) rfl hr (hc _ keep) fun p st' h1 h2 h3 h4 => ⟨rfl, h3, p, h1, h2, h4⟩) ?_ fun _ _ e => e)
    rintro ⟨⟨⟩, st'⟩ s' ⟨rfl, hf, p, pn, up, ea⟩
    dsimp only at hf ea ⊢
    have eo := kat_snds (ks := vs) (vs := vs) rfl ea
    refine wpAny_bind (seqEpoch_at hin rfl (wpAny_bind (listUpdate_at hin rfl ?_ (hsz2 := by rw [eo]; simp only [List.size_toArray, List.length_map, Array.length_toList, pn.sz]; lia))))
    rw [hf, eo]
    simp only [bne_self_eq_false, Bool.false_eq_true, if_false]
    exact wpAny_pure (fin p pn up)
end
section
variable {X : Cx}
end
section
variable {X : Cx} {pins : List (Addr × Obj)} {σ : St} {H H' : Hp} {s : Shared} {k : Nat} {f b : Addr} {fd : FuncData} {ps : List Str}
theorem keyTreeA {A2 : Around} {P : PySem.Fin → Shared → Prop} {E : Value → Shared → Prop} (F : FnOk X.prog X.w X.K X.mg X.base CX0 k f fd ps spRow) (hb : Binds X.K fd ps []) (hr : Room k A2) (hfr : ∀ s H, Env0 X.prog X.w X.K X.mg X.base X.A X.stack s H → Env0 X.prog X.w X.K X.mg X.base A2 X.stack s H) (I : Inv X pins σ H s) {a : Addr} {items : List It3} {n : Nat} (ho : s.heap.get? a = some (seqObj "list" (items.map fun q => Value.ref q.a).toArray n)) (fa : FpOk X pins H a) (hit : ∀ q ∈ items, H q.a = some (.tup (q.ns.map V.int))) (h64 : items.length ≤ 100000)
    (fin : ∀ (p : Array Nat) (H' : Hp) (s' : Shared) (c : Nat), PermN items.length p → Up (rkOf (items.map fun q => [q.y, q.x])) p items.length → Inv X pins σ H' s' → (∀ b u, H b = some u → H' b = some u) → H' a = none → s'.heap.get? a = some (seqObj "list" (p.toList.map fun i => (items.map fun q => Value.ref q.a).getD i Value.none).toArray c) → P (.done (.ret .none)) s') :
    wpAny (model X.prog X.w) A2 (ksk_tree a (.ref f) false) P E s := by
  have len : (items.map fun q => Value.ref q.a).length = items.length := List.length_map _
  have ln : items.length ≤ sizeLine := Nat.le_trans h64 (by decide)
  unfold ksk_tree
  refine wpAny_bind (listItems_at ho rfl (wpAny_bind (listUpdate_at ho rfl ?_)))
  have ⟨e1, he1⟩ : ∃ e1, (s.heap.update a (Obj.mapSeq fun _ => #[])).get? a = some (seqObj "list" #[] e1) := ⟨_, get?_update_seq ho _⟩
  have I1 : Inv X pins σ H { s with heap := s.heap.update a (Obj.mapSeq fun _ => #[]) } := fa.turn (t' := s.toks) I fun c o hc e => by rw [Heap.get?_update_ne _ _ _ _ hc]; exact e
  generalize s.heap.update a (Obj.mapSeq fun _ => #[]) = h1 at he1 I1 ⊢
  refine wpAny_bind (seqEpoch_at he1 rfl (wpAny_bind (wpAny_newTuple (wpAny_bind (wpAny_newList (wpAny_holding ?_))))))
  have I2 : Inv X pins σ H { s with heap := h1.push (seqObj "tuple" (items.map fun q => Value.ref q.a).toArray 0) } := I1.kept (t' := s.toks) fun b o e => Heap.get?_push_of_some _ e
  have he2 := Heap.get?_push_of_some (seqObj "tuple" (items.map fun q => Value.ref q.a).toArray 0) he1
  show wpAny (model X.prog X.w) A2 (ksk_rest a (.ref f) false (items.map fun q => Value.ref q.a).toArray e1 (.ref (h1.push (seqObj "tuple" (items.map fun q => Value.ref q.a).toArray 0)).objs.size)) P E { s with heap := (h1.push (seqObj "tuple" (items.map fun q => Value.ref q.a).toArray 0)).push (seqObj "list" #[] 0) }
  generalize h1.push (seqObj "tuple" (items.map fun q => Value.ref q.a).toArray 0) = h2 at I2 he2 ⊢
  have fS : FpOk X pins H h2.objs.size := I2.fpOk (Nat.le_refl _) (I2.hok.fresh (Nat.le_refl _))
  have he3 := Heap.get?_push_of_some (seqObj "list" #[] 0) he2
  have hk3 : (h2.push (seqObj "list" #[] 0)).get? h2.objs.size = some (seqObj "list" #[] 0) := Heap.get?_push_size _ rfl
  have I3 : Inv X pins σ H { s with heap := h2.push (seqObj "list" #[] 0) } := I2.kept (t' := s.toks) fun b o e => Heap.get?_push_of_some _ e
  have nka : h2.objs.size ≠ a := Nat.ne_of_gt (Heap.lt_size he2)
  generalize h2.push (seqObj "list" #[] 0) = h3 at he3 hk3 I3 ⊢
  generalize h2.objs.size = kS at fS hk3 nka ⊢
  unfold ksk_rest
  refine wpAny_bind (wpAny_rule ?_)
  rw [List.forIn_toArray]
  refine wpAny_bind (ksk_fold (fun j s' => ∃ (H' : Hp) (us : List Addr) (c : Nat), Inv X pins σ H' s' ∧ (∀ b u, H b = some u → H' b = some u) ∧ H' a = none ∧ H' kS = none ∧ s'.heap.get? kS = some (seqObj "list" (us.map Value.ref).toArray c) ∧ s'.heap.get? a = some (seqObj "list" #[] e1) ∧ us.length = j ∧ ∀ (i : Nat) u q, us[i]? = some u → items[i]? = some q → H' u = some (.tup ([q.y, q.x].map V.int))) (items.map fun q => Value.ref q.a) 0 _ ⟨H, [], 0, I3, fun b u e => e, fa.1, fS.1, hk3, he3, rfl, fun i u q e => (nomatch e)⟩ ?_ ?_)
  · rintro j x ⟨hp, gn, dr, tk, os⟩ hx ⟨H', us, c, I', kp, na, nk, hk, ha, lu, hus⟩
    have jl : j < items.length := by have := (List.getElem?_eq_some_iff.mp hx).1; rw [len] at this; exact this
    rw [List.getElem?_map] at hx
    obtain ⟨q, eq, rfl⟩ := Option.map_eq_some_iff.mp hx
    rw [Nat.zero_add] at lu ⊢
    have fa' := fa.stay na
    have fS' := fS.stay nk
    have tq := kp _ _ (hit q (List.mem_of_getElem? eq))
    have sp0 : spRow [V.ref q.a] H' (fun v H'' => ∃ u, v = .ref u ∧ H' u = none ∧ H'' = upd H' u (.tup [.int q.y, .int q.x])) E0 := ⟨q.a, q.x, q.y, q.r, rfl, tq, fun u hu => ⟨u, rfl, hu, rfl⟩⟩
    refine wpAny_bind (wpAny_attempt (wpAny_call (codeAny_mono (F.run A2 X.stack _ H' ⟨[Value.ref q.a], []⟩ ([Value.ref q.a] ++ []) [V.ref q.a] _ E0 hr (hfr _ _ I'.env0) (hb _ [Value.ref q.a] I'.kIn (F.len _ _ _ _ sp0)) (show Vals [V.ref q.a] [Value.ref q.a] from .cons rfl .nil) sp0) fun r s'' hq => ?_)))
    cases r with
    | error e => exact hq.elim
    | ok fl =>
      cases fl with
      | next => exact hq.elim
      | brk => exact hq.elim
      | cont => exact hq.elim
      | ret u =>
        obtain ⟨v, H2, os2, bare2, un, hok2, rv, u', rfl, hu', rfl⟩ := hq
        obtain ⟨hh, g2, d2, t2, os'⟩ := s''
        obtain rfl : os' = os := os2
        cases (show _ = Value.ref u' from rv)
        have I4 := I'.call (h' := hh) (g' := g2) (d' := d2) (t' := t2) (ch := []) un hok2 bare2 (fun b z => absurd z (by simp))
        have hk4 : hh.get? kS = _ := un.keep _ _ hk nk (fS'.nost I') (by simp)
        have ha4 : hh.get? a = _ := un.keep _ _ ha na (fa'.nost I') (by simp)
        have np : ∀ {b : Addr} {o : HO}, H' b = some o → upd H' u' (.tup [.int q.y, .int q.x]) b = some o := fun {b o} e => by rw [upd_ne (ne_of_none e hu')]; exact e
        have na4 : upd H' u' (.tup [.int q.y, .int q.x]) a = none := un.free _ _ ha na (by simp)
        have nk4 : upd H' u' (.tup [.int q.y, .int q.x]) kS = none := un.free _ _ hk nk (by simp)
        have ⟨c2, hk5⟩ : ∃ c2, (hh.update kS (Obj.mapSeq (·.push (.ref u')))).get? kS = some (seqObj "list" ((us.map Value.ref).toArray.push (.ref u')) c2) := ⟨_, get?_update_seq hk4 _⟩
        refine wpAny_bind (listUpdate_at hk4 rfl (wpAny_pure ⟨rfl, upd H' u' (.tup [.int q.y, .int q.x]), us ++ [u'], c2, (fS'.stay nk4).turn (t' := t2) I4 fun b o hb e => by rw [Heap.get?_update_ne _ _ _ _ hb]; exact e, fun b o e => np (kp b o e), na4, nk4, ?_, ?_, by rw [List.length_append, lu]; rfl, fun i u2 q2 eu eq2 => ?_⟩) (hsz2 := ?_))
        · show (hh.update kS _).get? kS = _
          rw [hk5]
          simp
        · show (hh.update kS _).get? a = _
          rw [Heap.get?_update_ne _ _ _ _ (Ne.symm nka)]
          exact ha4
        · by_cases hi : i < j
          · rw [List.getElem?_append_left (by lia)] at eu
            exact np (hus i u2 q2 eu eq2)
          · have : i = j := by
              have := (List.getElem?_eq_some_iff.mp eu).1
              rw [List.length_append, lu] at this
              have : i < j + 1 := this
              lia
            subst this
            rw [List.getElem?_append_right (by lia), lu, Nat.sub_self] at eu
            cases eu
            rw [eq] at eq2
            cases eq2
            exact upd_same
        · simp
          lia
  · rintro ⟨hp, gn, dr, tk, os⟩ ⟨H', us, c, I', kp, na, nk, hk, ha, lu, hus⟩
    rw [Nat.zero_add, len] at lu
    have fa' := fa.stay na
    have fS' := fS.stay nk
    have lk : (us.map Value.ref).length = (items.map fun q => Value.ref q.a).length := by rw [List.length_map, len, lu]
    refine wpAny_bind (listItems_at hk rfl ?_)
    unfold ksk_end
    dsimp only
    simp only [Bool.false_eq_true, if_false]
    have sz : (items.map fun q => Value.ref q.a).toArray.size = items.length := by rw [List.size_toArray, len]
    by_cases few : (items.map fun q => Value.ref q.a).toArray.size < 2
    · rw [if_pos few, if_pos few]
      refine wpAny_bind (wpAny_pure ?_)
      rw [StateT.run_pure]
      refine wpAny_bind (wpAny_pure ?_)
      dsimp only
      have eo : (arrOf (SortSt.mk' general' ((us.map Value.ref).toArray.zip (items.map fun q => Value.ref q.a).toArray) #[] 7 none)).map (·.2) = ((List.range items.length).toArray.toList.map fun i => (items.map fun q => Value.ref q.a).getD i Value.none).toArray := by
        rw [sz] at few
        clear hit fin ho hus I' hk
        show ((us.map Value.ref).toArray.zip (items.map fun q => Value.ref q.a).toArray).map (·.2) = _
        match items, us, lu, few with
        | [], [], _, _ => simp
        | [v], [u], _, _ => simp
      refine keyTail (c := c) I' fa' fS' nka hk ha eo rfl (by simp; lia) (by simp; lia) fun h' c' I5 h5 => fin (List.range items.length).toArray H' _ c' ⟨by simp, Array.Perm.refl _⟩ (fun i j ij hj => by rw [sz] at few; have e : i = j := (by lia); rw [e]; exact Int.le_refl _) I5 kp na h5
    · rw [if_neg few, if_neg few]
      have two : 2 ≤ items.length := by lia
      have ktup : ∀ q ∈ (us.zip (items.map fun q => [q.y, q.x])), H' q.1 = some (.tup (q.2.map V.int)) ∧ q.2 ≠ [] := fun q hq => by
        obtain ⟨i, hi⟩ := List.getElem?_of_mem hq
        rw [List.getElem?_zip_eq_some, List.getElem?_map] at hi
        obtain ⟨h1, h2⟩ := hi
        obtain ⟨it, e1, e2⟩ := Option.map_eq_some_iff.mp h2
        rw [← e2]
        exact ⟨hus i q.1 it h1 e1, by simp⟩
      have z1 : ((us.zip (items.map fun q => [q.y, q.x])).map fun q => Value.ref q.1) = us.map Value.ref := by
        show List.map (Value.ref ∘ Prod.fst) _ = _
        rw [← List.map_map]
        rw [List.map_fst_zip (by rw [List.length_map, lu]; exact Nat.le_refl _)]
      have zl : (us.zip (items.map fun q => [q.y, q.x])).length = items.length := by rw [List.length_zip, List.length_map, lu, Nat.min_self]
      have z2 : ((us.zip (items.map fun q => [q.y, q.x])).map (·.2)) = items.map fun q => [q.y, q.x] := List.map_snd_zip (by rw [List.length_map, lu]; exact Nat.le_refl _)
      obtain ⟨fs, k1, k2, k3⟩ := firsts_at I'.hok ktup
      rw [z1] at k1
      refine wpAny_bind (kat_kind (T := .type "int") k1 (by rw [k2, zl]; lia) (fun v hv => ?_) rfl ?_)
      · obtain ⟨x, t, rfl⟩ := k3 v hv
        exact .now
      have kroom : (us.map Value.ref).toArray.size ≤ sizeLine := by simp; lia
      refine wpAny_bind (wpAny_mono (run_any (ks := us.map Value.ref) (vs := items.map fun q => Value.ref q.a) (κ := tuples' true) (rk := rkOf (items.map fun q => [q.y, q.x])) (rk' := rkK H' (items.map fun q => [q.y, q.x])) (Q := fun st' s' => s' = { heap := hp, gens := gn, drawn := dr, toks := tk, os := os } ∧ failedOf st' = none ∧ ∃ p, PermN items.length p ∧ Up (rkOf (items.map fun q => [q.y, q.x])) p items.length ∧ arrOf st' = p.map (kas_item ((us.map Value.ref).toArray.zip (items.map fun q => Value.ref q.a).toArray))) lk ?_ ?_ fun p st' h1 h2 h3 h4 => ⟨rfl, h3, p, by rw [len] at h1; exact h1, by rw [len] at h2; exact h2, h4⟩) ?_ fun _ _ e => e)
      · intro i hi
        rw [len] at hi
        have := rkK_of (H := H') (items := us.zip (items.map fun q => [q.y, q.x])) (fun q hq => (ktup q hq).1) (vs := items.map fun q => Value.ref q.a) (by rw [len, zl]) (i := i) (by rw [zl]; exact hi)
        rw [z1, z2] at this
        exact this
      · intro i j C hi hj cc
        rw [len] at hi hj
        obtain ⟨b, o, vs1, m, e1, e2, e3, e4, e5⟩ := tups_at I'.hok ktup (i := i) (by rw [zl]; exact hi)
        obtain ⟨b', o', vs2, m', f1, f2, f3, f4, f5⟩ := tups_at I'.hok ktup (i := j) (by rw [zl]; exact hj)
        rw [z1] at e1 f1
        rw [z2] at e5 f5
        unfold kas_ask
        rw [e1, f1]
        refine kat_lt e2 e4 f2 f4 ?_
        rw [rk_iff (by rw [List.length_map]; exact hi)] at cc
        have := lex_ask (prog := X.prog) (w := X.w) (A := A2) (b := true) (i := 0) e5 f5 cc
        have l1 := e5.length
        have l2 := f5.length
        rw [List.length_map] at l1 l2
        rw [List.size_toArray, List.size_toArray, ← l1, ← l2]
        exact this
      rintro ⟨⟨⟩, st'⟩ s' ⟨rfl, hf, p, pn, up, ea⟩
      dsimp only at hf ea ⊢
      have eo := kat_snds lk ea
      refine keyTail (c := c) I' fa' fS' nka hk ha eo hf (by simp only [List.size_toArray, List.length_map, Array.length_toList, pn.sz]; exact ln) kroom fun h' c' I5 h5 => fin p H' _ c' pn up I5 kp na h5
def RowsBy (out : List It3) : Prop := out.Pairwise fun p q => lexI [q.y, q.x] [p.y, p.x] = false
theorem keySortedA {Q : VK} (F : FnOk X.prog X.w X.K X.mg X.base CX0 k f fd ps spRow) (hb : Binds X.K fd ps []) (hr : Room (k + 2) X.A) (I : Inv X pins σ H s) {p : Addr} {items : List It3} (hq : SqL X.K H p (items.map fun q => V.ref q.a)) (hit : ∀ q ∈ items, H q.a = some (.tup (q.ns.map V.int))) (h64 : items.length ≤ 100000)
    (q : ∀ (L : Addr) (out : List It3) (H' : Hp), (∀ b u, H b = some u → H' b = some u) → H' L = none → out.Perm items → RowsBy out → Q (.ref L) (upd H' L (.lst (out.map fun q => V.ref q.a)))) :
    wpAny (model X.prog X.w) X.A (call (.builtin "sorted") [.ref p] [("key", .ref f)]) (EP X pins σ Q) X.xe s := by
  obtain ⟨its, rv, pl, hz⟩ := I.list hq
  have ei : its = items.map fun q => Value.ref q.a := by
    clear pl hz q hq h64 hit
    induction items generalizing its with
    | nil => cases rv; rfl
    | cons it items ih =>
      cases rv with
      | cons a1 a2 =>
        cases (show _ = Value.ref it.a from a1)
        rw [List.map_cons, ih _ a2]
  subst ei
  have len : (items.map fun q => Value.ref q.a).length = items.length := List.length_map _
  have ln : items.length ≤ sizeLine := Nat.le_trans h64 (by decide)
  refine PyProof.Rows.call_function_entry_kw kind_sorted plain_sorted entry_sorted (ksk_s1 _ _) ?_
  unfold Builtin.«sorted»
  refine wpAny_bind (m := checkCount "sorted" 1 1 _) (wpAny_pure (wpAny_bind (collect_list pl.isList (wpAny_bind (wpAny_newList ?_ (by rw [len]; exact ln))) (by rw [len]; exact ln))))
  have sz1 : ((s.heap.push (seqObj "list" #[] 0)).update s.heap.objs.size (Obj.mapSeq (· ++ (items.map fun q => Value.ref q.a).toArray))).objs.size = s.heap.objs.size + 1 := by
    rw [Heap.size_update]; exact size_push' ..
  have at1 : (((s.heap.push (seqObj "list" #[] 0)).update s.heap.objs.size (Obj.mapSeq (· ++ (items.map fun q => Value.ref q.a).toArray))).push (seqObj "list" (items.map fun q => Value.ref q.a).toArray 0)).get? (s.heap.objs.size + 1) = some (seqObj "list" (items.map fun q => Value.ref q.a).toArray 0) := by
    have := Heap.get?_push_size ((s.heap.push (seqObj "list" #[] 0)).update s.heap.objs.size (Obj.mapSeq (· ++ (items.map fun q => Value.ref q.a).toArray))) (show (seqObj "list" (items.map fun q => Value.ref q.a).toArray 0).isFreed = false from rfl)
    rw [sz1] at this
    exact this
  have keep1 : ∀ b o, s.heap.get? b = some o → (((s.heap.push (seqObj "list" #[] 0)).update s.heap.objs.size (Obj.mapSeq (· ++ (items.map fun q => Value.ref q.a).toArray))).push (seqObj "list" (items.map fun q => Value.ref q.a).toArray 0)).get? b = some o := fun b o e =>
    Heap.get?_push_of_some _ (by rw [Heap.get?_update_ne _ _ _ _ (Nat.ne_of_lt (Heap.lt_size e))]; exact Heap.get?_push_of_some _ e)
  show wpAny (model X.prog X.w) _ _ _ _ { s with heap := (((s.heap.push (seqObj "list" #[] 0)).update s.heap.objs.size (Obj.mapSeq (· ++ (items.map fun q => Value.ref q.a).toArray))).push (seqObj "list" (items.map fun q => Value.ref q.a).toArray 0)) }
  rw [sz1]
  have I1 : Inv X pins σ H { s with heap := (((s.heap.push (seqObj "list" #[] 0)).update s.heap.objs.size (Obj.mapSeq (· ++ (items.map fun q => Value.ref q.a).toArray))).push (seqObj "list" (items.map fun q => Value.ref q.a).toArray 0)) } := I.kept (t' := s.toks) keep1
  have fD : FpOk X pins H (s.heap.objs.size + 1) := I.fpOk (Nat.le_succ _) (I.hok.fresh (Nat.le_succ _))
  generalize ((s.heap.push (seqObj "list" #[] 0)).update s.heap.objs.size (Obj.mapSeq (· ++ (items.map fun q => Value.ref q.a).toArray))).push (seqObj "list" (items.map fun q => Value.ref q.a).toArray 0) = h1 at at1 I1 ⊢
  refine wpAny_bind (wpAny_holding (PyProof.Rows.wpAny_call_entry_kw slot_list_sort ⟨_, at1, rfl⟩ entry_list_sort ?_ (ksk_l1 _ _)))
  rw [ksk_t1]
  refine keyTreeA F hb hr.in1.in1 (fun s H e => e.in1.in1) I1 at1 fD hit h64 fun pm H' s' c pn up I' kp na ha => ⟨_, rfl, wpAny_pure ⟨_, rfl, ?_⟩⟩
  have pl2 : pm.toList.Perm (List.range items.length) := by simpa using pn.pm.toList
  have sz : pm.size = items.length := pn.sz
  have lt : ∀ i ∈ pm.toList, i < items.length := fun i hi => by simpa using (pl2.mem_iff).mp hi
  let d : It3 := ⟨0, 0, 0, []⟩
  have out : (pm.toList.map fun i => items.getD i d).Perm items := by
    refine (pl2.map _).trans ?_
    refine List.Perm.of_eq (List.ext_getElem? fun i => ?_)
    rw [List.getElem?_map]
    by_cases hi : i < items.length
    · rw [List.getElem?_range hi, List.getElem?_eq_getElem hi]
      show some (items.getD i d) = _
      rw [List.getD_eq_getElem?_getD, List.getElem?_eq_getElem hi]
      rfl
    · rw [List.getElem?_eq_none (by simpa using hi), List.getElem?_eq_none (by lia)]
      rfl
  have rows : RowsBy (pm.toList.map fun i => items.getD i d) := by
    refine List.pairwise_iff_getElem.mpr fun i j hi hj ij => ?_
    rw [List.length_map, Array.length_toList, sz] at hi hj
    have u := up i j (Nat.le_of_lt ij) hj
    have gi : pm.getD i 0 = pm[i]'(by lia) := by simp [Array.getD, sz, hi]
    have gj : pm.getD j 0 = pm[j]'(by lia) := by simp [Array.getD, sz, hj]
    have li := lt _ (List.getElem_mem (l := pm.toList) (n := i) (by rw [Array.length_toList]; lia))
    have lj := lt _ (List.getElem_mem (l := pm.toList) (n := j) (by rw [Array.length_toList]; lia))
    rw [Array.getElem_toList] at li lj
    unfold kk at u
    rw [gi, gj] at u
    rw [List.getElem_map, List.getElem_map, Array.getElem_toList, Array.getElem_toList]
    generalize pm[i] = a at *
    generalize pm[j] = b at *
    have := rk_iff (rows := items.map fun q => [q.y, q.x]) (i := b) (j := a) (by rw [List.length_map]; exact lj)
    rw [decide_eq_false (by lia)] at this
    have gd : ∀ {c : Nat}, c < items.length → (items.map fun q => [q.y, q.x]).getD c [] = [(items.getD c d).y, (items.getD c d).x] := fun {c} hc => by
      rw [List.getD_eq_getElem?_getD, List.getElem?_map, List.getD_eq_getElem?_getD, List.getElem?_eq_getElem hc]
      rfl
    rw [gd lj, gd li] at this
    exact this.symm
  refine ⟨.ref (s.heap.objs.size + 1), _, I'.track (o := .lst ((pm.toList.map fun i => items.getD i d).map fun q => V.ref q.a)) na (Heap.get?_none_of_le (Nat.le_trans I.sz (Nat.le_succ _))) (Heap.get?_none_of_le (Nat.le_trans I.ok.bsz (Nat.le_trans I.sz (Nat.le_succ _)))) (Ne.symm fD.2.1) fD.2.2.2.2.1 fD.2.2.2.2.2 (fun b hb z => fD.2.2.1 (z ▸ hb)) ⟨by rw [List.length_map, List.length_map, Array.length_toList, sz]; exact ln, _, c, ?_, ha⟩, rfl, q (s.heap.objs.size + 1) _ H' kp na out rows⟩
  have : ∀ {l : List Nat}, (∀ i ∈ l, i < items.length) → Vals ((l.map fun i => items.getD i d).map fun q => V.ref q.a) (l.map fun i => (items.map fun q => Value.ref q.a).getD i Value.none) := by
    intro l
    induction l with
    | nil => intro _; exact .nil
    | cons i l ih =>
      intro hl
      refine .cons ?_ (ih fun j hj => hl j (List.mem_cons_of_mem _ hj))
      have hi := hl i (List.mem_cons_self ..)
      show RelV (V.ref (items.getD i d).a) ((items.map fun q => Value.ref q.a).getD i Value.none)
      rw [List.getD_eq_getElem?_getD, List.getD_eq_getElem?_getD, List.getElem?_map, List.getElem?_eq_getElem hi]
      rfl
  exact this lt
def tSortA (K : PySem.W.Frag) (t : TA) : TE := fun σ H Q => t σ H fun vs H1 => ∃ (p : Addr) (items : List It3), vs = [.ref p] ∧ SqL K H1 p (items.map fun q => V.ref q.a) ∧ items.length ≤ 100000 ∧ (∀ q ∈ items, H1 q.a = some (.tup (q.ns.map V.int))) ∧ ∀ (L : Addr) (out : List It3) (H' : Hp), (∀ b u, H1 b = some u → H' b = some u) → H' L = none → out.Perm items → RowsBy out → Q (.ref L) (upd H' L (.lst (out.map fun q => V.ref q.a)))
theorem pe_sortedA {ky : Str} {e : Expr} {t : TA} {p kp kpos pos : Pos} (c : Cal X.prog X.w X.K X.mg X.base CX0 k ky ps spRow) (hr : Room (k + 2) X.A) (hg : Gl X "sorted") (hm : X.mg "sorted" = none) (hgk : Gl X ky) (ha : PA X [e] t) (hd : (ky == ("__debug__" : Str)) = false := by decide)
    (he : backTo pos (starEach [e] X.env) = (false, eval e X.env) :: backTo pos (starEach [] X.env) := by rfl) (hp1 : (backTo pos (starEach [e] X.env)).any (·.1) = false := by rfl) : PE X (.Call (.Name "sorted" p) [e] [⟨some "key", .Name ky kp, kpos⟩] pos) (tSortA X.K t) := by
  intro pins s σ H Q I h
  obtain ⟨f, fd, F, hmk, hkp, hb⟩ := c.ex
  refine wpAny_Call_Name_kw (ld_blt I hg hm PyProof.Rows.boot_sorted ?_)
  refine PyProof.Rows.callWith_kw (thn (ha pos pins s σ H _ I h) fun us s1 ⟨vs, H1, I1, r1, q1⟩ => ?_) he hp1 rfl rfl
  obtain ⟨p', items, rfl, hq, h64, hit, q⟩ := q1
  refine thn (pk_cons (nm := some "key") (kpos := kpos) (pe_gref (pos := kp) hgk hmk hd) pk_nil pos pins s1 σ H1 (fun zs H2 => zs = [.ref f] ∧ H2 = H1) I1 ⟨rfl, rfl⟩) fun ws s2 ⟨zs, H2, I2, rz, e1, e2⟩ => ?_
  subst e1
  subst e2
  cases r1 with
  | cons a1 a2 =>
    cases a2
    cases (show _ = Value.ref p' from a1)
    cases rz with
    | cons b1 b2 =>
      cases b2
      cases (show _ = Value.ref f from b1)
      exact keySortedA F hb hr I2 hq hit h64 q
end
section
variable {prog : Program} {w : World} {A : Around} {E : Value → Shared → Prop} {s : Shared} {r d : Addr} {o : Obj} {es : Array DictEntry} {ep : Nat}
theorem sortedSrcA {T : String} {n : Nat} {P : Nat → Value → Prop} {OK : Heap → Prop} {Q : Value → Shared → Prop} (K : KdlSrc prog w T r d n P OK) (hh : A.handled = none) (hok : OK s.heap) (h64 : n ≤ 100000)
    (h : ∀ vs : List Value, vs.length = n → (∀ j v, vs[j]? = some v → P j v) → ∃ (κ : SortKind) (rk : Nat → Int) (rk' : Keyed → Nat),
      (∀ i, i < vs.length → rk i = (rk' (kas_item (vs.toArray.zip vs.toArray) i) : Int)) ∧
      (∀ (A : Around) (E : Value → Shared → Prop) (s' : Shared) (Q : SortKind → Shared → Prop), (∀ b o, s.heap.get? b = some o → s'.heap.get? b = some o) → 2 ≤ vs.length → Q κ s' → wpAny (model prog w) A (keyKind' vs.toArray) Q E s') ∧
      (∀ (A : Around) (s' : Shared), (∀ b o, s.heap.get? b = some o → s'.heap.get? b = some o) → ∀ i j C, i < vs.length → j < vs.length → C (decide (rk i < rk j)) s' → kas_ask prog w A κ vs i j C s') ∧
      ∀ (p : Array Nat) (h1 h' : Heap) (tk : Nat) (L : Addr) (e : Nat), PermN vs.length p → Up rk p vs.length → (∀ b o, s.heap.get? b = some o → h1.get? b = some o) → (∀ b o, h1.get? b = some o → h'.get? b = some o) → h1.objs.size ≤ L → h'.get? L = some (seqObj "list" (p.toList.map fun i => vs.getD i Value.none).toArray e) → Q (.ref L) { s with heap := h', toks := tk }) :
    wpAny (model prog w) A (call (.builtin "sorted") [.ref r]) Q E s := by
  have ln : n ≤ sizeLine := Nat.le_trans h64 (by decide)
  refine Calls.call_function_entry kind_sorted plain_sorted entry_sorted (args_sorted1 _) ?_
  unfold Builtin.«sorted»
  refine wpAny_bind (m := checkCount "sorted" 1 1 _) (wpAny_pure (wpAny_bind (kdu_collect (A := A.in1) K hh hok ln fun h1 tk acc hk1 hacc => ?_)))
  have al : acc.toList.length = n := by rw [Array.length_toList]; exact hacc.1
  obtain ⟨κ, rk, rk', a0, a1, a2, a3⟩ := h acc.toList al fun j v e => hacc.2 j v (by rw [← Array.getElem?_toList]; exact e)
  have ln2 : acc.toList.length ≤ sizeLine := by rw [al]; exact ln
  refine wpAny_bind (wpAny_newList ?_)
  have at1 : (h1.push (seqObj "list" acc.toList.toArray 0)).get? h1.objs.size = some (seqObj "list" acc.toList.toArray 0) := Heap.get?_push_size _ rfl
  have keep1 : ∀ b o, s.heap.get? b = some o → (h1.push (seqObj "list" acc.toList.toArray 0)).get? b = some o := fun b o e => Heap.get?_push_of_some _ (hk1 b o e)
  have ne : ∀ b o, s.heap.get? b = some o → b ≠ h1.objs.size := fun b o e => Nat.ne_of_lt (Heap.lt_size (hk1 b o e))
  show wpAny (model prog w) _ _ _ _ { s with heap := h1.push (seqObj "list" acc.toList.toArray 0), toks := tk }
  refine wpAny_bind (wpAny_holding (wpAny_call_entry slot_list_sort ⟨_, at1, rfl⟩ entry_list_sort (listSortA (κ := κ) (rk := rk) (rk' := rk') at1 (by rw [al]; exact h64) a0 (fun s' Q' kp t2 q => a1 _ _ s' Q' (fun b o e => kp b o (ne b o e) (keep1 b o e)) t2 q) (fun s' kp => a2 _ s' fun b o e => kp b o (ne b o e) (keep1 b o e)) fun p pn up => ⟨_, rfl, wpAny_pure ⟨_, rfl, ?_⟩⟩) (args_list_sort _)))
  obtain ⟨e, he⟩ := sortedHeap_at (vs := acc.toList) (out := (p.toList.map fun i => acc.toList.getD i Value.none).toArray) at1
  refine a3 p h1 _ tk _ e pn up hk1 (fun b o q => ?_) (Nat.le_refl _) he
  rw [sortedHeap_old (Nat.ne_of_lt (Heap.lt_size q)) (Heap.lt_size (Heap.get?_push_of_some _ q))]
  exact Heap.get?_push_of_some _ q
end
section
variable {X : Cx}
theorem call_sortedKA (hc : X.calm = true) : CallR X (.builtin "sorted") (fun xs H Q => ∃ (v d : Addr) (rows : List (List Int × V)), xs = [.ref v] ∧ H v = some (.ext (keysV v d)) ∧ Rd H d (.dT (rows.map fun q => (q.1.map Sum.inl, q.2))) ∧ rows.length ≤ 100000 ∧ (∀ q ∈ rows, q.1 ≠ []) ∧
    ∀ (L : Addr) (out : List (Addr × List Int)), H L = none → (out.map (·.2)).Perm (rows.map (·.1)) → (∀ q ∈ out, H q.1 = some (.tup (q.2.map V.int))) → RowsUp out → Q (.ref L) (upd H L (.lst (out.map fun q => V.ref q.1)))) := by
  intro pins s σ H xs us Q I r h
  obtain ⟨v, d, rows, rfl, hv, hd, h64, hne, q⟩ := h
  cases r with
  | cons r1 r2 =>
    cases r2
    cases (show _ = Value.ref v from r1)
    have kv : KdlKeysView s.heap v d := (show ObjOk X.prog X.w H s.heap v (.ext (keysV v d)) from I.hok v _ hv).1
    obtain ⟨z, y, ks, kt, o, es, ep, h1, h2, h3, h4, h5⟩ := (show ObjOk X.prog X.w H s.heap d (.dT _) from rd_of I.hok hd)
    have hz : es.size = rows.length := by rw [size_of_entries h4, ← Paired.length kt, List.length_map]
    -- the items behind the entries
    have items : ∃ items : List (Addr × List Int), es.toList.map (·.key) = items.map (fun q => Value.ref q.1) ∧ items.map (·.2) = rows.map (·.1) ∧ ∀ q ∈ items, H q.1 = some (.tup (q.2.map V.int)) := by
      rw [h4]
      clear h4 h5 h1 h2 h3 hz z q hd hv kv h64 hne
      generalize hk : (rows.map fun q => ((q.1.map Sum.inl : List Key), q.2)) = kvs at kt
      induction kt generalizing rows with
      | nil =>
        cases rows with
        | nil => exact ⟨[], rfl, rfl, fun q hq => nomatch hq⟩
        | cons _ _ => cases hk
      | @cons p x ps qs hx t ih =>
        cases rows with
        | nil => cases hk
        | cons r rows =>
          rw [List.map_cons] at hk
          injection hk with e0 e1
          obtain ⟨items, g1, g2, g3⟩ := ih rows e1
          obtain ⟨f1, f2, f3⟩ := hx
          refine ⟨(x.2.1, r.1) :: items, ?_, by rw [List.map_cons, List.map_cons, g2], fun q hq => ?_⟩
          · rw [List.map_cons, List.map_cons, List.map_cons, g1]
            rfl
          · rcases List.mem_cons.mp hq with rfl | hq
            · rw [f2, ← e0]
              show some (HO.tup ((r.1.map Sum.inl).map kV)) = some (HO.tup (r.1.map V.int))
              rw [List.map_map]
              rfl
            · exact g3 q hq
    obtain ⟨items, g1, g2, g3⟩ := items
    have li : items.length = rows.length := by
      have := congrArg List.length g2
      rw [List.length_map, List.length_map] at this
      exact this
    have ht : ∀ q ∈ items, H q.1 = some (.tup (q.2.map V.int)) ∧ q.2 ≠ [] := fun q hq => ⟨g3 q hq, fun e => by
      have : q.2 ∈ items.map (·.2) := List.mem_map.mpr ⟨q, hq, rfl⟩
      rw [g2] at this
      obtain ⟨r, hr, er⟩ := List.mem_map.mp this
      exact hne r hr (er.trans e)⟩
    refine sortedSrcA (src_keysR (r := v) h3) (I.ok.hd hc) ⟨kv, h1⟩ (by lia) fun vs lv pv => ?_
    have ev : vs = items.map fun q => Value.ref q.1 := by
      rw [← g1]
      refine List.ext_getElem? fun j => ?_
      by_cases hj : j < vs.length
      · obtain ⟨hj2, e⟩ := pv j _ (List.getElem?_eq_getElem hj)
        rw [List.getElem?_eq_getElem hj, e, List.getElem?_map, List.getElem?_eq_getElem (by rw [Array.length_toList]; exact hj2), Array.getElem_toList]
        rfl
      · rw [List.getElem?_eq_none (by lia), List.getElem?_eq_none (by rw [List.length_map, Array.length_toList]; lia)]
    subst ev
    have len : (items.map fun q => Value.ref q.1).length = items.length := List.length_map _
    refine ⟨tuples' true, rkOf (items.map (·.2)), rkK H (items.map (·.2)), fun i hi => rkK_of g3 len (by rw [len] at hi; exact hi), fun A E s' Q' kp two q' => ?_, fun A s' kp i j C hi hj c => ?_, fun pm hh1 h' tk L e pn up k1 k2 hL at1 => ?_⟩
    · obtain ⟨fs, m1, m2, m3⟩ := firsts_at (I.hok.kept kp) ht
      refine kat_kind (T := .type "int") m1 (by rw [m2, ← len]; lia) (fun v hv => ?_) rfl q'
      obtain ⟨x, t, rfl⟩ := m3 v hv
      exact .now
    · rw [len] at hi hj
      obtain ⟨b, o, us, m, e1, e2, e3, e4, e5⟩ := tups_at (I.hok.kept kp) ht hi
      obtain ⟨b', o', us', m', f1, f2, f3, f4, f5⟩ := tups_at (I.hok.kept kp) ht hj
      unfold kas_ask
      rw [e1, f1]
      refine kat_lt e2 e4 f2 f4 ?_
      rw [rk_iff (by rw [List.length_map]; exact hi)] at c
      have := lex_ask (prog := X.prog) (w := X.w) (A := A) (b := true) (i := 0) e5 f5 c
      have l1 := e5.length
      have l2 := f5.length
      rw [List.length_map] at l1 l2
      rw [List.size_toArray, List.size_toArray, ← l1, ← l2]
      exact this
    · have pl2 : pm.toList.Perm (List.range items.length) := by
        have := pn.pm
        rw [len] at this
        simpa using this.toList
      have sz : pm.size = items.length := pn.sz.trans len
      have lt : ∀ i ∈ pm.toList, i < items.length := fun i hi => by simpa using (pl2.mem_iff).mp hi
      let dd : Addr × List Int := (0, [])
      have out : (pm.toList.map fun i => items.getD i dd).Perm items := by
        refine (pl2.map _).trans ?_
        refine List.Perm.of_eq (List.ext_getElem? fun i => ?_)
        rw [List.getElem?_map]
        by_cases hi : i < items.length
        · rw [List.getElem?_range hi, List.getElem?_eq_getElem hi]
          show some (items.getD i dd) = _
          rw [List.getD_eq_getElem?_getD, List.getElem?_eq_getElem hi]
          rfl
        · rw [List.getElem?_eq_none (by simpa using hi), List.getElem?_eq_none (by lia)]
          rfl
      have rows : RowsUp (pm.toList.map fun i => items.getD i dd) := by
        refine List.pairwise_iff_getElem.mpr fun i j hi hj ij => ?_
        rw [List.length_map, Array.length_toList, sz] at hi hj
        have u := up i j (Nat.le_of_lt ij) (by rw [len]; exact hj)
        have gi : pm.getD i 0 = pm[i]'(by lia) := by simp [Array.getD, sz, hi]
        have gj : pm.getD j 0 = pm[j]'(by lia) := by simp [Array.getD, sz, hj]
        have li := lt _ (List.getElem_mem (l := pm.toList) (n := i) (by rw [Array.length_toList]; lia))
        have lj := lt _ (List.getElem_mem (l := pm.toList) (n := j) (by rw [Array.length_toList]; lia))
        rw [Array.getElem_toList] at li lj
        unfold kk at u
        rw [gi, gj] at u
        rw [List.getElem_map, List.getElem_map, Array.getElem_toList, Array.getElem_toList]
        generalize pm[i] = a at *
        generalize pm[j] = b at *
        have := rk_iff (rows := items.map (·.2)) (i := b) (j := a) (by rw [List.length_map]; exact lj)
        rw [decide_eq_false (by lia)] at this
        have gd : ∀ {c : Nat}, c < items.length → (items.map (·.2)).getD c [] = (items.getD c dd).2 := fun {c} hc => by
          rw [List.getD_eq_getElem?_getD, List.getElem?_map, List.getD_eq_getElem?_getD, List.getElem?_eq_getElem hc]
          rfl
        rw [gd lj, gd li] at this
        exact this.symm
      have I1 : Inv X pins σ H { s with heap := hh1, toks := tk } := I.kept k1
      refine ⟨.ref L, _, ?_, rfl, q L (pm.toList.map fun i => items.getD i dd) (I1.hok.fresh hL) (by rw [← g2]; exact out.map _) (fun x hx => g3 x (out.mem_iff.mp hx)) rows⟩
      refine I1.laid (a := L) (t' := tk) k2 hL ⟨by rw [List.length_map, List.length_map, Array.length_toList, sz]; exact Nat.le_trans (by lia) (show 100000 ≤ sizeLine by decide), _, e, ?_, at1⟩
      have : ∀ {l : List Nat}, (∀ i ∈ l, i < items.length) → Vals ((l.map fun i => items.getD i dd).map fun q => V.ref q.1) (l.map fun i => (items.map fun q => Value.ref q.1).getD i Value.none) := by
        intro l
        induction l with
        | nil => intro _; exact .nil
        | cons i l ih =>
          intro hl
          refine .cons ?_ (ih fun j hj => hl j (List.mem_cons_of_mem _ hj))
          have hi := hl i (List.mem_cons_self ..)
          show RelV (V.ref (items.getD i dd).1) ((items.map fun q => Value.ref q.1).getD i Value.none)
          rw [List.getD_eq_getElem?_getD, List.getD_eq_getElem?_getD, List.getElem?_map, List.getElem?_eq_getElem hi]
          rfl
      exact this lt
end
end L2

namespace J
open PySem L2
def top (i : Nat) : Stmt := PySem.Challenge.pw_jumpfield_k24_cells_told.main.body.getD i (.Pass ⟨0, 0, 0, 0⟩)
abbrev s_is_whole : Stmt := top 9
abbrev n_is_whole : List Str := ["thing"]
abbrev p_is_whole : List Str := ["thing"]
theorem sc_is_whole : FnScope n_is_whole p_is_whole (defScope s_is_whole) := ⟨rfl, rfl, rfl, by decide +kernel, rfl, by decide +kernel, by decide +kernel⟩
abbrev s_is_state : Stmt := top 12
abbrev n_is_state : List Str := ["thing"]
abbrev p_is_state : List Str := ["thing"]
theorem sc_is_state : FnScope n_is_state p_is_state (defScope s_is_state) := ⟨rfl, rfl, rfl, by decide +kernel, rfl, by decide +kernel, by decide +kernel⟩
abbrev s_lies_within : Stmt := top 19
abbrev n_lies_within : List Str := ["box", "limit"]
abbrev p_lies_within : List Str := ["box", "limit"]
theorem sc_lies_within : FnScope n_lies_within p_lies_within (defScope s_lies_within) := ⟨rfl, rfl, rfl, by decide +kernel, rfl, by decide +kernel, by decide +kernel⟩
abbrev s_reach_of : Stmt := top 20
abbrev n_reach_of : List Str := ["grove", "field"]
abbrev p_reach_of : List Str := ["grove", "field"]
theorem sc_reach_of : FnScope n_reach_of p_reach_of (defScope s_reach_of) := ⟨rfl, rfl, rfl, by decide +kernel, rfl, by decide +kernel, by decide +kernel⟩
abbrev s_bare_field : Stmt := top 21
abbrev n_bare_field : List Str := ["grove"]
abbrev p_bare_field : List Str := ["grove"]
theorem sc_bare_field : FnScope n_bare_field p_bare_field (defScope s_bare_field) := ⟨rfl, rfl, rfl, by decide +kernel, rfl, by decide +kernel, by decide +kernel⟩
abbrev s_widened : Stmt := top 22
abbrev n_widened : List Str := ["grove", "square", "level", "parts", "bare"]
abbrev p_widened : List Str := ["grove", "square"]
theorem sc_widened : FnScope n_widened p_widened (defScope s_widened) := ⟨rfl, rfl, rfl, by decide +kernel, rfl, by decide +kernel, by decide +kernel⟩
abbrev s_trimmed : Stmt := top 23
abbrev n_trimmed : List Str := ["grove", "square", "kept"]
abbrev p_trimmed : List Str := ["grove", "square"]
theorem sc_trimmed : FnScope n_trimmed p_trimmed (defScope s_trimmed) := ⟨rfl, rfl, rfl, by decide +kernel, rfl, by decide +kernel, by decide +kernel⟩
abbrev s_middle_of : Stmt := top 24
abbrev n_middle_of : List Str := ["grove", "square", "inner"]
abbrev p_middle_of : List Str := ["grove", "square"]
theorem sc_middle_of : FnScope n_middle_of p_middle_of (defScope s_middle_of) := ⟨rfl, rfl, rfl, by decide +kernel, rfl, by decide +kernel, by decide +kernel⟩
abbrev s_is_bare_around : Stmt := top 25
abbrev n_is_bare_around : List Str := ["grove", "square", "bare", "place", "quarter", "part_place", "part"]
abbrev p_is_bare_around : List Str := ["grove", "square"]
theorem sc_is_bare_around : FnScope n_is_bare_around p_is_bare_around (defScope s_is_bare_around) := ⟨rfl, rfl, rfl, by decide +kernel, rfl, by decide +kernel, by decide +kernel⟩
abbrev s_widened_over : Stmt := top 26
abbrev n_widened_over : List Str := ["grove", "field", "box", "wide"]
abbrev p_widened_over : List Str := ["grove", "field", "box"]
theorem sc_widened_over : FnScope n_widened_over p_widened_over (defScope s_widened_over) := ⟨rfl, rfl, rfl, by decide +kernel, rfl, by decide +kernel, by decide +kernel⟩
abbrev s_planted : Stmt := top 27
abbrev n_planted : List Str := ["grove", "field", "x", "y", "state", "place", "wide", "half"]
abbrev p_planted : List Str := ["grove", "field", "x", "y", "state"]
theorem sc_planted : FnScope n_planted p_planted (defScope s_planted) := ⟨rfl, rfl, rfl, by decide +kernel, rfl, by decide +kernel, by decide +kernel⟩
abbrev s_replaced : Stmt := top 28
abbrev n_replaced : List Str := ["grove", "square", "x", "y", "state", "level", "half", "parts", "place"]
abbrev p_replaced : List Str := ["grove", "square", "x", "y", "state"]
theorem sc_replaced : FnScope n_replaced p_replaced (defScope s_replaced) := ⟨rfl, rfl, rfl, by decide +kernel, rfl, by decide +kernel, by decide +kernel⟩
abbrev s_field_of : Stmt := top 29
abbrev n_field_of : List Str := ["grove", "cells", "field", "cell"]
abbrev p_field_of : List Str := ["grove", "cells"]
theorem sc_field_of : FnScope n_field_of p_field_of (defScope s_field_of) := ⟨rfl, rfl, rfl, by decide +kernel, rfl, by decide +kernel, by decide +kernel⟩
abbrev s_by_rows : Stmt := top 32
abbrev n_by_rows : List Str := ["cell"]
abbrev p_by_rows : List Str := ["cell"]
theorem sc_by_rows : FnScope n_by_rows p_by_rows (defScope s_by_rows) := ⟨rfl, rfl, rfl, by decide +kernel, rfl, by decide +kernel, by decide +kernel⟩
abbrev s_cells_of : Stmt := top 33
abbrev n_cells_of : List Str := ["grove", "field", "reach", "cells"]
abbrev p_cells_of : List Str := ["grove", "field"]
theorem sc_cells_of : FnScope n_cells_of p_cells_of (defScope s_cells_of) := ⟨rfl, rfl, rfl, by decide +kernel, rfl, by decide +kernel, by decide +kernel⟩
abbrev s_gather_cells : Stmt := top 34
abbrev n_gather_cells : List Str := ["grove", "square", "left", "top", "cells", "level", "half", "place", "quarter"]
abbrev p_gather_cells : List Str := ["grove", "square", "left", "top", "cells"]
theorem sc_gather_cells : FnScope n_gather_cells p_gather_cells (defScope s_gather_cells) := ⟨rfl, rfl, rfl, by decide +kernel, rfl, by decide +kernel, by decide +kernel⟩
abbrev s__law_at : Stmt := top 36
abbrev n__law_at : List Str := ["_law_script", "_law_k"]
abbrev p__law_at : List Str := ["_law_script", "_law_k"]
theorem sc__law_at : FnScope n__law_at p__law_at (defScope s__law_at) := ⟨rfl, rfl, rfl, by decide +kernel, rfl, by decide +kernel, by decide +kernel⟩
abbrev s__law_bits : Stmt := top 37
abbrev n__law_bits : List Str := ["_law_cell"]
abbrev p__law_bits : List Str := ["_law_cell"]
theorem sc__law_bits : FnScope n__law_bits p__law_bits (defScope s__law_bits) := ⟨rfl, rfl, rfl, by decide +kernel, rfl, by decide +kernel, by decide +kernel⟩
abbrev s__law_spot : Stmt := top 38
abbrev n__law_spot : List Str := ["_law_cell", "_law_bits_here", "_law_way", "_law_rest", "_law_wide"]
abbrev p__law_spot : List Str := ["_law_cell", "_law_bits_here"]
theorem sc__law_spot : FnScope n__law_spot p__law_spot (defScope s__law_spot) := ⟨rfl, rfl, rfl, by decide +kernel, rfl, by decide +kernel, by decide +kernel⟩
abbrev s__law_cells_by : Stmt := top 39
abbrev n__law_cells_by : List Str := ["_law_script", "_law_cells", "_law_half", "_law_y", "_law_x", "_law_bits_here", "_law_at_here", "_law_state"]
abbrev p__law_cells_by : List Str := ["_law_script"]
theorem sc__law_cells_by : FnScope n__law_cells_by p__law_cells_by (defScope s__law_cells_by) := ⟨rfl, rfl, rfl, by decide +kernel, rfl, by decide +kernel, by decide +kernel⟩
abbrev s__law_due : Stmt := top 40
abbrev n__law_due : List Str := ["_law_cells", "_law_due_here", "_law_x", "_law_y", "_law_state"]
abbrev p__law_due : List Str := ["_law_cells"]
theorem sc__law_due : FnScope n__law_due p__law_due (defScope s__law_due) := ⟨rfl, rfl, rfl, by decide +kernel, rfl, by decide +kernel, by decide +kernel⟩
abbrev s__law_told : Stmt := top 41
abbrev n__law_told : List Str := ["_law_found", "_law_due_here", "_law_one", "_law_other", "_law_k"]
abbrev p__law_told : List Str := ["_law_found", "_law_due_here"]
theorem sc__law_told : FnScope n__law_told p__law_told (defScope s__law_told) := ⟨rfl, rfl, rfl, by decide +kernel, rfl, by decide +kernel, by decide +kernel⟩
abbrev s_law : Stmt := top 42
abbrev n_law : List Str := ["_law_script", "_law_grove", "_law_cells", "_law_due_here", "_law_field", "_law_found", "_law_other"]
abbrev p_law : List Str := ["_law_script"]
theorem sc_law : FnScope n_law p_law (defScope s_law) := ⟨rfl, rfl, rfl, by decide +kernel, rfl, by decide +kernel, by decide +kernel⟩
abbrev s_Grove_init : Stmt := inClass (top 15) 0
abbrev n_Grove_init : List Str := ["self", "state", "level", "bare"]
abbrev p_Grove_init : List Str := ["self"]
theorem sc_Grove_init : FnScope n_Grove_init p_Grove_init (defScope s_Grove_init) := ⟨rfl, rfl, rfl, by decide +kernel, rfl, by decide +kernel, by decide +kernel⟩
abbrev s_Grove_kept : Stmt := inClass (top 15) 1
abbrev n_Grove_kept : List Str := ["self", "parts", "level", "number"]
abbrev p_Grove_kept : List Str := ["self", "parts", "level"]
theorem sc_Grove_kept : FnScope n_Grove_kept p_Grove_kept (defScope s_Grove_kept) := ⟨rfl, rfl, rfl, by decide +kernel, rfl, by decide +kernel, by decide +kernel⟩
abbrev s_Grove_linked : Stmt := inClass (top 15) 2
abbrev n_Grove_linked : List Str := ["self", "parts", "number"]
abbrev p_Grove_linked : List Str := ["self", "parts"]
theorem sc_Grove_linked : FnScope n_Grove_linked p_Grove_linked (defScope s_Grove_linked) := ⟨rfl, rfl, rfl, by decide +kernel, rfl, by decide +kernel, by decide +kernel⟩
abbrev s_Grove_check_square : Stmt := inClass (top 15) 3
abbrev n_Grove_check_square : List Str := ["self", "square"]
abbrev p_Grove_check_square : List Str := ["self", "square"]
theorem sc_Grove_check_square : FnScope n_Grove_check_square p_Grove_check_square (defScope s_Grove_check_square) := ⟨rfl, rfl, rfl, by decide +kernel, rfl, by decide +kernel, by decide +kernel⟩
abbrev s_Grove_leaf : Stmt := inClass (top 15) 4
abbrev n_Grove_leaf : List Str := ["self", "state"]
abbrev p_Grove_leaf : List Str := ["self", "state"]
theorem sc_Grove_leaf : FnScope n_Grove_leaf p_Grove_leaf (defScope s_Grove_leaf) := ⟨rfl, rfl, rfl, by decide +kernel, rfl, by decide +kernel, by decide +kernel⟩
abbrev s_Grove_solid : Stmt := inClass (top 15) 6
abbrev n_Grove_solid : List Str := ["self", "level", "state", "square", "below"]
abbrev p_Grove_solid : List Str := ["self", "level", "state"]
theorem sc_Grove_solid : FnScope n_Grove_solid p_Grove_solid (defScope s_Grove_solid) := ⟨rfl, rfl, rfl, by decide +kernel, rfl, by decide +kernel, by decide +kernel⟩
abbrev s_Grove_level_of : Stmt := inClass (top 15) 7
abbrev n_Grove_level_of : List Str := ["self", "square"]
abbrev p_Grove_level_of : List Str := ["self", "square"]
theorem sc_Grove_level_of : FnScope n_Grove_level_of p_Grove_level_of (defScope s_Grove_level_of) := ⟨rfl, rfl, rfl, by decide +kernel, rfl, by decide +kernel, by decide +kernel⟩
abbrev s_Grove_state_of : Stmt := inClass (top 15) 9
abbrev n_Grove_state_of : List Str := ["self", "square"]
abbrev p_Grove_state_of : List Str := ["self", "square"]
theorem sc_Grove_state_of : FnScope n_Grove_state_of p_Grove_state_of (defScope s_Grove_state_of) := ⟨rfl, rfl, rfl, by decide +kernel, rfl, by decide +kernel, by decide +kernel⟩
abbrev s_Grove_living : Stmt := inClass (top 15) 10
abbrev n_Grove_living : List Str := ["self", "square"]
abbrev p_Grove_living : List Str := ["self", "square"]
theorem sc_Grove_living : FnScope n_Grove_living p_Grove_living (defScope s_Grove_living) := ⟨rfl, rfl, rfl, by decide +kernel, rfl, by decide +kernel, by decide +kernel⟩
abbrev s_Grove_counted : Stmt := inClass (top 15) 11
abbrev n_Grove_counted : List Str := ["self", "square", "amount"]
abbrev p_Grove_counted : List Str := ["self", "square"]
theorem sc_Grove_counted : FnScope n_Grove_counted p_Grove_counted (defScope s_Grove_counted) := ⟨rfl, rfl, rfl, by decide +kernel, rfl, by decide +kernel, by decide +kernel⟩
structure Ad where
  c_Grove : Addr
structure Top (K : PySem.W.Frag) (mg : Str → Option Value) (a : Ad) : Prop where
  b_bool : mg "bool" = none
  b_enumerate : mg "enumerate" = none
  b_int : mg "int" = none
  b_isinstance : mg "isinstance" = none
  b_len : mg "len" = none
  b_list : mg "list" = none
  b_min : mg "min" = none
  b_range : mg "range" = none
  b_sorted : mg "sorted" = none
  b_sum : mg "sum" = none
  b_tuple : mg "tuple" = none
  b_zip : mg "zip" = none
  k_STATES : ∃ t, mg "STATES" = some (.int 8 t)
  k_TOP_LEVEL : ∃ t, mg "TOP_LEVEL" = some (.int 48 t)
  k_LIMIT : ∃ t, mg "LIMIT" = some (.int 1099511627776 t)
  k_LEAST_LEVEL : ∃ t, mg "LEAST_LEVEL" = some (.int 1 t)
  k_MOST_CELLS : ∃ t, mg "MOST_CELLS" = some (.int 4096 t)
  m_Grove : mg "Grove" = some (.ref a.c_Grove)
  cl_Grove : Cls K a.c_Grove
  na_Grove_levels : NoAttr K a.c_Grove "levels"
  na_Grove_parts : NoAttr K a.c_Grove "parts"
  na_Grove_numbers : NoAttr K a.c_Grove "numbers"
  na_Grove_bares : NoAttr K a.c_Grove "bares"
  na_Grove_amounts : NoAttr K a.c_Grove "amounts"
  na_Grove_boxes : NoAttr K a.c_Grove "boxes"
end J

namespace J
open PySem L2
structure Sq where
  parts : List Int
  lev : Int
abbrev Gv := List Sq
structure GA where
  p : Addr
  dx : Addr
  lv : Addr
  pt : Addr
  nm : Addr
  br : Addr
  am : Addr
  bx : Addr
def fl6 (g : GA) : List (Str × V) := putF "boxes" (.ref g.bx) (putF "amounts" (.ref g.am) (putF "bares" (.ref g.br) (putF "numbers" (.ref g.nm) (putF "parts" (.ref g.pt) (putF "levels" (.ref g.lv) [])))))
theorem fl6_lv (g : GA) : (fl6 g).lookup ("levels" : Str) = some (V.ref g.lv) := by
  unfold fl6
  rw [lookup_putF, if_neg (by decide +kernel), lookup_putF, if_neg (by decide +kernel), lookup_putF, if_neg (by decide +kernel), lookup_putF, if_neg (by decide +kernel), lookup_putF, if_neg (by decide +kernel), lookup_putF, if_pos rfl]
theorem fl6_pt (g : GA) : (fl6 g).lookup ("parts" : Str) = some (V.ref g.pt) := by
  unfold fl6
  rw [lookup_putF, if_neg (by decide +kernel), lookup_putF, if_neg (by decide +kernel), lookup_putF, if_neg (by decide +kernel), lookup_putF, if_neg (by decide +kernel), lookup_putF, if_pos rfl]
theorem fl6_nm (g : GA) : (fl6 g).lookup ("numbers" : Str) = some (V.ref g.nm) := by
  unfold fl6
  rw [lookup_putF, if_neg (by decide +kernel), lookup_putF, if_neg (by decide +kernel), lookup_putF, if_neg (by decide +kernel), lookup_putF, if_pos rfl]
theorem fl6_br (g : GA) : (fl6 g).lookup ("bares" : Str) = some (V.ref g.br) := by
  unfold fl6
  rw [lookup_putF, if_neg (by decide +kernel), lookup_putF, if_neg (by decide +kernel), lookup_putF, if_pos rfl]
theorem fl6_am (g : GA) : (fl6 g).lookup ("amounts" : Str) = some (V.ref g.am) := by
  unfold fl6
  rw [lookup_putF, if_neg (by decide +kernel), lookup_putF, if_pos rfl]
theorem fl6_no (g : GA) {m : Str} (h1 : ¬ m = ("boxes" : Str)) (h2 : ¬ m = ("amounts" : Str)) (h3 : ¬ m = ("bares" : Str)) (h4 : ¬ m = ("numbers" : Str)) (h5 : ¬ m = ("parts" : Str)) (h6 : ¬ m = ("levels" : Str)) : (fl6 g).lookup m = none := by
  unfold fl6
  rw [lookup_putF, if_neg h1, lookup_putF, if_neg h2, lookup_putF, if_neg h3, lookup_putF, if_neg h4, lookup_putF, if_neg h5, lookup_putF, if_neg h6]
  rfl
theorem no_kept (g : GA) : (fl6 g).lookup ("kept" : Str) = none := fl6_no g (by decide +kernel) (by decide +kernel) (by decide +kernel) (by decide +kernel) (by decide +kernel) (by decide +kernel)
theorem no_linked (g : GA) : (fl6 g).lookup ("linked" : Str) = none := fl6_no g (by decide +kernel) (by decide +kernel) (by decide +kernel) (by decide +kernel) (by decide +kernel) (by decide +kernel)
theorem no_check (g : GA) : (fl6 g).lookup ("check_square" : Str) = none := fl6_no g (by decide +kernel) (by decide +kernel) (by decide +kernel) (by decide +kernel) (by decide +kernel) (by decide +kernel)
theorem no_leaf (g : GA) : (fl6 g).lookup ("leaf" : Str) = none := fl6_no g (by decide +kernel) (by decide +kernel) (by decide +kernel) (by decide +kernel) (by decide +kernel) (by decide +kernel)
theorem no_levelOf (g : GA) : (fl6 g).lookup ("level_of" : Str) = none := fl6_no g (by decide +kernel) (by decide +kernel) (by decide +kernel) (by decide +kernel) (by decide +kernel) (by decide +kernel)
theorem no_solid (g : GA) : (fl6 g).lookup ("solid" : Str) = none := fl6_no g (by decide +kernel) (by decide +kernel) (by decide +kernel) (by decide +kernel) (by decide +kernel) (by decide +kernel)
theorem no_stateOf (g : GA) : (fl6 g).lookup ("state_of" : Str) = none := fl6_no g (by decide +kernel) (by decide +kernel) (by decide +kernel) (by decide +kernel) (by decide +kernel) (by decide +kernel)
def kOf (ps : List Int) : List Key := ps.map Sum.inl
theorem kOf_v (ps : List Int) : (kOf ps).map kV = ps.map V.int := by unfold kOf; rw [List.map_map]; rfl
theorem kOf_inj : ∀ {ps qs : List Int}, kOf ps = kOf qs → ps = qs
  | [], [], _ => rfl
  | [], _ :: _, h => by cases h
  | _ :: _, [], h => by cases h
  | x :: r, y :: t, h => by
    have h : Sum.inl x :: kOf r = (Sum.inl y : Key) :: kOf t := h
    injection h with h1 h2
    injection h1 with h1
    rw [h1, kOf_inj h2]
def kvOf : Nat → Gv → List (List Key × V)
  | _, [] => []
  | n, q :: r => (kOf q.parts, .int (n : Int)) :: kvOf (n + 1) r
theorem kvOf_len : ∀ (G : Gv) (n : Nat), (kvOf n G).length = G.length
  | [], _ => rfl
  | q :: r, n => by show (kvOf (n + 1) r).length + 1 = r.length + 1; rw [kvOf_len r]
theorem kvOf_snoc (q : Sq) : ∀ (G : Gv) (n : Nat), kvOf n (G ++ [q]) = kvOf n G ++ [(kOf q.parts, .int ((n + G.length : Nat) : Int))]
  | [], _ => rfl
  | p :: r, n => by
    show (kOf p.parts, V.int (n : Int)) :: kvOf (n + 1) (r ++ [q]) = _
    rw [kvOf_snoc q r (n + 1)]
    show _ = (kOf p.parts, V.int (n : Int)) :: (kvOf (n + 1) r ++ [(kOf q.parts, V.int ((n + (r.length + 1) : Nat) : Int))])
    rw [show n + 1 + r.length = n + (r.length + 1) by lia]
theorem kv_look (ps : List Int) : ∀ (G : Gv) (n : Nat), (∃ (i : Nat) (q : Sq), G[i]? = some q ∧ q.parts = ps ∧ valV (kvOf n G) (kOf ps) = some (.int ((n + i : Nat) : Int))) ∨ (valV (kvOf n G) (kOf ps) = none ∧ ∀ q ∈ G, q.parts ≠ ps)
  | [], n => .inr ⟨rfl, fun q hq => by simp at hq⟩
  | p :: r, n => by
    by_cases e : p.parts = ps
    · exact .inl ⟨0, p, rfl, e, valV_pos (by rw [e])⟩
    · have ne : ¬ (kOf p.parts, V.int (n : Int)).1 = kOf ps := fun z => e (kOf_inj z)
      rcases kv_look ps r (n + 1) with ⟨i, q, h1, h2, h3⟩ | ⟨h1, h2⟩
      · refine .inl ⟨i + 1, q, h1, h2, ?_⟩
        show valV ((kOf p.parts, V.int (n : Int)) :: kvOf (n + 1) r) (kOf ps) = _
        rw [valV_neg ne, h3, show n + 1 + i = n + (i + 1) by lia]
      · refine .inr ⟨?_, fun q hq => ?_⟩
        · show valV ((kOf p.parts, V.int (n : Int)) :: kvOf (n + 1) r) (kOf ps) = _
          rw [valV_neg ne, h1]
        · rcases List.mem_cons.mp hq with rfl | hq
          · exact e
          · exact h2 q hq
def TupAt (H : Hp) (t : Addr) (q : Sq) : Prop := H t = some (.tup (q.parts.map V.int))
structure GroveAt (a : Ad) (H : Hp) (g : GA) (G : Gv) : Prop where
  hp : H g.p = some (.ins a.c_Grove g.dx (fl6 g))
  lv : H g.lv = some (.lst (G.map fun q => .int q.lev))
  pt : ∃ ts : List Addr, H g.pt = some (.lst (ts.map V.ref)) ∧ Paired (TupAt H) ts G
  nm : H g.nm = some (.dT (kvOf 0 G))
  ne : g.lv ≠ g.pt
def Fr (g : GA) (H H' : Hp) : Prop := ∀ b o, H b = some o → b ≠ g.lv → b ≠ g.pt → b ≠ g.nm → H' b = some o
theorem Fr.refl (g : GA) (H : Hp) : Fr g H H := fun _ _ e _ _ _ => e
theorem Fr.trans {g : GA} {H1 H2 H3 : Hp} (h : Fr g H1 H2) (h2 : Fr g H2 H3) : Fr g H1 H3 := fun b o e n1 n2 n3 => h2 b o (h b o e n1 n2 n3) n1 n2 n3
theorem Same.fr {g : GA} {H1 H2 : Hp} (h : Same H1 H2) : Fr g H1 H2 := fun b o e _ _ _ => h b o e
theorem PairedM.imp {α β : Type} {F G : α → β → Prop} (h : ∀ x y, F x y → G x y) : ∀ {l : List α} {m : List β}, Paired F l m → Paired G l m
  | _, _, .nil => .nil
  | _, _, .cons r t => .cons (h _ _ r) (PairedM.imp h t)
theorem PairedM.get {α β : Type} {F : α → β → Prop} : ∀ {l : List α} {m : List β} {i : Nat} {y : β}, Paired F l m → m[i]? = some y → ∃ x, l[i]? = some x ∧ F x y
  | _, _, _, _, .nil, e => by simp at e
  | _, _, 0, _, .cons r _, e => by simp at e; subst e; exact ⟨_, rfl, r⟩
  | _, _, i + 1, y, .cons _ t, e => by
    obtain ⟨x, h1, h2⟩ := PairedM.get (i := i) (y := y) t (by simpa using e)
    exact ⟨x, by simpa using h1, h2⟩
theorem same_up {H : Hp} {p : Addr} {o : HO} (h : H p = none) : Same H (upd H p o) := fun b u e => by
  rw [upd_ne (ne_of_none e h)]
  exact e
theorem GroveAt.same {a : Ad} {H H' : Hp} {g : GA} {G : Gv} (s : Same H H') (h : GroveAt a H g G) : GroveAt a H' g G := by
  obtain ⟨h1, h2, ⟨ts, h3, h4⟩, h5, h6⟩ := h
  exact ⟨s _ _ h1, s _ _ h2, ⟨ts, s _ _ h3, PairedM.imp (fun t q z => s _ _ z) h4⟩, s _ _ h5, h6⟩
theorem GroveAt.put {a : Ad} {H : Hp} {g : GA} {G : Gv} {l : Addr} {xs : List V} {o : HO} (hl : H l = some (.lst xs)) (n1 : l ≠ g.lv) (n2 : l ≠ g.pt) (h : GroveAt a H g G) : GroveAt a (upd H l o) g G := by
  obtain ⟨h1, h2, ⟨ts, h3, h4⟩, h5, h6⟩ := h
  have other : ∀ {b v}, H b = some v → v ≠ .lst xs → upd H l o b = some v := fun {b v} e n => by rw [upd_ne (ne_of e hl n)]; exact e
  exact ⟨other h1 (by intro z; cases z), by rw [upd_ne (Ne.symm n1)]; exact h2, ⟨ts, by rw [upd_ne (Ne.symm n2)]; exact h3, PairedM.imp (fun t q z => other z (by intro z; cases z)) h4⟩, other h5 (by intro z; cases z), h6⟩
def LevAt (G : Gv) (x : Nat) (l : Int) : Prop := ∃ q, G[x]? = some q ∧ q.lev = l
structure GOk (G : Gv) : Prop where
  leaf : ∀ s : Nat, s < 8 → G[s]? = some ⟨[(s : Int)], 0⟩
  node : ∀ (i : Nat) q, G[i]? = some q → 8 ≤ i → ∃ x y z w : Nat, q.parts = [(x : Int), (y : Int), (z : Int), (w : Int)] ∧ (LevAt G x (q.lev - 1) ∧ LevAt G y (q.lev - 1) ∧ LevAt G z (q.lev - 1) ∧ LevAt G w (q.lev - 1)) ∧ 1 ≤ q.lev ∧ q.lev ≤ 48
  nd : (G.map Sq.parts).Nodup
theorem LevAt.lt {G : Gv} {x : Nat} {l : Int} (h : LevAt G x l) : x < G.length := by
  obtain ⟨q, h, _⟩ := h
  exact (List.getElem?_eq_some_iff.mp h).1
theorem get_app {G r : Gv} {x : Nat} {q : Sq} (h : G[x]? = some q) : (G ++ r)[x]? = some q := by
  rw [List.getElem?_append_left (List.getElem?_eq_some_iff.mp h).1]
  exact h
theorem LevAt.app {G r : Gv} {x : Nat} {l : Int} (h : LevAt G x l) : LevAt (G ++ r) x l := by
  obtain ⟨q, h, e⟩ := h
  exact ⟨q, get_app h, e⟩
theorem GOk.lev {G : Gv} (h : GOk G) {i : Nat} {q : Sq} (e : G[i]? = some q) : 0 ≤ q.lev ∧ q.lev ≤ 48 := by
  by_cases h8 : i < 8
  · rw [h.leaf i h8] at e
    cases e
    exact ⟨Int.le_refl 0, by show (0 : Int) ≤ 48; decide⟩
  · obtain ⟨x, y, z, w, _, _, h1, h2⟩ := h.node i q e (by lia)
    exact ⟨by lia, h2⟩
theorem GOk.snoc {G : Gv} (h : GOk G) {x y z w : Nat} {l : Int} (hx : LevAt G x l) (hy : LevAt G y l) (hz : LevAt G z l) (hw : LevAt G w l) (h47 : l ≤ 47) (new : ∀ q ∈ G, q.parts ≠ [(x : Int), (y : Int), (z : Int), (w : Int)]) : GOk (G ++ [⟨[(x : Int), (y : Int), (z : Int), (w : Int)], l + 1⟩]) where
  leaf := fun s hs => get_app (h.leaf s hs)
  node := fun i q e hi => by
    by_cases hl : i < G.length
    · rw [List.getElem?_append_left hl] at e
      obtain ⟨x, y, z, w, h1, ⟨a1, a2, a3, a4⟩, h3⟩ := h.node i q e hi
      exact ⟨x, y, z, w, h1, ⟨a1.app, a2.app, a3.app, a4.app⟩, h3⟩
    · rw [List.getElem?_append_right (by lia)] at e
      have : i - G.length = 0 := by
        by_cases z : i - G.length = 0
        · exact z
        · rw [List.getElem?_eq_none (by rw [List.length_singleton]; lia)] at e; cases e
      rw [this] at e
      cases e
      obtain ⟨q0, e0, l0⟩ := hx
      have := (h.lev e0).1
      have el : l + 1 - 1 = l := by lia
      refine ⟨x, y, z, w, rfl, ?_, ?_, ?_⟩
      · show LevAt _ x (l + 1 - 1) ∧ LevAt _ y (l + 1 - 1) ∧ LevAt _ z (l + 1 - 1) ∧ LevAt _ w (l + 1 - 1)
        rw [el]
        exact ⟨LevAt.app ⟨q0, e0, l0⟩, hy.app, hz.app, hw.app⟩
      · show 1 ≤ l + 1; lia
      · show l + 1 ≤ 48; lia
  nd := by
    rw [List.map_append, List.nodup_append]
    refine ⟨h.nd, by simp, fun p hp p' hp' => ?_⟩
    obtain ⟨q, hq, rfl⟩ := List.mem_map.mp hp
    rw [show p' = [(x : Int), (y : Int), (z : Int), (w : Int)] by simpa using hp']
    exact new q hq
theorem GOk.one {G : Gv} (h : GOk G) {i j : Nat} {p q : Sq} (hi : G[i]? = some p) (hj : G[j]? = some q) (e : p.parts = q.parts) : i = j := by
  have li := (List.getElem?_eq_some_iff.mp hi).1
  have lj := (List.getElem?_eq_some_iff.mp hj).1
  have h1 : (G.map Sq.parts)[i]'(by rw [List.length_map]; exact li) = (G.map Sq.parts)[j]'(by rw [List.length_map]; exact lj) := by
    rw [List.getElem_map, List.getElem_map, (List.getElem?_eq_some_iff.mp hi).2, (List.getElem?_eq_some_iff.mp hj).2, e]
  exact (List.getElem_inj h.nd).mp h1
end J

namespace J
open PySem L2
theorem lt_ln {n : Nat} (h : n < 10000000) : n < sizeLine := Nat.lt_of_lt_of_le h (by decide)
theorem kit_w (K : PySem.W.Frag) : PySem.W.kitOne K (.type "int") (.type "int") = some true ∧ PySem.W.kitOne K (.type "int") (.type "bool") = some false := ⟨by kernel_rfl, by kernel_rfl⟩
section
variable {P : Program} {w : World} {K : PySem.W.Frag} {mg : Str → Option Value} {base : Heap} {a : Ad}
inductive SpIW (vs : List V) (H : Hp) (Q : VK) : Prop
  | mk (i : Int) (_ : vs = [.int i]) (_ : Q (.bl true) H) : SpIW vs H Q
def spIW : Sp := fun vs H Q _ => SpIW vs H Q
theorem ok_iw {f : Addr} {fd : FuncData} (F : Fun K "is_whole" "is_whole" s_is_whole f fd) (T : Top K mg a) : FnOk P w K mg base CX0 1 f fd p_is_whole spIW := by
  refine F.ok sc_is_whole (fun vs H Q E h => ?_) (fun cdv A outer s H vs Q E hr h => ?_)
  · obtain ⟨i, rfl, _⟩ := h
    rfl
  · obtain ⟨i, rfl, k⟩ := h
    exact ⟨_, (@pss_one _ _ _ (@ps_ret _ _ _ _ (@pe_and _ _ _ _ _ _ _ (@pe_callB _ _ _ _ _ _ _ _ _ (@call_isi _) rfl T.b_isinstance PyProof.Rows.boot_isinstance (@pa_cons _ _ _ _ _ (pv 0) (@pa_cons _ _ _ _ _ (@pe_bltn _ _ ((.ty "int")) _ _ rfl T.b_int PyProof.Rows.boot_int rfl (by decide) (by decide)) (@pa_nil _) rfl) rfl) (by decide) (by decide) rfl rfl) (@pe_one _ _ _ _ _ (@pe_not _ _ _ _ (@pe_callB _ _ _ _ _ _ _ _ _ (@call_isi _) rfl T.b_isinstance PyProof.Rows.boot_isinstance (@pa_cons _ _ _ _ _ (pv 0) (@pa_cons _ _ _ _ _ (@pe_bltn _ _ ((.ty "bool")) _ _ rfl T.b_bool PyProof.Rows.boot_bool rfl (by decide) (by decide)) (@pa_nil _) rfl) rfl) (by decide) (by decide) rfl rfl)))))), _, rfl, _, _, _, .type "int", true, rfl, rfl, .of (.int i), (kit_w K).1, true, rfl, iteT ⟨_, rfl, _, _, _, .type "int", false, rfl, rfl, .of (.int i), (kit_w K).2, false, rfl, k⟩⟩
inductive SpIS (vs : List V) (H : Hp) (Q : VK) : Prop
  | mk (i : Int) (_ : vs = [.int i]) (_ : 0 ≤ i) (_ : i < 8) (_ : Q (.bl true) H) : SpIS vs H Q
def spIS : Sp := fun vs H Q _ => SpIS vs H Q
theorem ok_is {f : Addr} {fd : FuncData} (F : Fun K "is_state" "is_state" s_is_state f fd) (T : Top K mg a) (C_is_whole : Cal P w K mg base CX0 1 "is_whole" p_is_whole spIW) : FnOk P w K mg base CX0 2 f fd p_is_state spIS := by
  refine F.ok sc_is_state (fun vs H Q E h => ?_) (fun cdv A outer s H vs Q E hr h => ?_)
  · obtain ⟨i, rfl, _⟩ := h
    rfl
  · obtain ⟨i, rfl, h0, h1, k⟩ := h
    refine ⟨_, (@pss_one _ _ _ (@ps_ret _ _ _ _ (@pe_and _ _ _ _ _ _ _ (@pe_cal _ _ _ _ _ _ _ _ _ _ _ _ C_is_whole (rm hr) rfl pass0 (@pa_cons _ _ _ _ _ (pv 0) (@pa_nil _) rfl) (by decide) rfl rfl) (@pe_one _ _ _ _ _ (@pe_chain _ _ _ _ _ _ _ _ _ _ _ _ (@op_le _) (@op_lt _) (@pe_int _ _ _ _) (pv 0) (@pe_gint _ _ _ _ rfl T.k_STATES (by decide)) (by with_unfolding_all rfl)))))), ?_⟩
    try dsimp only [cxK]
    refine ⟨_, rfl, i, rfl, true, rfl, iteT ⟨_, rfl, _, _, rfl, rfl, _, rfl, ?_⟩⟩
    rw [decide_eq_true h0]
    refine iteT ⟨_, _, rfl, rfl, ?_⟩
    show Q (.bl (decide (i < 8))) H
    rw [decide_eq_true h1]
    exact k
inductive SpKept (a : Ad) (vs : List V) (H : Hp) (Q : VK) : Prop
  | mk (g : GA) (G : Gv) (t : Addr) (ps : List Int) (l : Int) (_ : vs = [.ref g.p, .ref t, .int l]) (_ : GroveAt a H g G) (_ : H t = some (.tup (ps.map V.int))) (_ : (∀ q ∈ G, q.parts ≠ ps)) (_ : G.length < 9000000) (_ : ∀ H', Fr g H H' → GroveAt a H' g (G ++ [⟨ps, l⟩]) → Q (.int (G.length : Int)) H') : SpKept a vs H Q
def spKept (a : Ad) : Sp := fun vs H Q _ => SpKept a vs H Q
theorem ok_kept {f : Addr} {fd : FuncData} (F : Fun K "kept" "Grove.kept" s_Grove_kept f fd) (T : Top K mg a) : FnOk P w K mg base CX0 1 f fd p_Grove_kept (spKept a) := by
  refine F.ok sc_Grove_kept (fun vs H Q E h => ?_) (fun cdv A outer s H vs Q E hr h => ?_)
  · obtain ⟨g, G, t, ps, l, rfl, _⟩ := h
    rfl
  · obtain ⟨g, G, t, ps, l, rfl, hg, ht, new, few, k⟩ := h
    obtain ⟨h1, h2, ⟨ts, h3, h4⟩, h5, h6⟩ := hg
    have lt : ts.length = G.length := Paired.length h4
    refine ⟨_, (@pss_cons _ _ _ _ _ (@ps_set _ _ (3) _ _ _ _ sc_Grove_kept.nd rfl (Or.inl rfl) (@pe_callB _ _ _ _ _ _ _ _ _ (@call_len_seq _) rfl T.b_len PySem.boot_len (@pa_cons _ _ _ _ _ (@pe_fld _ _ _ _ _ (pv 0) rfl) (@pa_nil _) rfl) (by decide) (by decide) rfl rfl) rfl (by first | exact .inl rfl | exact .inr rfl | assumption)) (@pss_cons _ _ _ _ _ (@ps_dput _ _ _ _ _ _ _ _ _ (hu_of hr) (@pe_fld _ _ _ _ _ (pv 0) rfl) (pv 1) (pv 3) rfl) (@pss_cons _ _ _ _ _ (@ps_expr _ _ _ _ (@pe_bm _ _ _ _ _ _ _ _ _ _ _ _ PySem.F.plainAttrs_list PySem.F.slot_list_append PySem.F.type_list_append (@mt_append _) (@pe_fld _ _ _ _ _ (pv 0) rfl) (@pa_cons _ _ _ _ _ (pv 2) (@pa_nil _) rfl) rfl rfl rfl rfl rfl) rfl) (@pss_cons _ _ _ _ _ (@ps_expr _ _ _ _ (@pe_bm _ _ _ _ _ _ _ _ _ _ _ _ PySem.F.plainAttrs_list PySem.F.slot_list_append PySem.F.type_list_append (@mt_append _) (@pe_fld _ _ _ _ _ (pv 0) rfl) (@pa_cons _ _ _ _ _ (pv 1) (@pa_nil _) rfl) rfl rfl rfl rfl rfl) rfl) (@pss_one _ _ _ (@ps_ret _ _ _ _ (pv 3))))))), ?_⟩
    try dsimp only [cxK]
    refine ⟨_, rfl, g.p, _, g.dx, _, _, rfl, h1, T.cl_Grove, T.na_Grove_levels, fl6_lv g, g.lv, _, rfl, .inl (SqL.of h2), ?_⟩
    rw [List.length_map]
    have ne1 : g.p ≠ g.nm := ne_of h1 h5 (by intro z; cases z)
    have ne2 : g.lv ≠ g.nm := ne_of h2 h5 (by intro z; cases z)
    have ne3 : g.pt ≠ g.nm := ne_of h3 h5 (by intro z; cases z)
    have ne4 : g.p ≠ g.lv := ne_of h1 h2 (by intro z; cases z)
    have ne5 : g.p ≠ g.pt := ne_of h1 h3 (by intro z; cases z)
    have vn : valV (kvOf 0 G) (kOf ps) = none := by
      rcases kv_look ps G 0 with ⟨i, q, e1, e2, _⟩ | ⟨e, _⟩
      · exact absurd e2 (new q (List.mem_of_getElem? e1))
      · exact e
    refine ⟨_, rfl, _, rfl, g.p, _, g.dx, _, _, rfl, h1, T.cl_Grove, T.na_Grove_numbers, fl6_nm g, _, rfl, g.nm, _, rfl, DPut.t (k := kOf ps) h5 (by rw [kOf_v]; exact ht) (by rw [kvOf_len]; exact lt_ln (by lia)), ?_⟩
    rw [putK_new _ vn]
    have e5 : kvOf 0 G ++ [(kOf ps, V.int (G.length : Int))] = kvOf 0 (G ++ [⟨ps, l⟩]) := by rw [kvOf_snoc, Nat.zero_add]
    rw [e5]
    generalize hH1 : upd H g.nm (.dT (kvOf 0 (G ++ [⟨ps, l⟩]))) = H1
    have k1 : ∀ b o, H b = some o → b ≠ g.nm → H1 b = some o := fun b o e n => by rw [← hH1, upd_ne n]; exact e
    have n1 : H1 g.nm = some (.dT (kvOf 0 (G ++ [⟨ps, l⟩]))) := by rw [← hH1]; exact upd_same
    refine ⟨_, rfl, g.p, _, g.dx, _, _, rfl, k1 _ _ h1 ne1, T.cl_Grove, T.na_Grove_levels, fl6_lv g, .inl ⟨rfl, _, SqL.of (k1 _ _ h2 ne2)⟩, _, rfl, g.lv, _, _, rfl, rfl, k1 _ _ h2 ne2, by rw [List.length_map]; exact lt_ln (by lia), ?_⟩
    generalize hH2 : upd H1 g.lv (.lst ((G.map fun q => V.int q.lev) ++ [.int l])) = H2
    have k2 : ∀ b o, H1 b = some o → b ≠ g.lv → H2 b = some o := fun b o e n => by rw [← hH2, upd_ne n]; exact e
    have n2 : H2 g.lv = some (.lst ((G ++ [(⟨ps, l⟩ : Sq)]).map fun q => V.int q.lev)) := by rw [← hH2, upd_same, List.map_append]; rfl
    have h3' := k2 _ _ (k1 _ _ h3 ne3) (Ne.symm h6)
    refine ⟨_, rfl, g.p, _, g.dx, _, _, rfl, k2 _ _ (k1 _ _ h1 ne1) ne4, T.cl_Grove, T.na_Grove_parts, fl6_pt g, .inl ⟨rfl, _, SqL.of h3'⟩, _, rfl, g.pt, _, _, rfl, rfl, h3', by rw [List.length_map, lt]; exact lt_ln (by lia), ?_⟩
    generalize hH3 : upd H2 g.pt (.lst (ts.map V.ref ++ [.ref t])) = H3
    have k3 : ∀ b o, H2 b = some o → b ≠ g.pt → H3 b = some o := fun b o e n => by rw [← hH3, upd_ne n]; exact e
    have n3 : H3 g.pt = some (.lst ((ts ++ [t]).map V.ref)) := by rw [← hH3, upd_same, List.map_append]; rfl
    have fr : Fr g H H3 := fun b o e m1 m2 m3 => k3 _ _ (k2 _ _ (k1 _ _ e m3) m1) m2
    have tp : ∀ (c : Addr) (xs : List V), H c = some (.tup xs) → H3 c = some (.tup xs) := fun c xs e => fr _ _ e (ne_of e h2 (by intro z; cases z)) (ne_of e h3 (by intro z; cases z)) (ne_of e h5 (by intro z; cases z))
    refine ⟨_, rfl, k H3 fr ⟨fr _ _ h1 ne4 ne5 ne1, k3 _ _ n2 h6, ⟨ts ++ [t], n3, Paired.snoc (PairedM.imp (fun c q z => tp c _ z) h4) (tp t _ ht)⟩, k3 _ _ (k2 _ _ n1 (Ne.symm ne2)) (Ne.symm ne3), h6⟩⟩
structure Goes (G G' : Gv) (n : Nat) : Prop where
  ok : GOk G'
  pre : ∃ r, G' = G ++ r
  few : G'.length ≤ G.length + n
theorem Goes.refl {G : Gv} (h : GOk G) : Goes G G 0 := ⟨h, ⟨[], by simp⟩, Nat.le_refl _⟩
theorem Goes.trans {G G' G'' : Gv} {n m : Nat} (h : Goes G G' n) (h2 : Goes G' G'' m) : Goes G G'' (n + m) := by
  obtain ⟨r, e⟩ := h.pre
  obtain ⟨t, e2⟩ := h2.pre
  have f1 := h.few
  have f2 := h2.few
  exact ⟨h2.ok, ⟨r ++ t, by rw [e2, e, List.append_assoc]⟩, by lia⟩
theorem Goes.get {G G' : Gv} {n x : Nat} {q : Sq} (h : Goes G G' n) (e : G[x]? = some q) : G'[x]? = some q := by
  obtain ⟨r, e2⟩ := h.pre
  rw [e2]
  exact get_app e
theorem Goes.lev {G G' : Gv} {n x : Nat} {l : Int} (h : Goes G G' n) (e : LevAt G x l) : LevAt G' x l := by
  obtain ⟨q, e, z⟩ := e
  exact ⟨q, h.get e, z⟩
inductive SpLink (a : Ad) (vs : List V) (H : Hp) (Q : VK) : Prop
  | mk (g : GA) (G : Gv) (t : Addr) (x y z w : Nat) (l : Int) (_ : vs = [.ref g.p, .ref t]) (_ : GroveAt a H g G) (_ : GOk G) (_ : H t = some (.tup [.int x, .int y, .int z, .int w])) (_ : (LevAt G x l ∧ LevAt G y l ∧ LevAt G z l ∧ LevAt G w l)) (_ : l ≤ 47) (_ : G.length < 9000000) (_ : ∀ (n : Nat) (G' : Gv) (H' : Hp), Fr g H H' → GroveAt a H' g G' → Goes G G' 1 → G'[n]? = some ⟨[(x : Int), (y : Int), (z : Int), (w : Int)], l + 1⟩ → Q (.int n) H') : SpLink a vs H Q
def spLink (a : Ad) : Sp := fun vs H Q _ => SpLink a vs H Q
theorem ok_link {f : Addr} {fd : FuncData} (F : Fun K "linked" "Grove.linked" s_Grove_linked f fd) (T : Top K mg a) (M_Grove_kept : CalM P w K mg base CX0 1 a.c_Grove "kept" p_Grove_kept (spKept a)) : FnOk P w K mg base CX0 2 f fd p_Grove_linked (spLink a) := by
  refine F.ok sc_Grove_linked (fun vs H Q E h => ?_) (fun cdv A outer s H vs Q E hr h => ?_)
  · obtain ⟨g, G, t, x, y, z, w, l, rfl, _⟩ := h
    rfl
  · obtain ⟨g, G, t, x, y, z, w, l, rfl, hg, ok, ht, ⟨hx, hy, hz, hw⟩, h47, few, k⟩ := h
    have hg0 := hg
    obtain ⟨h1, h2, ⟨ts, h3, h4⟩, h5, h6⟩ := hg
    refine ⟨_, (@pss_cons _ _ _ _ _ (@ps_set _ _ (2) _ _ _ _ sc_Grove_linked.nd rfl (Or.inl rfl) (@pe_dget1 _ _ _ _ _ _ _ (hu_of hr) (@pe_fld _ _ _ _ _ (pv 0) rfl) (pv 1) ⟨rfl, rfl, rfl, rfl⟩) rfl (by first | exact .inl rfl | exact .inr rfl | assumption)) (@pss_cons _ _ _ _ _ (@ps_if _ _ _ _ _ _ _ _ (@pt_cmpR _ _ _ _ _ _ _ _ (@op_isN _) (pv 2) (@pe_non _ _ _) (nomark _)) (@pss_one _ _ _ (@ps_ret _ _ _ _ (@pe_calm _ _ _ _ _ _ _ _ _ _ _ _ _ _ _ _ (pv 0) M_Grove_kept (rm hr) pass0 (@pa_cons _ _ _ _ _ (pv 1) (@pa_op _ _ _ _ _ _ _ _ _ _ (@op_add _) (@pe_ix _ _ _ _ _ _ _ (@ix_list _) (@pe_fld _ _ _ _ _ (pv 0) rfl) (@pe_ix _ _ _ _ _ _ _ (@ix_tup _) (pv 1) (@pe_int _ _ _ _) (fun _ _ => rfl)) (fun _ _ => rfl)) (@pe_int _ _ _ _) (@pa_nil _)) rfl) rfl rfl rfl))) (@pss_nil _)) (@pss_one _ _ _ (@ps_ret _ _ _ _ (pv 2))))), ?_⟩
    try dsimp only [cxK]
    refine ⟨_, rfl, g.p, _, g.dx, _, _, rfl, h1, T.cl_Grove, T.na_Grove_numbers, fl6_nm g, g.nm, rfl, .inr ⟨_, .inl h5⟩, _, rfl, _, DGet.t (k := kOf [(x : Int), (y : Int), (z : Int), (w : Int)]) h5 (by rw [kOf_v]; exact ht), ?_⟩
    rcases kv_look [(x : Int), (y : Int), (z : Int), (w : Int)] G 0 with ⟨i, q, e1, e2, e3⟩ | ⟨e, new⟩
    · rw [e3]
      refine ⟨_, rfl, rfl, _, rfl, iteF ⟨_, rfl, ?_⟩⟩
      rw [Nat.zero_add]
      refine k i G H (Fr.refl g H) hg0 ⟨ok, ⟨[], by simp⟩, by lia⟩ ?_
      have h8 : 8 ≤ i := by
        refine Nat.le_of_not_lt fun z' => ?_
        rw [ok.leaf i z'] at e1
        cases e1
        cases e2
      obtain ⟨x', y', z', w', p1, ⟨lx, _⟩, _⟩ := ok.node i q e1 h8
      have exx : x' = x := by
        rw [p1] at e2
        injection e2 with e2 _
        exact Int.ofNat.inj e2
      rw [exx] at lx
      obtain ⟨qa, a1, a2⟩ := lx
      obtain ⟨qb, b1, b2⟩ := hx
      rw [a1] at b1
      cases b1
      have el : q.lev = l + 1 := by lia
      rw [e1]
      cases q with
      | mk pp ll => cases e2; cases el; rfl
    · rw [e]
      refine ⟨_, rfl, rfl, _, rfl, iteT ?_⟩
      obtain ⟨q, e1, e2⟩ := id hx
      refine ⟨_, rfl, g.p, g.dx, _, rfl, h1, no_kept g, _, rfl, _, rfl, g.p, _, g.dx, _, _, rfl, h1, T.cl_Grove, T.na_Grove_levels, fl6_lv g, _, rfl, t, _, 0, .int x, rfl, rfl, SqT.of ht, atI_nat (j := 0) rfl, g.lv, _, (x : Int), .int q.lev, rfl, rfl, SqL.of h2, atI_nat (by rw [List.getElem?_map, e1]; rfl), _, _, rfl, rfl, ?_⟩
      refine ⟨g, G, t, [(x : Int), (y : Int), (z : Int), (w : Int)], l + 1, by rw [← e2]; rfl, hg0, ht, new, few, fun H' fr hg' => ?_⟩
      refine k G.length _ H' fr hg' ⟨ok.snoc hx hy hz hw h47 new, ⟨_, rfl⟩, by rw [List.length_append]; exact Nat.le_refl _⟩ ?_
      rw [List.getElem?_append_right (Nat.le_refl _), Nat.sub_self]
      rfl
inductive SpChk (a : Ad) (vs : List V) (H : Hp) (Q : VK) : Prop
  | mk (g : GA) (G : Gv) (i : Nat) (_ : vs = [.ref g.p, .int i]) (_ : GroveAt a H g G) (_ : i < G.length) (_ : Q .non H) : SpChk a vs H Q
def spChk (a : Ad) : Sp := fun vs H Q _ => SpChk a vs H Q
theorem ok_chk {f : Addr} {fd : FuncData} (F : Fun K "check_square" "Grove.check_square" s_Grove_check_square f fd) (T : Top K mg a) (C_is_whole : Cal P w K mg base CX0 1 "is_whole" p_is_whole spIW) : FnOk P w K mg base CX0 2 f fd p_Grove_check_square (spChk a) := by
  refine F.ok sc_Grove_check_square (fun vs H Q E h => ?_) (fun cdv A outer s H vs Q E hr h => ?_)
  · obtain ⟨g, G, i, rfl, _⟩ := h
    rfl
  · obtain ⟨g, G, i, rfl, hg, hi, k⟩ := h
    refine ⟨_, (@pss_one _ _ _ (@ps_if _ _ _ _ _ _ _ _ (@PW.pt _ _ _ (@pw_or _ _ _ _ _ _ _ (@pt_not _ _ _ _ (@pt_val _ _ _ (@pe_cal _ _ _ _ _ _ _ _ _ _ _ _ C_is_whole (rm hr) rfl pass0 (@pa_cons _ _ _ _ _ (pv 1) (@pa_nil _) rfl) (by decide) rfl rfl) (by intro _ ; rfl))) (@pw_or1 _ _ _ _ (@pt_not _ _ _ _ (@pt_chain _ _ _ _ _ _ _ _ _ _ _ _ (@op_le _) (@op_lt _) (@pe_int _ _ _ _) (pv 1) (@pe_callB _ _ _ _ _ _ _ _ _ (@call_len_seq _) rfl T.b_len PySem.boot_len (@pa_cons _ _ _ _ _ (@pe_fld _ _ _ _ _ (pv 0) rfl) (@pa_nil _) rfl) (by decide) (by decide) rfl rfl) (by with_unfolding_all rfl)))))) (@pss_one _ _ _ (@ps_never _ _)) (@pss_nil _))), ?_⟩
    try dsimp only [cxK]
    refine ⟨_, rfl, _, rfl, true, rfl, iteF ⟨_, rfl, _, _, rfl, rfl, _, rfl, ?_⟩⟩
    rw [decide_eq_true (by lia : (0 : Int) ≤ (i : Int))]
    refine iteT ⟨_, rfl, g.p, _, g.dx, _, _, rfl, hg.hp, T.cl_Grove, T.na_Grove_levels, fl6_lv g, g.lv, _, rfl, .inl (SqL.of hg.lv), _, _, rfl, rfl, _, rfl, ?_⟩
    rw [List.length_map, decide_eq_true (by lia : (i : Int) < (G.length : Int))]
    exact iteF k
inductive SpLeaf (a : Ad) (vs : List V) (H : Hp) (Q : VK) : Prop
  | mk (p : Addr) (i : Int) (_ : vs = [.ref p, .int i]) (_ : 0 ≤ i) (_ : i < 8) (_ : Q (.int i) H) : SpLeaf a vs H Q
def spLeaf (a : Ad) : Sp := fun vs H Q _ => SpLeaf a vs H Q
theorem ok_leaf {f : Addr} {fd : FuncData} (F : Fun K "leaf" "Grove.leaf" s_Grove_leaf f fd) (T : Top K mg a) (C_is_state : Cal P w K mg base CX0 2 "is_state" p_is_state spIS) : FnOk P w K mg base CX0 3 f fd p_Grove_leaf (spLeaf a) := by
  refine F.ok sc_Grove_leaf (fun vs H Q E h => ?_) (fun cdv A outer s H vs Q E hr h => ?_)
  · obtain ⟨g, i, rfl, _⟩ := h
    rfl
  · obtain ⟨g, i, rfl, h0, h1, k⟩ := h
    exact ⟨_, (@pss_cons _ _ _ _ _ (@ps_if _ _ _ _ _ _ _ _ (@pt_not _ _ _ _ (@pt_val _ _ _ (@pe_cal _ _ _ _ _ _ _ _ _ _ _ _ C_is_state (rm hr) rfl pass0 (@pa_cons _ _ _ _ _ (pv 1) (@pa_nil _) rfl) (by decide) rfl rfl) (by intro _ ; rfl))) (@pss_one _ _ _ (@ps_never _ _)) (@pss_nil _)) (@pss_one _ _ _ (@ps_ret _ _ _ _ (pv 1)))), _, rfl, i, rfl, h0, h1, true, rfl, iteF ⟨_, rfl, k⟩⟩
inductive SpLev (a : Ad) (vs : List V) (H : Hp) (Q : VK) : Prop
  | mk (g : GA) (G : Gv) (i : Nat) (q : Sq) (_ : vs = [.ref g.p, .int i]) (_ : GroveAt a H g G) (_ : G[i]? = some q) (_ : Q (.int q.lev) H) : SpLev a vs H Q
def spLev (a : Ad) : Sp := fun vs H Q _ => SpLev a vs H Q
theorem ok_lev {f : Addr} {fd : FuncData} (F : Fun K "level_of" "Grove.level_of" s_Grove_level_of f fd) (T : Top K mg a) (M_Grove_check_square : CalM P w K mg base CX0 2 a.c_Grove "check_square" p_Grove_check_square (spChk a)) : FnOk P w K mg base CX0 3 f fd p_Grove_level_of (spLev a) := by
  refine F.ok sc_Grove_level_of (fun vs H Q E h => ?_) (fun cdv A outer s H vs Q E hr h => ?_)
  · obtain ⟨g, G, i, q, rfl, _⟩ := h
    rfl
  · obtain ⟨g, G, i, q, rfl, hg, hi, k⟩ := h
    refine ⟨_, (@pss_cons _ _ _ _ _ (@ps_expr _ _ _ _ (@pe_calm _ _ _ _ _ _ _ _ _ _ _ _ _ _ _ _ (pv 0) M_Grove_check_square (rm hr) pass0 (@pa_cons _ _ _ _ _ (pv 1) (@pa_nil _) rfl) rfl rfl rfl) rfl) (@pss_one _ _ _ (@ps_ret _ _ _ _ (@pe_ix _ _ _ _ _ _ _ (@ix_list _) (@pe_fld _ _ _ _ _ (pv 0) rfl) (pv 1) (fun _ _ => rfl))))), ?_⟩
    try dsimp only [cxK]
    refine ⟨_, rfl, g.p, g.dx, _, rfl, hg.hp, no_check g, _, rfl, g, G, i, rfl, hg, (List.getElem?_eq_some_iff.mp hi).1, ?_⟩
    exact ⟨_, rfl, g.p, _, g.dx, _, _, rfl, hg.hp, T.cl_Grove, T.na_Grove_levels, fl6_lv g, _, rfl, g.lv, _, (i : Int), .int q.lev, rfl, rfl, SqL.of hg.lv, atI_nat (by rw [List.getElem?_map, hi]; rfl), k⟩
inductive SpSta (a : Ad) (vs : List V) (H : Hp) (Q : VK) : Prop
  | mk (g : GA) (G : Gv) (i : Nat) (q : Sq) (_ : vs = [.ref g.p, .int i]) (_ : GroveAt a H g G) (_ : G[i]? = some q) (_ : q.lev = 0) (_ : Q (.int i) H) : SpSta a vs H Q
def spSta (a : Ad) : Sp := fun vs H Q _ => SpSta a vs H Q
theorem ok_sta {f : Addr} {fd : FuncData} (F : Fun K "state_of" "Grove.state_of" s_Grove_state_of f fd) (T : Top K mg a) (M_Grove_level_of : CalM P w K mg base CX0 3 a.c_Grove "level_of" p_Grove_level_of (spLev a)) : FnOk P w K mg base CX0 4 f fd p_Grove_state_of (spSta a) := by
  refine F.ok sc_Grove_state_of (fun vs H Q E h => ?_) (fun cdv A outer s H vs Q E hr h => ?_)
  · obtain ⟨g, G, i, q, rfl, _⟩ := h
    rfl
  · obtain ⟨g, G, i, q, rfl, hg, hi, h0, k⟩ := h
    refine ⟨_, (@pss_cons _ _ _ _ _ (@ps_if _ _ _ _ _ _ _ _ (@pt_cmpR _ _ _ _ _ _ _ _ (@op_ne _) (@pe_calm _ _ _ _ _ _ _ _ _ _ _ _ _ _ _ _ (pv 0) M_Grove_level_of (rm hr) pass0 (@pa_cons _ _ _ _ _ (pv 1) (@pa_nil _) rfl) rfl rfl rfl) (@pe_int _ _ _ _) (nomark _)) (@pss_one _ _ _ (@ps_never _ _)) (@pss_nil _)) (@pss_one _ _ _ (@ps_ret _ _ _ _ (pv 1)))), ?_⟩
    try dsimp only [cxK]
    refine ⟨_, rfl, g.p, g.dx, _, rfl, hg.hp, no_levelOf g, _, rfl, g, G, i, q, rfl, hg, hi, rfl, _, rfl, ?_⟩
    rw [h0]
    exact iteNS rfl ⟨_, rfl, k⟩
end
end J

namespace J
open PySem L2
def Sol (G : Gv) (s : Nat) : Nat → Nat → Prop
  | 0, n => n = s
  | l + 1, n => ∃ m : Nat, Sol G s l m ∧ G[n]? = some ⟨[(m : Int), (m : Int), (m : Int), (m : Int)], (l : Int) + 1⟩
theorem Sol.lev {G : Gv} (h : GOk G) {s : Nat} (hs : s < 8) : ∀ {l n : Nat}, Sol G s l n → LevAt G n l
  | 0, n, e => by
    have e : n = s := e
    subst e
    exact ⟨_, h.leaf n hs, rfl⟩
  | l + 1, n, e => by
    obtain ⟨m, _, e⟩ := e
    exact ⟨_, e, rfl⟩
theorem Sol.goes {G G' : Gv} {k : Nat} (h : Goes G G' k) {s : Nat} : ∀ {l n : Nat}, Sol G s l n → Sol G' s l n
  | 0, n, e => e
  | l + 1, n, e => by
    obtain ⟨m, e1, e2⟩ := e
    exact ⟨m, Sol.goes h e1, h.get e2⟩
section
variable {P : Program} {w : World} {K : PySem.W.Frag} {mg : Str → Option Value} {base : Heap} {a : Ad}
inductive SpSolid (a : Ad) (vs : List V) (H : Hp) (Q : VK) : Prop
  | mk (g : GA) (G : Gv) (l s : Nat) (_ : vs = [.ref g.p, .int l, .int s]) (_ : GroveAt a H g G) (_ : GOk G) (_ : l ≤ 48) (_ : s < 8) (_ : G.length < 8000000) (_ : ∀ (n : Nat) (G' : Gv) (H' : Hp), Fr g H H' → GroveAt a H' g G' → Goes G G' l → Sol G' s l n → Q (.int n) H') : SpSolid a vs H Q
def spSolid (a : Ad) : Sp := fun vs H Q _ => SpSolid a vs H Q
theorem ok_solid {f : Addr} {fd : FuncData} (F : Fun K "solid" "Grove.solid" s_Grove_solid f fd) (T : Top K mg a) (C_is_whole : Cal P w K mg base CX0 1 "is_whole" p_is_whole spIW) (M_Grove_leaf : CalM P w K mg base CX0 3 a.c_Grove "leaf" p_Grove_leaf (spLeaf a)) (M_Grove_linked : CalM P w K mg base CX0 2 a.c_Grove "linked" p_Grove_linked (spLink a)) : FnOk P w K mg base CX0 4 f fd p_Grove_solid (spSolid a) := by
  refine F.ok sc_Grove_solid (fun vs H Q E h => ?_) (fun cdv A outer s H vs Q E hr h => ?_)
  · obtain ⟨g, G, l, s, rfl, _⟩ := h
    rfl
  · obtain ⟨g, G, l, st, rfl, hg, ok, h48, h8, few, k⟩ := h
    refine ⟨_, (@pss_cons _ _ _ _ _ (@ps_if _ _ _ _ _ _ _ _ (@PW.pt _ _ _ (@pw_or _ _ _ _ _ _ _ (@pt_not _ _ _ _ (@pt_val _ _ _ (@pe_cal _ _ _ _ _ _ _ _ _ _ _ _ C_is_whole (rm hr) rfl pass0 (@pa_cons _ _ _ _ _ (pv 1) (@pa_nil _) rfl) (by decide) rfl rfl) (by intro _ ; rfl))) (@pw_or1 _ _ _ _ (@pt_not _ _ _ _ (@pt_chain _ _ _ _ _ _ _ _ _ _ _ _ (@op_le _) (@op_le _) (@pe_int _ _ _ _) (pv 1) (@pe_gint _ _ _ _ rfl T.k_TOP_LEVEL (by decide)) (by with_unfolding_all rfl)))))) (@pss_one _ _ _ (@ps_never _ _)) (@pss_nil _)) (@pss_cons _ _ _ _ _ (@ps_set _ _ (3) _ _ _ _ sc_Grove_solid.nd rfl (Or.inl rfl) (@pe_calm _ _ _ _ _ _ _ _ _ _ _ _ _ _ _ _ (pv 0) M_Grove_leaf (rm hr) pass0 (@pa_cons _ _ _ _ _ (pv 2) (@pa_nil _) rfl) rfl rfl rfl) rfl (by first | exact .inl rfl | exact .inr rfl | assumption)) (@pss_cons _ _ _ _ _ (@ps_for _ _ _ _ _ _ _ _ PassesOwn.never rfl (@pi_range1 _ _ _ _ _ _ rfl T.b_range (@pa_cons _ _ _ _ _ (pv 1) (@pa_nil _) rfl) rfl) (@pg_name _ _ (4) _ sc_Grove_solid.nd rfl (Or.inl rfl) (by first | exact .inl rfl | exact .inr rfl | assumption)) (@pss_one _ _ _ (@ps_set _ _ (3) _ _ _ _ sc_Grove_solid.nd rfl (Or.inl rfl) (@pe_calm _ _ _ _ _ _ _ _ _ _ _ _ _ _ _ _ (pv 0) M_Grove_linked (rm hr) pass0 (@pa_tup _ _ _ _ _ _ _ (@pa_cons _ _ _ _ _ (pv 3) (@pa_cons _ _ _ _ _ (pv 3) (@pa_cons _ _ _ _ _ (pv 3) (@pa_cons _ _ _ _ _ (pv 3) (@pa_nil _) rfl) rfl) rfl) rfl) (@pa_nil _)) rfl rfl rfl) rfl (by first | exact .inl rfl | exact .inr rfl | assumption))) (by intro _ ; rfl)) (@pss_one _ _ _ (@ps_ret _ _ _ _ (pv 3)))))), ?_⟩
    try dsimp only [cxK]
    refine ⟨_, rfl, _, rfl, true, rfl, iteF ⟨_, rfl, _, _, rfl, rfl, _, rfl, ?_⟩⟩
    rw [decide_eq_true (by lia : (0 : Int) ≤ (l : Int))]
    refine iteT ⟨_, _, rfl, rfl, _, rfl, ?_⟩
    rw [decide_eq_true (by lia : (l : Int) ≤ (48 : Int))]
    refine iteF ⟨_, rfl, g.p, g.dx, _, rfl, hg.hp, no_leaf g, _, rfl, g.p, (st : Int), rfl, by lia, by lia, ?_⟩
    refine ⟨_, rfl, _, rfl, by lia, by lia, ?_⟩
    rw [Int.toNat_natCast]
    refine for_range (n := l) (fun i σ H2 => ∃ (G' : Gv) (m : Nat) (u4 : Option V), σ = [some (.ref g.p), some (.int l), some (.int st), some (.int m), u4] ∧ Fr g H H2 ∧ GroveAt a H2 g G' ∧ Goes G G' i ∧ Sol G' st i m) ⟨G, st, none, rfl, Fr.refl g H, hg, Goes.refl ok, rfl⟩ ?_ ?_
    · rintro i σ H2 hi ⟨G', m, u4, rfl, fr, hg2, go, so⟩
      have lf := go.few
      have lm := Sol.lev go.ok h8 so
      refine ⟨_, rfl, g.p, g.dx, _, rfl, hg2.hp, no_linked g, _, rfl, _, rfl, _, rfl, _, rfl, (by show 4 ≤ sizeLine; decide), fun t ht => ?_⟩
      have s3 := same_up (o := .tup [.int m, .int m, .int m, .int m]) ht
      refine ⟨g, G', t, m, m, m, m, (i : Int), rfl, hg2.same s3, go.ok, upd_same, ⟨lm, lm, lm, lm⟩, by lia, by lia, fun n G'' H' fr' hg' go' e => ?_⟩
      exact ⟨G'', n, _, rfl, (fr.trans (Same.fr s3)).trans fr', hg', go.trans go', m, Sol.goes go' so, e⟩
    · rintro σ H2 ⟨G', m, u4, rfl, fr, hg2, go, so⟩
      exact ⟨_, rfl, k m G' H2 fr hg2 go so⟩
end
end J

namespace J
open PySem L2
def bareN : Nat → Nat
  | 0 => 0
  | j + 1 => 8 + j
def leafs (n : Nat) : Gv := (List.range n).map fun (s : Nat) => (⟨[(s : Int)], 0⟩ : Sq)
def bares (n : Nat) : Gv := (List.range n).map fun (j : Nat) => (⟨[(bareN j : Int), (bareN j : Int), (bareN j : Int), (bareN j : Int)], (j : Int) + 1⟩ : Sq)
def G0 : Gv := leafs 8 ++ bares 48
theorem leafs_succ (n : Nat) : leafs (n + 1) = leafs n ++ [⟨[(n : Int)], 0⟩] := by unfold leafs; rw [List.range_succ, List.map_append]; rfl
theorem bares_succ (n : Nat) : bares (n + 1) = bares n ++ [⟨[(bareN n : Int), (bareN n : Int), (bareN n : Int), (bareN n : Int)], (n : Int) + 1⟩] := by unfold bares; rw [List.range_succ, List.map_append]; rfl
theorem leafs_len (n : Nat) : (leafs n).length = n := by unfold leafs; rw [List.length_map, List.length_range]
theorem bares_len (n : Nat) : (bares n).length = n := by unfold bares; rw [List.length_map, List.length_range]
theorem bareN_inj {i j : Nat} (h : bareN i = bareN j) : i = j := by
  cases i <;> cases j
  · rfl
  · have : 0 = 8 + _ := h; lia
  · have : 8 + _ = 0 := h; lia
  · have : 8 + _ = 8 + _ := h; lia
theorem leafs_new (n : Nat) : ∀ q ∈ leafs n, q.parts ≠ [(n : Int)] := fun q hq z => by
  obtain ⟨s, hs, rfl⟩ := List.mem_map.mp hq
  have := List.mem_range.mp hs
  injection z with z _
  have : s = n := Int.ofNat.inj z
  lia
theorem bares_new (n : Nat) : ∀ q ∈ leafs 8 ++ bares n, q.parts ≠ [(bareN n : Int), (bareN n : Int), (bareN n : Int), (bareN n : Int)] := fun q hq z => by
  rcases List.mem_append.mp hq with hq | hq
  · obtain ⟨s, hs, rfl⟩ := List.mem_map.mp hq
    cases z
  · obtain ⟨s, hs, rfl⟩ := List.mem_map.mp hq
    have := List.mem_range.mp hs
    injection z with z _
    have := bareN_inj (Int.ofNat.inj z)
    lia
theorem g0_len : G0.length = 56 := by unfold G0; rw [List.length_append, leafs_len, bares_len]
theorem g0_bare (j : Nat) (h : j < 48) : G0[8 + j]? = some ⟨[(bareN j : Int), (bareN j : Int), (bareN j : Int), (bareN j : Int)], (j : Int) + 1⟩ := by
  unfold G0
  rw [List.getElem?_append_right (by rw [leafs_len]; lia), leafs_len, show 8 + j - 8 = j by lia]
  unfold bares
  rw [List.getElem?_map, List.getElem?_range h]
  rfl
theorem g0_leaf (s : Nat) (h : s < 8) : G0[s]? = some ⟨[(s : Int)], 0⟩ := by
  unfold G0
  rw [List.getElem?_append_left (by rw [leafs_len]; exact h)]
  unfold leafs
  rw [List.getElem?_map, List.getElem?_range h]
  rfl
theorem g0_lev (j : Nat) (h : j ≤ 48) : LevAt G0 (bareN j) (j : Int) := by
  cases j with
  | zero => exact ⟨_, g0_leaf 0 (by decide), rfl⟩
  | succ j => exact ⟨_, g0_bare j (by lia), rfl⟩
theorem g0_nd : ∀ n, ((leafs 8 ++ bares n).map Sq.parts).Nodup
  | 0 => by decide
  | n + 1 => by
    rw [bares_succ, ← List.append_assoc, List.map_append, List.nodup_append]
    refine ⟨g0_nd n, by simp, fun p hp p' hp' => ?_⟩
    obtain ⟨q, hq, rfl⟩ := List.mem_map.mp hp
    rw [show p' = [(bareN n : Int), (bareN n : Int), (bareN n : Int), (bareN n : Int)] by simpa using hp']
    exact bares_new n q hq
theorem g0_ok : GOk G0 where
  leaf := g0_leaf
  node := fun i q e h8 => by
    have hi : i < 56 := by rw [← g0_len]; exact (List.getElem?_eq_some_iff.mp e).1
    obtain ⟨j, rfl⟩ : ∃ j, i = 8 + j := ⟨i - 8, by lia⟩
    rw [g0_bare j (by lia)] at e
    cases e
    have := g0_lev j (by lia)
    refine ⟨bareN j, bareN j, bareN j, bareN j, rfl, ?_, ?_, ?_⟩
    · show LevAt G0 _ ((j : Int) + 1 - 1) ∧ LevAt G0 _ ((j : Int) + 1 - 1) ∧ LevAt G0 _ ((j : Int) + 1 - 1) ∧ LevAt G0 _ ((j : Int) + 1 - 1)
      rw [show (j : Int) + 1 - 1 = (j : Int) by lia]
      exact ⟨this, this, this, this⟩
    · show 1 ≤ (j : Int) + 1; lia
    · show (j : Int) + 1 ≤ 48; lia
  nd := g0_nd 48
def amK (n : Nat) : List (Key × V) := (List.range n).map fun (s : Nat) => (Sum.inl (s : Int), V.int (if (1 : Int) < (s : Int) then 1 else (s : Int)))
theorem amK_succ (n : Nat) : amK (n + 1) = amK n ++ [(Sum.inl (n : Int), V.int (if (1 : Int) < (n : Int) then 1 else (n : Int)))] := by unfold amK; rw [List.range_succ, List.map_append]; rfl
theorem amK_len (n : Nat) : (amK n).length = n := by unfold amK; rw [List.length_map, List.length_range]
theorem val_app {κ : Type} [DecidableEq κ] {k : κ} : ∀ {l m : List (κ × V)}, valV l k = none → valV (l ++ m) k = valV m k
  | [], _, _ => rfl
  | p :: r, m, h => by
    by_cases e : p.1 = k
    · rw [valV_pos e] at h; cases h
    · rw [valV_neg e] at h
      show valV (p :: (r ++ m)) k = _
      rw [valV_neg e]
      exact val_app h
theorem amK_none (n : Nat) : ∀ m, n ≤ m → valV (amK n) (Sum.inl (m : Int)) = none := by
  induction n with
  | zero => intro m _; rfl
  | succ n ih =>
    intro m hm
    rw [amK_succ, val_app (ih m (by lia)), valV_neg (by intro z; injection z with z; have := Int.ofNat.inj z; lia)]
    rfl
def bareL (n : Nat) : List Int := (List.range (n + 1)).map fun j => ((bareN j : Nat) : Int)
theorem bareL_succ (n : Nat) : bareL (n + 1) = bareL n ++ [((bareN (n + 1) : Nat) : Int)] := by unfold bareL; rw [List.range_succ, List.map_append]; rfl
theorem bareL_last (n : Nat) : (bareL n).getLast? = some ((bareN n : Nat) : Int) := by
  cases n with
  | zero => rfl
  | succ n => rw [bareL_succ, List.getLast?_append]; rfl
theorem at_lastV {xs : List V} {x : V} (h : xs.getLast? = some x) : atI xs (-1) = some x := by
  obtain ⟨ys, rfl⟩ := List.getLast?_eq_some_iff.mp h
  unfold atI ixN
  rw [if_neg (by decide), if_pos (by rw [List.length_append, List.length_singleton]; lia)]
  show (ys ++ [x])[((-1 : Int) + ((ys ++ [x]).length : Nat)).toNat]? = some x
  rw [List.length_append, List.length_singleton, show ((-1 : Int) + ((ys.length + 1 : Nat) : Int)).toNat = ys.length by lia, List.getElem?_append_right (Nat.le_refl _), Nat.sub_self]
  rfl
end J

namespace J
open PySem L2
structure NewG (a : Ad) (H H' : Hp) (g : GA) (G : Gv) (B : List Int) (am : List (Key × V)) : Prop where
  kp : ∀ b o, H b = some o → b ≠ g.p → H' b = some o
  at' : GroveAt a H' g G
  br : H' g.br = some (.lst (B.map V.int))
  am : H' g.am = some (.dK am)
  bx : H' g.bx = some (.dK [])
  fresh : H g.lv = none ∧ H g.pt = none ∧ H g.nm = none ∧ H g.br = none ∧ H g.am = none ∧ H g.bx = none
  n1 : g.br ≠ g.lv
  n2 : g.br ≠ g.pt
  n3 : g.am ≠ g.bx
section
variable {P : Program} {w : World} {K : PySem.W.Frag} {mg : Str → Option Value} {base : Heap} {a : Ad}
inductive SpGInit (a : Ad) (vs : List V) (H : Hp) (Q : VK) : Prop
  | mk (p dx : Addr) (_ : vs = [.ref p]) (_ : H p = some (.ins a.c_Grove dx [])) (_ : ∀ (g : GA) (H' : Hp), g.p = p → NewG a H H' g G0 (bareL 48) (amK 8) → Q .non H') : SpGInit a vs H Q
def spGInit (a : Ad) : Sp := fun vs H Q _ => SpGInit a vs H Q
theorem ok_ginit {f : Addr} {fd : FuncData} (F : Fun K "__init__" "Grove.__init__" s_Grove_init f fd) (T : Top K mg a) (M_Grove_kept : CalM P w K mg base CX0 1 a.c_Grove "kept" p_Grove_kept (spKept a)) : FnOk P w K mg base CX0 2 f fd p_Grove_init (spGInit a) := by
  refine F.ok sc_Grove_init (fun vs H Q E h => ?_) (fun cdv A outer s H vs Q E hr h => ?_)
  · obtain ⟨p, dx, rfl, _⟩ := h
    rfl
  · obtain ⟨p, dx, rfl, hp, k⟩ := h
    refine ⟨_, (@pss_cons _ _ _ _ _ (@ps_fld _ _ _ _ _ _ _ _ (pv 0) (@pe_lst _ _ _ _ (@pa_nil _)) rfl) (@pss_cons _ _ _ _ _ (@ps_fld _ _ _ _ _ _ _ _ (pv 0) (@pe_lst _ _ _ _ (@pa_nil _)) rfl) (@pss_cons _ _ _ _ _ (@ps_fld _ _ _ _ _ _ _ _ (pv 0) (@pe_dnewT _ _) rfl) (@pss_cons _ _ _ _ _ (@ps_fld _ _ _ _ _ _ _ _ (pv 0) (@pe_lst _ _ _ _ (@pa_int _ _ _ _ _ _ (@pa_nil _))) rfl) (@pss_cons _ _ _ _ _ (@ps_fld _ _ _ _ _ _ _ _ (pv 0) (@pe_dnewK _ _) rfl) (@pss_cons _ _ _ _ _ (@ps_fld _ _ _ _ _ _ _ _ (pv 0) (@pe_dnewK _ _) rfl) (@pss_cons _ _ _ _ _ (@ps_for _ _ _ _ _ _ _ _ PassesOwn.never rfl (@pi_range1 _ _ _ _ _ _ rfl T.b_range (@pa_cons _ _ _ _ _ (@pe_gint _ _ _ _ rfl T.k_STATES (by decide)) (@pa_nil _) rfl) rfl) (@pg_name _ _ (1) _ sc_Grove_init.nd rfl (Or.inl rfl) (by first | exact .inl rfl | exact .inr rfl | assumption)) (@pss_cons _ _ _ _ _ (@ps_expr _ _ _ _ (@pe_calm _ _ _ _ _ _ _ _ _ _ _ _ _ _ _ _ (pv 0) M_Grove_kept (rm hr) pass0 (@pa_tup _ _ _ _ _ _ _ (@pa_cons _ _ _ _ _ (pv 1) (@pa_nil _) rfl) (@pa_int _ _ _ _ _ _ (@pa_nil _))) rfl rfl rfl) rfl) (@pss_one _ _ _ (@ps_dput _ _ _ _ _ _ _ _ _ (hu_of hr) (@pe_fld _ _ _ _ _ (pv 0) rfl) (pv 1) (@pe_callB _ _ _ _ _ _ _ _ _ (@call_min2 _ rfl) rfl T.b_min PyProof.Rows.boot_min (@pa_cons _ _ _ _ _ (pv 1) (@pa_int _ _ _ _ _ _ (@pa_nil _)) rfl) (by decide) (by decide) rfl rfl) rfl))) (by intro _ ; rfl)) (@pss_one _ _ _ (@ps_for _ _ _ _ _ _ _ _ PassesOwn.never rfl (@pi_range2 _ _ _ _ _ _ _ rfl T.b_range (@pa_int _ _ _ _ _ _ (@pa_op _ _ _ _ _ _ _ _ _ _ (@op_add _) (@pe_gint _ _ _ _ rfl T.k_TOP_LEVEL (by decide)) (@pe_int _ _ _ _) (@pa_nil _))) rfl rfl) (@pg_name _ _ (2) _ sc_Grove_init.nd rfl (Or.inl rfl) (by first | exact .inl rfl | exact .inr rfl | assumption)) (@pss_cons _ _ _ _ _ (@ps_set _ _ (3) _ _ _ _ sc_Grove_init.nd rfl (Or.inl rfl) (@pe_ix _ _ _ _ _ _ _ (@ix_list _) (@pe_fld _ _ _ _ _ (pv 0) rfl) (@pe_un _ _ _ _ _ _ (@un_neg _) (@pe_int _ _ _ _)) (fun _ _ => rfl)) rfl (by first | exact .inl rfl | exact .inr rfl | assumption)) (@pss_one _ _ _ (@ps_expr _ _ _ _ (@pe_bm _ _ _ _ _ _ _ _ _ _ _ _ PySem.F.plainAttrs_list PySem.F.slot_list_append PySem.F.type_list_append (@mt_append _) (@pe_fld _ _ _ _ _ (pv 0) rfl) (@pa_cons _ _ _ _ _ (@pe_calm _ _ _ _ _ _ _ _ _ _ _ _ _ _ _ _ (pv 0) M_Grove_kept (rm hr) pass0 (@pa_tup _ _ _ _ _ _ _ (@pa_cons _ _ _ _ _ (pv 3) (@pa_cons _ _ _ _ _ (pv 3) (@pa_cons _ _ _ _ _ (pv 3) (@pa_cons _ _ _ _ _ (pv 3) (@pa_nil _) rfl) rfl) rfl) rfl) (@pa_cons _ _ _ _ _ (pv 2) (@pa_nil _) rfl)) rfl rfl rfl) (@pa_nil _) rfl) rfl rfl rfl rfl rfl) rfl))) (by intro _ ; rfl)))))))))), ?_⟩
    try dsimp only [cxK]
    -- a field with a new object
    have stp : ∀ {Hk : Hp} {x : Addr} {o : HO} {fs fs' : List (Str × V)}, Hk p = some (.ins a.c_Grove dx fs) → Hk x = none → (∀ b v, Hk b = some v → b ≠ p → upd (upd Hk x o) p (.ins a.c_Grove dx fs') b = some v) ∧ upd (upd Hk x o) p (.ins a.c_Grove dx fs') x = some o ∧ upd (upd Hk x o) p (.ins a.c_Grove dx fs') p = some (.ins a.c_Grove dx fs') ∧ upd Hk x o p = some (.ins a.c_Grove dx fs) := fun {Hk x o fs fs'} e1 e2 => by
      have n : x ≠ p := fun z => by rw [z, e1] at e2; cases e2
      exact ⟨fun b v e nb => by rw [upd_ne nb, upd_ne (ne_of_none e e2)]; exact e, by rw [upd_ne n]; exact upd_same, upd_same, by rw [upd_ne (Ne.symm n)]; exact e1⟩
    refine ⟨(by show 0 ≤ sizeLine; decide), fun lv hlv => ?_⟩
    obtain ⟨k1, x1, p1, q1⟩ := stp (o := .lst []) (fs' := putF "levels" (.ref lv) []) hp hlv
    refine ⟨_, rfl, p, _, dx, [], rfl, q1, T.cl_Grove, T.na_Grove_levels, (by show 0 < 1000; decide), ?_⟩
    generalize upd (upd H lv (.lst [])) p (.ins a.c_Grove dx (putF "levels" (.ref lv) [])) = H1 at k1 x1 p1 ⊢
    refine ⟨(by show 0 ≤ sizeLine; decide), fun pt hpt => ?_⟩
    obtain ⟨k2, x2, p2, q2⟩ := stp (o := .lst []) (fs' := putF "parts" (.ref pt) (putF "levels" (.ref lv) [])) p1 hpt
    refine ⟨_, rfl, p, _, dx, _, rfl, q2, T.cl_Grove, T.na_Grove_parts, (by show 1 < 1000; decide), ?_⟩
    generalize upd (upd H1 pt (.lst [])) p (.ins a.c_Grove dx (putF "parts" (.ref pt) (putF "levels" (.ref lv) []))) = H2 at k2 x2 p2 ⊢
    intro nm hnm
    obtain ⟨k3, x3, p3, q3⟩ := stp (o := .dT []) (fs' := putF "numbers" (.ref nm) (putF "parts" (.ref pt) (putF "levels" (.ref lv) []))) p2 hnm
    refine ⟨_, rfl, p, _, dx, _, rfl, q3, T.cl_Grove, T.na_Grove_numbers, (by show 2 < 1000; decide), ?_⟩
    generalize upd (upd H2 nm (.dT [])) p (.ins a.c_Grove dx (putF "numbers" (.ref nm) (putF "parts" (.ref pt) (putF "levels" (.ref lv) [])))) = H3 at k3 x3 p3 ⊢
    refine ⟨(by show 1 ≤ sizeLine; decide), fun br hbr => ?_⟩
    obtain ⟨k4, x4, p4, q4⟩ := stp (o := .lst [.int 0]) (fs' := putF "bares" (.ref br) (putF "numbers" (.ref nm) (putF "parts" (.ref pt) (putF "levels" (.ref lv) [])))) p3 hbr
    refine ⟨_, rfl, p, _, dx, _, rfl, q4, T.cl_Grove, T.na_Grove_bares, (by show 3 < 1000; decide), ?_⟩
    generalize upd (upd H3 br (.lst [.int 0])) p (.ins a.c_Grove dx (putF "bares" (.ref br) (putF "numbers" (.ref nm) (putF "parts" (.ref pt) (putF "levels" (.ref lv) []))))) = H4 at k4 x4 p4 ⊢
    intro am ham
    obtain ⟨k5, x5, p5, q5⟩ := stp (o := .dK []) (fs' := putF "amounts" (.ref am) (putF "bares" (.ref br) (putF "numbers" (.ref nm) (putF "parts" (.ref pt) (putF "levels" (.ref lv) []))))) p4 ham
    refine ⟨_, rfl, p, _, dx, _, rfl, q5, T.cl_Grove, T.na_Grove_amounts, (by show 4 < 1000; decide), ?_⟩
    generalize upd (upd H4 am (.dK [])) p (.ins a.c_Grove dx (putF "amounts" (.ref am) (putF "bares" (.ref br) (putF "numbers" (.ref nm) (putF "parts" (.ref pt) (putF "levels" (.ref lv) [])))))) = H5 at k5 x5 p5 ⊢
    intro bx hbx
    obtain ⟨k6, x6, p6, q6⟩ := stp (o := .dK []) (fs' := fl6 ⟨p, dx, lv, pt, nm, br, am, bx⟩) p5 hbx
    refine ⟨_, rfl, p, _, dx, _, rfl, q6, T.cl_Grove, T.na_Grove_boxes, (by show 5 < 1000; decide), ?_⟩
    show (tSeq _ _) _ _ (upd (upd H5 bx (.dK [])) p (.ins a.c_Grove dx (fl6 ⟨p, dx, lv, pt, nm, br, am, bx⟩)))
    generalize upd (upd H5 bx (.dK [])) p (.ins a.c_Grove dx (fl6 ⟨p, dx, lv, pt, nm, br, am, bx⟩)) = H6 at k6 x6 p6 ⊢
    -- all that is new is apart
    have f26 : ∀ b v, H1 b = some v → b ≠ p → H6 b = some v := fun b v e n => k6 _ _ (k5 _ _ (k4 _ _ (k3 _ _ (k2 _ _ e n) n) n) n) n
    have f36 : ∀ b v, H2 b = some v → b ≠ p → H6 b = some v := fun b v e n => k6 _ _ (k5 _ _ (k4 _ _ (k3 _ _ e n) n) n) n
    have f46 : ∀ b v, H3 b = some v → b ≠ p → H6 b = some v := fun b v e n => k6 _ _ (k5 _ _ (k4 _ _ e n) n) n
    have f56 : ∀ b v, H4 b = some v → b ≠ p → H6 b = some v := fun b v e n => k6 _ _ (k5 _ _ e n) n
    have np : ∀ {Hk : Hp} {x : Addr} {fs : List (Str × V)}, Hk p = some (.ins a.c_Grove dx fs) → Hk x = none → x ≠ p := fun {Hk x fs} e1 e2 z => by rw [z, e1] at e2; cases e2
    have no : ∀ {Hk Hm : Hp} {x y : Addr} {v : HO}, Hk x = some v → Hk y = none → x ≠ y := fun {Hk Hm x y v} e1 e2 => ne_of_none e1 e2
    have nlv := np hp hlv
    have npt := np p1 hpt
    have nnm := np p2 hnm
    have nbr := np p3 hbr
    have nam := np p4 ham
    have nbx := np p5 hbx
    have y1 := f26 _ _ x1 nlv
    have y2 := f36 _ _ x2 npt
    have y3 := f46 _ _ x3 nnm
    have y4 := f56 _ _ x4 nbr
    have y5 := k6 _ _ x5 nam
    have back : ∀ {Hk : Hp} {x : Addr}, (∀ b v, H b = some v → b ≠ p → Hk b = some v) → x ≠ p → Hk x = none → H x = none := fun {Hk x} kp n e => by
      cases h : H x with
      | none => rfl
      | some v => rw [kp _ _ h n] at e; cases e
    have c2 : ∀ b v, H b = some v → b ≠ p → H2 b = some v := fun b v e n => k2 _ _ (k1 _ _ e n) n
    have c3 : ∀ b v, H b = some v → b ≠ p → H3 b = some v := fun b v e n => k3 _ _ (c2 _ _ e n) n
    have c4 : ∀ b v, H b = some v → b ≠ p → H4 b = some v := fun b v e n => k4 _ _ (c3 _ _ e n) n
    have c5 : ∀ b v, H b = some v → b ≠ p → H5 b = some v := fun b v e n => k5 _ _ (c4 _ _ e n) n
    have c6 : ∀ b v, H b = some v → b ≠ p → H6 b = some v := fun b v e n => k6 _ _ (c5 _ _ e n) n
    have d1 : lv ≠ pt := ne_of_none x1 hpt
    have d2 : br ≠ lv := Ne.symm (ne_of_none (k3 _ _ (k2 _ _ x1 nlv) nlv) hbr)
    have d3 : br ≠ pt := Ne.symm (ne_of_none (k3 _ _ x2 npt) hbr)
    have d4 : am ≠ bx := ne_of_none x5 hbx
    have N0 : NewG a H H6 ⟨p, dx, lv, pt, nm, br, am, bx⟩ (leafs 0) (bareL 0) (amK 0) := ⟨c6, ⟨p6, y1, ⟨[], y2, .nil⟩, y3, d1⟩, y4, y5, x6, ⟨hlv, back k1 npt hpt, back c2 nnm hnm, back c3 nbr hbr, back c4 nam ham, back c5 nbx hbx⟩, d2, d3, d4⟩
    have k' := k ⟨p, dx, lv, pt, nm, br, am, bx⟩
    have gp : (⟨p, dx, lv, pt, nm, br, am, bx⟩ : GA).p = p := rfl
    generalize (⟨p, dx, lv, pt, nm, br, am, bx⟩ : GA) = g at N0 k' gp
    subst gp
    clear k p6 q6 q5 q4 q3 q2 q1 y1 y2 y3 y4 y5 x6 c6 c5 c4 c3 c2 f26 f36 f46 f56 k1 k2 k3 k4 k5 k6 x1 x2 x3 x4 x5 p1 p2 p3 p4 p5 d1 d2 d3 d4 nlv npt nnm nbr nam nbx hbx ham hbr hnm hpt hlv back no np stp
    refine ⟨8, rfl, by decide, by decide, ?_⟩
    refine for_range (n := 8) (fun i σ H7 => ∃ u1 : Option V, σ = [some (.ref g.p), u1, none, none] ∧ NewG a H H7 g (leafs i) (bareL 0) (amK i)) ⟨none, rfl, N0⟩ ?_ ?_
    · rintro i σ H7 hi ⟨u1, rfl, N⟩
      obtain ⟨kp, at', hbr, ham, hbx, fresh, n1, n2, n3⟩ := N
      have cl : (i : Int) = 0 + (i : Int) := (Int.zero_add _).symm
      refine ⟨_, rfl, g.p, g.dx, _, rfl, at'.hp, no_kept g, _, rfl, (by show 1 ≤ sizeLine; decide), fun t ht => ?_⟩
      have s1 := same_up (o := .tup [.int (0 + (i : Int))]) ht
      refine ⟨g, leafs i, t, [0 + (i : Int)], 0, rfl, at'.same s1, upd_same, by rw [← cl]; exact leafs_new i, by rw [leafs_len]; lia, fun H8 fr at8 => ?_⟩
      rw [← cl, ← leafs_succ] at at8
      have fr' : Fr g H7 H8 := (Same.fr s1).trans fr
      obtain ⟨ts, h3, h4⟩ := at'.pt
      have kd : ∀ (b : Addr) (kvs : List (Key × V)), H7 b = some (.dK kvs) → H8 b = some (.dK kvs) := fun b kvs e => fr' _ _ e (ne_of e at'.lv (by intro z; cases z)) (ne_of e h3 (by intro z; cases z)) (ne_of e at'.nm (by intro z; cases z))
      have ham8 := kd _ _ ham
      refine ⟨_, rfl, _, _, rfl, _, rfl, g.p, _, g.dx, _, _, rfl, at8.hp, T.cl_Grove, T.na_Grove_amounts, fl6_am g, _, rfl, g.am, _, rfl, DPut.k (k := Sum.inl (0 + (i : Int))) ham8 (by rw [amK_len]; exact lt_ln (by lia)), ?_⟩
      rw [← cl, putK_new _ (amK_none i i (Nat.le_refl _)), ← amK_succ]
      have other : ∀ {b : Addr} {v : HO}, H8 b = some v → b ≠ g.am → upd H8 g.am (.dK (amK (i + 1))) b = some v := fun {b v} e n => by rw [upd_ne n]; exact e
      have na : ∀ {b : Addr} {v : HO}, H8 b = some v → v ≠ .dK (amK i) → b ≠ g.am := fun {b v} e n => ne_of e ham8 n
      obtain ⟨ts8, h38, h48⟩ := at8.pt
      refine ⟨_, rfl, ?_, ⟨other at8.hp (na at8.hp (by intro z; cases z)), other at8.lv (na at8.lv (by intro z; cases z)), ⟨ts8, other h38 (na h38 (by intro z; cases z)), PairedM.imp (fun c q z => other z (na z (by intro z; cases z))) h48⟩, other at8.nm (na at8.nm (by intro z; cases z)), at8.ne⟩, ?_, upd_same, ?_, fresh, n1, n2, n3⟩
      · intro b v e nb
        have e8 : H8 b = some v := fr' _ _ (kp _ _ e nb) (ne_of_none e fresh.1) (ne_of_none e fresh.2.1) (ne_of_none e fresh.2.2.1)
        exact other e8 (ne_of_none e fresh.2.2.2.2.1)
      · have e8 : H8 g.br = _ := fr' _ _ hbr n1 n2 (ne_of hbr at'.nm (by intro z; cases z))
        exact other e8 (na e8 (by intro z; cases z))
      · exact other (kd _ _ hbx) (Ne.symm n3)
    · rintro σ H7 ⟨u1, rfl, N⟩
      refine ⟨_, _, rfl, rfl, 1, 49, rfl, ⟨by decide, by decide, by decide, by decide⟩, ?_⟩
      have N0 : NewG a H H7 g (leafs 8 ++ bares 0) (bareL 0) (amK 8) := by rw [show leafs 8 ++ bares 0 = leafs 8 from List.append_nil _]; exact N
      clear N
      refine for_range (lo := 1) (n := 48) (fun j σ H8 => ∃ u2 u3 : Option V, σ = [some (.ref g.p), u1, u2, u3] ∧ NewG a H H8 g (leafs 8 ++ bares j) (bareL j) (amK 8)) ⟨none, none, rfl, N0⟩ ?_ ?_
      · rintro j σ H8 hj ⟨u2, u3, rfl, N⟩
        obtain ⟨kp, at', hbr, ham, hbx, fresh, n1, n2, n3⟩ := N
        refine ⟨_, rfl, g.p, _, g.dx, _, _, rfl, at'.hp, T.cl_Grove, T.na_Grove_bares, fl6_br g, _, rfl, g.br, _, -1, .int (bareN j : Int), rfl, rfl, SqL.of hbr, at_lastV (by rw [List.getLast?_map, bareL_last]; rfl), ?_⟩
        refine ⟨_, rfl, g.p, _, g.dx, _, _, rfl, at'.hp, T.cl_Grove, T.na_Grove_bares, fl6_br g, .inl ⟨rfl, _, SqL.of hbr⟩, _, rfl, g.p, g.dx, _, rfl, at'.hp, no_kept g, _, rfl, _, rfl, _, rfl, _, rfl, (by show 4 ≤ sizeLine; decide), fun t ht => ⟨_, rfl, ?_⟩⟩
        have s1 := same_up (o := .tup [.int (bareN j : Int), .int (bareN j : Int), .int (bareN j : Int), .int (bareN j : Int)]) ht
        have ln : (leafs 8 ++ bares j).length = 8 + j := by rw [List.length_append, leafs_len, bares_len]
        refine ⟨g, leafs 8 ++ bares j, t, [(bareN j : Int), (bareN j : Int), (bareN j : Int), (bareN j : Int)], 1 + (j : Int), rfl, at'.same s1, upd_same, bares_new j, by rw [ln]; lia, fun H9 fr at9 => ?_⟩
        rw [show (1 : Int) + (j : Int) = (j : Int) + 1 by lia, List.append_assoc, ← bares_succ] at at9
        have fr' : Fr g H8 H9 := (Same.fr s1).trans fr
        obtain ⟨ts, h3, h4⟩ := at'.pt
        have kd : ∀ (b : Addr) (kvs : List (Key × V)), H8 b = some (.dK kvs) → H9 b = some (.dK kvs) := fun b kvs e => fr' _ _ e (ne_of e at'.lv (by intro z; cases z)) (ne_of e h3 (by intro z; cases z)) (ne_of e at'.nm (by intro z; cases z))
        have hbr9 : H9 g.br = _ := fr' _ _ hbr n1 n2 (ne_of hbr at'.nm (by intro z; cases z))
        refine ⟨g.br, _, _, rfl, rfl, hbr9, by rw [List.length_map]; unfold bareL; rw [List.length_map, List.length_range]; exact lt_ln (by lia), ?_⟩
        have eb : (bareL j).map V.int ++ [V.int ((leafs 8 ++ bares j).length : Int)] = (bareL (j + 1)).map V.int := by rw [bareL_succ, List.map_append, ln]; rfl
        rw [eb]
        have other : ∀ {b : Addr} {v : HO}, H9 b = some v → v ≠ .lst ((bareL j).map V.int) → upd H9 g.br (.lst ((bareL (j + 1)).map V.int)) b = some v := fun {b v} e n => by rw [upd_ne (ne_of e hbr9 n)]; exact e
        refine ⟨_, _, rfl, ?_, at9.put hbr9 n1 n2, upd_same, other (kd _ _ ham) (by intro z; cases z), other (kd _ _ hbx) (by intro z; cases z), fresh, n1, n2, n3⟩
        intro b v e nb
        rw [upd_ne (ne_of_none e fresh.2.2.2.1)]
        exact fr' _ _ (kp _ _ e nb) (ne_of_none e fresh.1) (ne_of_none e fresh.2.1) (ne_of_none e fresh.2.2.1)
      · rintro σ H8 ⟨u2, u3, rfl, N⟩
        exact k' H8 rfl N
end
end J

namespace J
open PySem L2
theorem LevAt.uniq {G : Gv} {i : Nat} {l m : Int} (h : LevAt G i l) (h2 : LevAt G i m) : l = m := by
  obtain ⟨q, e, z⟩ := h
  obtain ⟨p, e2, z2⟩ := h2
  rw [e] at e2
  cases e2
  exact z.symm.trans z2
theorem leaf_of {G : Gv} (ok : GOk G) {i : Nat} (h : LevAt G i 0) : i < 8 := by
  obtain ⟨q, e, z⟩ := h
  refine Nat.lt_of_not_le fun n => ?_
  obtain ⟨_, _, _, _, _, _, l1, _⟩ := ok.node i q e n
  lia
structure Node (G : Gv) (n i : Nat) (q : Sq) (x y z w : Nat) : Prop where
  g : G[i]? = some q
  ps : q.parts = [(x : Int), (y : Int), (z : Int), (w : Int)]
  lev : q.lev = (n : Int) + 1
  hx : LevAt G x n
  hy : LevAt G y n
  hz : LevAt G z n
  hw : LevAt G w n
theorem node_of {G : Gv} (ok : GOk G) {n i : Nat} (h : LevAt G i ((n + 1 : Nat) : Int)) : ∃ q x y z w, Node G n i q x y z w := by
  obtain ⟨q, e, el⟩ := h
  have n8 : 8 ≤ i := by
    refine Nat.le_of_not_lt fun l8 => ?_
    rw [ok.leaf i l8] at e
    cases e
    have : (0 : Int) = ((n + 1 : Nat) : Int) := el
    lia
  obtain ⟨x, y, z, w, ep, ⟨hx, hy, hz, hw⟩, _, _⟩ := ok.node i q e n8
  have en : q.lev - 1 = (n : Int) := by lia
  rw [en] at hx hy hz hw
  exact ⟨q, x, y, z, w, e, ep, by lia, hx, hy, hz, hw⟩
theorem Node.app {G G' : Gv} {k n i : Nat} {q : Sq} {x y z w : Nat} (go : Goes G G' k) (h : Node G n i q x y z w) : Node G' n i q x y z w := ⟨go.get h.g, h.ps, h.lev, go.lev h.hx, go.lev h.hy, go.lev h.hz, go.lev h.hw⟩
def cntF (G : Gv) : Nat → Nat → Int
  | 0, i => if i = 0 then 0 else 1
  | n + 1, i => match G[i]? with
    | some q => (q.parts.map fun p => cntF G n p.toNat).sum
    | none => 0
theorem cntF_node {G : Gv} {n i : Nat} {q : Sq} {x y z w : Nat} (h : Node G n i q x y z w) : cntF G (n + 1) i = ([x, y, z, w].map fun k => cntF G n k).sum := by
  rw [show cntF G (n + 1) i = (match G[i]? with | some q => (q.parts.map fun (p : Int) => cntF G n p.toNat).sum | none => 0) from rfl, h.g]
  show (q.parts.map fun (p : Int) => cntF G n p.toNat).sum = _
  rw [h.ps]
  rfl
theorem cntF_app {G G' : Gv} {k : Nat} (ok : GOk G) (go : Goes G G' k) : ∀ (n i : Nat), LevAt G i (n : Int) → cntF G' n i = cntF G n i
  | 0, i, _ => rfl
  | n + 1, i, h => by
    obtain ⟨q, x, y, z, w, nd⟩ := node_of ok h
    rw [cntF_node nd, cntF_node (nd.app go)]
    show cntF G' n x + (cntF G' n y + (cntF G' n z + (cntF G' n w + 0))) = _
    rw [cntF_app ok go n x nd.hx, cntF_app ok go n y nd.hy, cntF_app ok go n z nd.hz, cntF_app ok go n w nd.hw]
    rfl
theorem cntF_nn (G : Gv) : ∀ (n i : Nat), 0 ≤ cntF G n i
  | 0, i => by
    show 0 ≤ if i = 0 then (0 : Int) else 1
    split <;> lia
  | n + 1, i => by
    unfold cntF
    split
    · rename_i q _
      have : ∀ l : List Int, 0 ≤ (l.map fun p => cntF G n p.toNat).sum := by
        intro l
        induction l with
        | nil => exact Int.le_refl 0
        | cons p r ih => rw [List.map_cons, List.sum_cons]; have := cntF_nn G n p.toNat; lia
      exact this _
    · exact Int.le_refl 0
theorem few_below : ∀ (n : Nat) (l : List Nat), l.Nodup → (∀ x ∈ l, x < n) → l.length ≤ n
  | 0, l, _, h => by
    cases l with
    | nil => exact Nat.le_refl 0
    | cons x r => exact absurd (h x List.mem_cons_self) (Nat.not_lt_zero _)
  | n + 1, l, nd, h => by
    by_cases hm : n ∈ l
    · have := few_below n (l.erase n) (nd.erase n) fun x hx => by
        have h1 := (nd.mem_erase_iff).mp hx
        have := h x h1.2
        have := h1.1
        lia
      rw [List.length_erase_of_mem hm] at this
      lia
    · have := few_below n l nd fun x hx => by
        have := h x hx
        have : x ≠ n := fun z => hm (z ▸ hx)
        lia
      lia
structure KeysOk (G : Gv) (ks : List (Key × V)) : Prop where
  nd : (ks.map Prod.fst).Nodup
  lt : ∀ k ∈ ks.map Prod.fst, ∃ i : Nat, i < G.length ∧ k = Sum.inl (i : Int)
theorem KeysOk.len {G : Gv} {ks : List (Key × V)} (h : KeysOk G ks) : ks.length ≤ G.length := by
  let f : Key → Nat := fun k => match k with | .inl i => i.toNat | .inr _ => 0
  have := few_below G.length ((ks.map Prod.fst).map f) (by
    rw [List.nodup_iff_pairwise_ne, List.pairwise_map]
    refine List.Pairwise.imp_of_mem (fun {a b} ha hb hne z => hne ?_) (List.nodup_iff_pairwise_ne.mp h.nd)
    obtain ⟨i, _, rfl⟩ := h.lt a ha
    obtain ⟨j, _, rfl⟩ := h.lt b hb
    have : (i : Int).toNat = (j : Int).toNat := z
    rw [Int.toNat_natCast, Int.toNat_natCast] at this
    rw [this]) (fun x hx => by
    obtain ⟨k, hk, rfl⟩ := List.mem_map.mp hx
    obtain ⟨i, hi, rfl⟩ := h.lt k hk
    show (i : Int).toNat < _
    rw [Int.toNat_natCast]
    exact hi)
  rw [List.length_map, List.length_map] at this
  exact this
theorem KeysOk.app {G G' : Gv} {ks : List (Key × V)} (le : G.length ≤ G'.length) (h : KeysOk G ks) : KeysOk G' ks := ⟨h.nd, fun k hk => by
  obtain ⟨i, hi, e⟩ := h.lt k hk
  exact ⟨i, by lia, e⟩⟩
theorem KeysOk.put {G : Gv} {ks : List (Key × V)} (h : KeysOk G ks) {i : Nat} (hi : i < G.length) (v : V) : KeysOk G (putK ks (Sum.inl (i : Int)) v) := by
  unfold putK
  by_cases a : (ks.any fun kv => decide (kv.1 = Sum.inl (i : Int))) = true
  · rw [if_pos a]
    have e : (ks.map fun kv => if kv.1 = Sum.inl (i : Int) then (kv.1, v) else kv).map Prod.fst = ks.map Prod.fst := by
      rw [List.map_map]
      refine List.map_congr_left fun kv _ => ?_
      show (if kv.1 = Sum.inl (i : Int) then (kv.1, v) else kv).1 = kv.1
      split <;> rfl
    exact ⟨by rw [e]; exact h.nd, by rw [e]; exact h.lt⟩
  · rw [if_neg a]
    refine ⟨?_, fun k hk => ?_⟩
    · rw [List.map_append, List.nodup_append]
      refine ⟨h.nd, by simp, fun k hk k' hk' z => a ?_⟩
      have : k' = Sum.inl (i : Int) := by simpa using hk'
      subst this
      subst z
      obtain ⟨kv, h1, h2⟩ := List.mem_map.mp hk
      exact List.any_eq_true.mpr ⟨kv, h1, decide_eq_true h2⟩
    · rw [List.map_append] at hk
      rcases List.mem_append.mp hk with z | z
      · exact h.lt k z
      · exact ⟨i, hi, by simpa using z⟩
structure AmOk (G : Gv) (ks : List (Key × V)) : Prop where
  keys : KeysOk G ks
  leaf : ∀ s : Nat, s < 8 → ∃ v, valV ks (Sum.inl (s : Int)) = some v
  val : ∀ (i : Nat) v, valV ks (Sum.inl (i : Int)) = some v → ∃ l : Nat, LevAt G i l ∧ v = .int (cntF G l i)
theorem AmOk.app {G G' : Gv} {k : Nat} {ks : List (Key × V)} (ok : GOk G) (go : Goes G G' k) (h : AmOk G ks) : AmOk G' ks := ⟨h.keys.app (by obtain ⟨r, e⟩ := go.pre; rw [e, List.length_append]; lia), h.leaf, fun i v e => by
  obtain ⟨l, h1, h2⟩ := h.val i v e
  exact ⟨l, go.lev h1, by rw [cntF_app ok go l i h1]; exact h2⟩⟩
theorem AmOk.put {G : Gv} {ks : List (Key × V)} (h : AmOk G ks) {i l : Nat} (hl : LevAt G i l) : AmOk G (putK ks (Sum.inl (i : Int)) (.int (cntF G l i))) := ⟨h.keys.put hl.lt _, fun s hs => by
  rw [valV_put]
  split
  · exact ⟨_, rfl⟩
  · exact h.leaf s hs, fun j v e => by
  rw [valV_put] at e
  split at e
  · rename_i z
    injection z with z
    have : j = i := Int.ofNat.inj z
    subst this
    cases e
    exact ⟨l, hl, rfl⟩
  · exact h.val j v e⟩
theorem am0 : AmOk G0 (amK 8) where
  keys := ⟨by decide +kernel, fun k hk => by
    obtain ⟨p, hp, rfl⟩ := List.mem_map.mp hk
    obtain ⟨s, hs, rfl⟩ := List.mem_map.mp hp
    have := List.mem_range.mp hs
    exact ⟨s, by rw [g0_len]; lia, rfl⟩⟩
  leaf := fun s hs => by
    match s, hs with
    | 0, _ => exact ⟨_, rfl⟩
    | 1, _ => exact ⟨_, rfl⟩
    | 2, _ => exact ⟨_, rfl⟩
    | 3, _ => exact ⟨_, rfl⟩
    | 4, _ => exact ⟨_, rfl⟩
    | 5, _ => exact ⟨_, rfl⟩
    | 6, _ => exact ⟨_, rfl⟩
    | 7, _ => exact ⟨_, rfl⟩
  val := fun i v e => by
    have hi : i < 8 := by
      refine Nat.lt_of_not_le fun z => ?_
      rw [amK_none 8 i z] at e
      cases e
    refine ⟨0, ⟨_, g0_leaf i hi, rfl⟩, ?_⟩
    match i, hi with
    | 0, _ => cases e; rfl
    | 1, _ => cases e; rfl
    | 2, _ => cases e; rfl
    | 3, _ => cases e; rfl
    | 4, _ => cases e; rfl
    | 5, _ => cases e; rfl
    | 6, _ => cases e; rfl
    | 7, _ => cases e; rfl
end J

namespace J
open PySem L2
structure Bx where
  l : Int
  t : Int
  w : Int
  h : Int
def Bx.ns (b : Bx) : List Int := [b.l, b.t, b.w, b.h]
def shB (half : Int) (k : Nat) (b : Bx) : Bx := ⟨b.l + half * ((k : Int) % 2), b.t + half * ((k : Int) / 2), b.w, b.h⟩
def gath (half : Int) : Nat → List (Option Bx) → List Bx
  | _, [] => []
  | k, none :: r => gath half (k + 1) r
  | k, some b :: r => shB half k b :: gath half (k + 1) r
def mnL (l : List Int) : Int := l.min?.getD 0
def mxL (l : List Int) : Int := l.max?.getD 0
def leastB (bs : List Bx) : Bx := ⟨mnL (bs.map (·.l)), mnL (bs.map (·.t)), mxL (bs.map fun b => b.l + b.w) - mnL (bs.map (·.l)), mxL (bs.map fun b => b.t + b.h) - mnL (bs.map (·.t))⟩
def parB (half : Int) (obs : List (Option Bx)) : Option Bx := match gath half 0 obs with
  | [] => none
  | b :: r => some (leastB (b :: r))
def boxF (G : Gv) : Nat → Nat → Option Bx
  | 0, i => if i = 0 then none else some ⟨0, 0, 1, 1⟩
  | n + 1, i => match G[i]? with
    | some q => parB (2 ^ n) (q.parts.map fun (p : Int) => boxF G n p.toNat)
    | none => none
theorem boxF_node {G : Gv} {n i : Nat} {q : Sq} {x y z w : Nat} (h : Node G n i q x y z w) : boxF G (n + 1) i = parB (2 ^ n) [boxF G n x, boxF G n y, boxF G n z, boxF G n w] := by
  rw [show boxF G (n + 1) i = (match G[i]? with | some q => parB (2 ^ n) (q.parts.map fun (p : Int) => boxF G n p.toNat) | none => none) from rfl, h.g]
  show parB (2 ^ n) (q.parts.map fun (p : Int) => boxF G n p.toNat) = _
  rw [h.ps]
  rfl
theorem boxF_app {G G' : Gv} {k : Nat} (ok : GOk G) (go : Goes G G' k) : ∀ (n i : Nat), LevAt G i (n : Int) → boxF G' n i = boxF G n i
  | 0, i, _ => rfl
  | n + 1, i, h => by
    obtain ⟨q, x, y, z, w, nd⟩ := node_of ok h
    rw [boxF_node nd, boxF_node (nd.app go), boxF_app ok go n x nd.hx, boxF_app ok go n y nd.hy, boxF_app ok go n z nd.hz, boxF_app ok go n w nd.hw]
theorem g0_pre {G r : Gv} (e : G = G0 ++ r) (j : Nat) (h : j < 48) : G[8 + j]? = some ⟨[(bareN j : Int), (bareN j : Int), (bareN j : Int), (bareN j : Int)], (j : Int) + 1⟩ := by
  rw [e]
  exact get_app (g0_bare j h)
structure BxOk (G : Gv) (H : Hp) (ks : List (Key × V)) : Prop where
  keys : KeysOk G ks
  val : ∀ (i : Nat) v, valV ks (Sum.inl (i : Int)) = some v → ∃ (l : Nat) (b : Bx) (t : Addr), LevAt G i l ∧ boxF G l i = some b ∧ v = .ref t ∧ H t = some (.tup (b.ns.map V.int))
structure Full (a : Ad) (H : Hp) (g : GA) (G : Gv) : Prop where
  at' : GroveAt a H g G
  ok : GOk G
  g0 : ∃ r, G = G0 ++ r
  br : H g.br = some (.lst ((bareL 48).map V.int))
  am : ∃ ks, H g.am = some (.dK ks) ∧ AmOk G ks
  bx : ∃ ks, H g.bx = some (.dK ks) ∧ BxOk G H ks
  n1 : g.br ≠ g.lv
  n2 : g.br ≠ g.pt
  n3 : g.am ≠ g.bx
theorem Full.new {a : Ad} {H H' : Hp} {g : GA} (h : NewG a H H' g G0 (bareL 48) (amK 8)) : Full a H' g G0 := ⟨h.at', g0_ok, ⟨[], by simp⟩, h.br, ⟨_, h.am, am0⟩, ⟨_, h.bx, ⟨by simp, fun k hk => by simp at hk⟩, fun i v e => by cases e⟩, h.n1, h.n2, h.n3⟩
theorem Full.ne_am {a : Ad} {H : Hp} {g : GA} {G : Gv} (h : Full a H g G) {b : Addr} {o : HO} (e : H b = some o) (n : ∀ ks, o ≠ .dK ks) : b ≠ g.am ∧ b ≠ g.bx := by
  obtain ⟨ks, h1, _⟩ := h.am
  obtain ⟨ks', h2, _⟩ := h.bx
  exact ⟨ne_of e h1 (n _), ne_of e h2 (n _)⟩
theorem Full.same {a : Ad} {H H' : Hp} {g : GA} {G : Gv} (s : Same H H') (h : Full a H g G) : Full a H' g G := by
  obtain ⟨at', ok, g0, br, ⟨ks, h1, h2⟩, ⟨ks', h3, h4⟩, n1, n2, n3⟩ := h
  refine ⟨at'.same s, ok, g0, s _ _ br, ⟨ks, s _ _ h1, h2⟩, ⟨ks', s _ _ h3, h4.keys, fun i v e => ?_⟩, n1, n2, n3⟩
  obtain ⟨l, b, t, e1, e2, e3, e4⟩ := h4.val i v e
  exact ⟨l, b, t, e1, e2, e3, s _ _ e4⟩
theorem Goes.le {G G' : Gv} {k : Nat} (go : Goes G G' k) : G.length ≤ G'.length := by
  obtain ⟨r, e⟩ := go.pre
  rw [e, List.length_append]
  lia
theorem Full.fr {a : Ad} {H H' : Hp} {g : GA} {G G' : Gv} {m : Nat} (h : Full a H g G) (f : Fr g H H') (at2 : GroveAt a H' g G') (go : Goes G G' m) : Full a H' g G' := by
  obtain ⟨at', ok, ⟨r, g0⟩, br, ⟨ks, h1, h2⟩, ⟨ks', h3, h4⟩, n1, n2, n3⟩ := h
  obtain ⟨us, hp, _⟩ := at'.pt
  have keep : ∀ {b : Addr} {o : HO}, H b = some o → (∀ l, o ≠ .lst l) → (∀ l, o ≠ .dT l) → H' b = some o := fun {b o} e z1 z2 => f _ _ e (ne_of e at'.lv (z1 _)) (ne_of e hp (z1 _)) (ne_of e at'.nm (z2 _))
  obtain ⟨t, et⟩ := go.pre
  refine ⟨at2, go.ok, ⟨r ++ t, by rw [et, g0, List.append_assoc]⟩, f _ _ br n1 n2 (ne_of br at'.nm (by intro z; cases z)), ⟨ks, keep h1 (by intro l z; cases z) (by intro l z; cases z), h2.app ok go⟩, ⟨ks', keep h3 (by intro l z; cases z) (by intro l z; cases z), h4.keys.app go.le, fun i v e => ?_⟩, n1, n2, n3⟩
  obtain ⟨l, b, t, e1, e2, e3, e4⟩ := h4.val i v e
  exact ⟨l, b, t, go.lev e1, by rw [boxF_app ok go l i e1]; exact e2, e3, keep e4 (by intro l z; cases z) (by intro l z; cases z)⟩
def FrQ (g : GA) (H H' : Hp) : Prop := ∀ b o, H b = some o → b ≠ g.am → b ≠ g.bx → H' b = some o
theorem FrQ.refl (g : GA) (H : Hp) : FrQ g H H := fun _ _ e _ _ => e
theorem FrQ.trans {g : GA} {H1 H2 H3 : Hp} (h : FrQ g H1 H2) (h2 : FrQ g H2 H3) : FrQ g H1 H3 := fun b o e n1 n2 => h2 b o (h b o e n1 n2) n1 n2
theorem Same.frq {g : GA} {H1 H2 : Hp} (h : Same H1 H2) : FrQ g H1 H2 := fun b o e _ _ => h b o e
theorem GroveAt.dict {a : Ad} {H : Hp} {g : GA} {G : Gv} {d : Addr} {ks : List (Key × V)} {o : HO} (hd : H d = some (.dK ks)) (h : GroveAt a H g G) : GroveAt a (upd H d o) g G := by
  obtain ⟨h1, h2, ⟨ts, h3, h4⟩, h5, h6⟩ := h
  have other : ∀ {b v}, H b = some v → v ≠ .dK ks → upd H d o b = some v := fun {b v} e n => by rw [upd_ne (ne_of e hd n)]; exact e
  exact ⟨other h1 (by intro z; cases z), other h2 (by intro z; cases z), ⟨ts, other h3 (by intro z; cases z), PairedM.imp (fun t q z => other z (by intro z; cases z)) h4⟩, other h5 (by intro z; cases z), h6⟩
theorem Full.am_put {a : Ad} {H : Hp} {g : GA} {G : Gv} {ks ks2 : List (Key × V)} (h : Full a H g G) (e : H g.am = some (.dK ks)) (h2 : AmOk G ks2) : Full a (upd H g.am (.dK ks2)) g G ∧ FrQ g H (upd H g.am (.dK ks2)) := by
  obtain ⟨at', ok, g0, br, ⟨_, _, _⟩, ⟨ks', h3, h4⟩, n1, n2, n3⟩ := h
  have other : ∀ {b v}, H b = some v → v ≠ .dK ks → upd H g.am (.dK ks2) b = some v := fun {b v} e' n => by rw [upd_ne (ne_of e' e n)]; exact e'
  refine ⟨⟨at'.dict e, ok, g0, other br (by intro z; cases z), ⟨_, upd_same, h2⟩, ⟨ks', by rw [upd_ne (Ne.symm n3)]; exact h3, h4.keys, fun i v e => ?_⟩, n1, n2, n3⟩, fun b o e' m1 _ => by rw [upd_ne m1]; exact e'⟩
  obtain ⟨l, b, t, e1, e2, e3, e4⟩ := h4.val i v e
  exact ⟨l, b, t, e1, e2, e3, other e4 (by intro z; cases z)⟩
theorem no_counted (g : GA) : (fl6 g).lookup ("counted" : Str) = none := fl6_no g (by decide +kernel) (by decide +kernel) (by decide +kernel) (by decide +kernel) (by decide +kernel) (by decide +kernel)
theorem no_living (g : GA) : (fl6 g).lookup ("living" : Str) = none := fl6_no g (by decide +kernel) (by decide +kernel) (by decide +kernel) (by decide +kernel) (by decide +kernel) (by decide +kernel)
end J

namespace J
open PySem L2
theorem Node.mem {G : Gv} {n i : Nat} {q : Sq} {x y z w : Nat} (h : Node G n i q x y z w) {j : Nat} {v : V} (e : (q.parts.map V.int)[j]? = some v) : ∃ k : Nat, v = .int k ∧ LevAt G k n ∧ q.parts[j]? = some (k : Int) := by
  rw [List.getElem?_map] at e
  obtain ⟨p, hp, rfl⟩ := Option.map_eq_some_iff.mp e
  have hm := List.mem_of_getElem? hp
  rw [h.ps] at hm
  simp only [List.mem_cons, List.not_mem_nil, or_false] at hm
  rcases hm with rfl | rfl | rfl | rfl
  · exact ⟨x, rfl, h.hx, hp⟩
  · exact ⟨y, rfl, h.hy, hp⟩
  · exact ⟨z, rfl, h.hz, hp⟩
  · exact ⟨w, rfl, h.hw, hp⟩
section
variable {P : Program} {w : World} {K : PySem.W.Frag} {mg : Str → Option Value} {base : Heap} {a : Ad}
inductive SpCnt (a : Ad) (n : Nat) (vs : List V) (H : Hp) (Q : VK) : Prop
  | mk (g : GA) (G : Gv) (i l : Nat) (_ : vs = [.ref g.p, .int i]) (_ : Full a H g G) (_ : LevAt G i l) (_ : l < n) (_ : G.length < 9000000) (_ : ∀ H', FrQ g H H' → Full a H' g G → Q (.int (cntF G l i)) H') : SpCnt a n vs H Q
def spCnt (a : Ad) (n : Nat) : Sp := fun vs H Q _ => SpCnt a n vs H Q
theorem ok_cnt {f : Addr} {fd : FuncData} (F : Fun K "counted" "Grove.counted" s_Grove_counted f fd) (T : Top K mg a) (Me : Meth K a.c_Grove "counted" f) (Bi : Binds K fd p_Grove_counted []) : ∀ n, FnOk P w K mg base CX0 (n + 1) f fd p_Grove_counted (spCnt a n)
  | 0 => by
    refine F.ok sc_Grove_counted (fun vs H Q E h => ?_) (fun cdv A outer s H vs Q E hr h => ?_)
    · obtain ⟨g, G, i, l, rfl, _, _, h0, _⟩ := h
      exact absurd h0 (Nat.not_lt_zero _)
    · obtain ⟨g, G, i, l, rfl, _, _, h0, _⟩ := h
      exact absurd h0 (Nat.not_lt_zero _)
  | n + 1 => by
    have M_Grove_counted : CalM P w K mg base CX0 (n + 1) a.c_Grove "counted" p_Grove_counted (spCnt a n) := ⟨⟨f, fd, ok_cnt F T Me Bi n, Me, Bi⟩, T.cl_Grove⟩
    refine F.ok sc_Grove_counted (fun vs H Q E h => ?_) (fun cdv A outer s H vs Q E hr h => ?_)
    · obtain ⟨g, G, i, l, rfl, _⟩ := h
      rfl
    · obtain ⟨g, G, i, l, rfl, fu, hl, ln, few, k⟩ := h
      obtain ⟨ks, ham, aok⟩ := fu.am
      refine ⟨_, (@pss_cons _ _ _ _ _ (@ps_set _ _ (2) _ _ _ _ sc_Grove_counted.nd rfl (Or.inl rfl) (@pe_dget1 _ _ _ _ _ _ _ (hu_of hr) (@pe_fld _ _ _ _ _ (pv 0) rfl) (pv 1) ⟨rfl, rfl, rfl, rfl⟩) rfl (by first | exact .inl rfl | exact .inr rfl | assumption)) (@pss_cons _ _ _ _ _ (@ps_if _ _ _ _ _ _ _ _ (@pt_cmpR _ _ _ _ _ _ _ _ (@op_isN _) (pv 2) (@pe_non _ _ _) (nomark _)) (@pss_cons _ _ _ _ _ (@ps_set _ _ (2) _ _ _ _ sc_Grove_counted.nd rfl (Or.inl rfl) (@pe_callB _ _ _ _ _ _ _ _ _ (@call_sum _ rfl) rfl T.b_sum PyProof.Rows.boot_sum (@pa_cons _ _ _ _ _ (@pe_comp _ _ _ _ _ _ _ _ _ _ _ _ _ _ rfl (@CScope.of _ ((defScope s_Grove_counted)) (n_Grove_counted) _ (["quarter", "self"]) (1) ([0]) rfl rfl (by decide +kernel)) (@pi_tup _ _ _ _ (@pe_ix _ _ _ _ _ _ _ (@ix_list _) (@pe_fld _ _ _ _ _ (pv 0) rfl) (pv 1) (fun _ _ => rfl))) (fun _ _ _ => (@pgc_name _ _ _ _ _ _ _ _ (0) (by decide +kernel) rfl rfl)) (fun _ _ _ => (@pts_nil _)) (fun _ _ _ => (@pe_calm _ _ _ _ _ _ _ _ _ _ _ _ _ _ _ _ (pv 1) M_Grove_counted (rm hr) pass0 (@pa_cons _ _ _ _ _ (pv 0) (@pa_nil _) rfl) rfl rfl rfl)) (by intro _ ; rfl)) (@pa_nil _) rfl) (by decide) (by decide) rfl rfl) rfl (by first | exact .inl rfl | exact .inr rfl | assumption)) (@pss_one _ _ _ (@ps_dput _ _ _ _ _ _ _ _ _ (hu_of hr) (@pe_fld _ _ _ _ _ (pv 0) rfl) (pv 1) (pv 2) rfl))) (@pss_nil _)) (@pss_one _ _ _ (@ps_ret _ _ _ _ (pv 2))))), ?_⟩
      try dsimp only [cxK]
      refine ⟨_, rfl, g.p, _, g.dx, _, _, rfl, fu.at'.hp, T.cl_Grove, T.na_Grove_amounts, fl6_am g, g.am, rfl, .inl ⟨_, .inl ham⟩, _, rfl, _, DGet.k (k := Sum.inl (i : Int)) ham, ?_⟩
      cases e : valV ks (Sum.inl (i : Int)) with
      | some v =>
        obtain ⟨l', hl', rfl⟩ := aok.val i v e
        have el : l' = l := Int.ofNat.inj (hl'.uniq hl)
        subst el
        exact ⟨_, rfl, rfl, _, rfl, iteF ⟨_, rfl, k H (FrQ.refl g H) fu⟩⟩
      | none =>
        refine ⟨_, rfl, rfl, _, rfl, iteT ?_⟩
        cases l with
        | zero =>
          obtain ⟨v, ev⟩ := aok.leaf i (leaf_of fu.ok hl)
          rw [e] at ev
          cases ev
        | succ m =>
          obtain ⟨q, x, y, z, w, nd⟩ := node_of fu.ok hl
          obtain ⟨ts, h3, h4⟩ := fu.at'.pt
          obtain ⟨t, et, ht⟩ := PairedM.get h4 nd.g
          have ht : H t = some (.tup (q.parts.map V.int)) := ht
          have nt := fu.ne_am ht (by intro l z; cases z)
          refine ⟨_, rfl, g.p, _, g.dx, _, _, rfl, fu.at'.hp, T.cl_Grove, T.na_Grove_parts, fl6_pt g, _, rfl, g.pt, _, (i : Int), .ref t, rfl, rfl, SqL.of h3, atI_nat (by rw [List.getElem?_map, et]; rfl), t, rfl, ⟨_, SqT.of ht⟩, ?_⟩
          refine blk_tup (xs := q.parts.map V.int) (fun j acc H2 => FrQ g H H2 ∧ Full a H2 g G ∧ acc = ((q.parts.take j).map fun (p : Int) => cntF G m p.toNat).map V.int) ⟨FrQ.refl g H, fu, rfl⟩ (fun j acc H2 _ z => SqT.of (z.1 _ _ ht nt.1 nt.2)) ?_ ?_
          · rintro j v acc H2 ev ⟨fr, fu2, rfl⟩
            obtain ⟨k', rfl, hk, ek⟩ := nd.mem ev
            refine ⟨⟨[some (.int k')], rfl, rfl⟩, by rw [List.length_map, List.length_map, List.length_take, nd.ps]; exact lt_ln (by show min j 4 < 10000000; lia), tyes ⟨_, rfl, g.p, g.dx, _, rfl, fu2.at'.hp, no_counted g, _, rfl, g, G, k', m, rfl, fu2, hk, by lia, few, fun H3 fr3 fu3 => ⟨fr.trans fr3, fu3, ?_⟩⟩⟩
            rw [List.take_add_one, ek, List.map_append, List.map_append]
            rfl
          · rintro acc H2 ⟨fr, fu2, rfl⟩ qd hq
            rw [List.length_map, List.take_length] at *
            have s3 := same_up (o := .lst ((q.parts.map fun (p : Int) => cntF G m p.toNat).map V.int)) hq
            have fu3 := fu2.same s3
            refine ⟨qd, q.parts.map fun (p : Int) => cntF G m p.toNat, rfl, SqL.of upd_same, ?_⟩
            generalize upd H2 qd (.lst ((q.parts.map fun (p : Int) => cntF G m p.toNat).map V.int)) = H3 at s3 fu3 ⊢
            obtain ⟨ks3, ham3, aok3⟩ := fu3.am
            have lk := aok3.keys.len
            have es : (q.parts.map fun (p : Int) => cntF G m p.toNat).sum = cntF G (m + 1) i := by
              rw [cntF_node nd, nd.ps]
              rfl
            rw [es]
            obtain ⟨fu4, fr4⟩ := fu3.am_put ham3 (aok3.put (l := m + 1) hl)
            exact ⟨_, rfl, _, rfl, g.p, _, g.dx, _, _, rfl, fu3.at'.hp, T.cl_Grove, T.na_Grove_amounts, fl6_am g, _, rfl, g.am, _, rfl, DPut.k (k := Sum.inl (i : Int)) ham3 (lt_ln (by lia)), ⟨_, rfl, k _ ((fr.trans (Same.frq s3)).trans fr4) fu4⟩⟩
inductive SpLiv (a : Ad) (vs : List V) (H : Hp) (Q : VK) : Prop
  | mk (g : GA) (G : Gv) (i l : Nat) (_ : vs = [.ref g.p, .int i]) (_ : Full a H g G) (_ : LevAt G i l) (_ : G.length < 9000000) (_ : ∀ H', FrQ g H H' → Full a H' g G → Q (.int (cntF G l i)) H') : SpLiv a vs H Q
def spLiv (a : Ad) : Sp := fun vs H Q _ => SpLiv a vs H Q
theorem ok_liv {f : Addr} {fd : FuncData} (F : Fun K "living" "Grove.living" s_Grove_living f fd) (T : Top K mg a) (M_Grove_check_square : CalM P w K mg base CX0 2 a.c_Grove "check_square" p_Grove_check_square (spChk a)) (M_Grove_counted : CalM P w K mg base CX0 50 a.c_Grove "counted" p_Grove_counted (spCnt a 49)) : FnOk P w K mg base CX0 51 f fd p_Grove_living (spLiv a) := by
  refine F.ok sc_Grove_living (fun vs H Q E h => ?_) (fun cdv A outer s H vs Q E hr h => ?_)
  · obtain ⟨g, G, i, l, rfl, _⟩ := h
    rfl
  · obtain ⟨g, G, i, l, rfl, fu, hl, few, k⟩ := h
    refine ⟨_, (@pss_cons _ _ _ _ _ (@ps_expr _ _ _ _ (@pe_calm _ _ _ _ _ _ _ _ _ _ _ _ _ _ _ _ (pv 0) M_Grove_check_square (rm hr) pass0 (@pa_cons _ _ _ _ _ (pv 1) (@pa_nil _) rfl) rfl rfl rfl) rfl) (@pss_one _ _ _ (@ps_ret _ _ _ _ (@pe_calm _ _ _ _ _ _ _ _ _ _ _ _ _ _ _ _ (pv 0) M_Grove_counted (rm hr) pass0 (@pa_cons _ _ _ _ _ (pv 1) (@pa_nil _) rfl) rfl rfl rfl)))), ?_⟩
    try dsimp only [cxK]
    have l48 : l < 49 := by
      obtain ⟨q, e, el⟩ := id hl
      have := (fu.ok.lev e).2
      lia
    refine ⟨_, rfl, g.p, g.dx, _, rfl, fu.at'.hp, no_check g, _, rfl, g, G, i, rfl, fu.at', hl.lt, ?_⟩
    exact ⟨_, rfl, g.p, g.dx, _, rfl, fu.at'.hp, no_counted g, _, rfl, g, G, i, l, rfl, fu, hl, l48, few, k⟩
end
end J

namespace J
open PySem L2
theorem PairedM.getL {α β : Type} {F : α → β → Prop} : ∀ {l : List α} {m : List β} {i : Nat} {x : α}, Paired F l m → l[i]? = some x → ∃ y, m[i]? = some y ∧ F x y
  | _, _, _, _, .nil, e => by simp at e
  | _, _, 0, _, .cons r _, e => by simp at e; subst e; exact ⟨_, rfl, r⟩
  | _, _, i + 1, x, .cons _ t, e => by
    obtain ⟨y, h1, h2⟩ := PairedM.getL (i := i) (x := x) t (by simpa using e)
    exact ⟨y, by simpa using h1, h2⟩
section
variable {P : Program} {w : World} {K : PySem.W.Frag} {mg : Str → Option Value} {base : Heap} {a : Ad}
theorem two_pow (m : Nat) {l : Int} (e : l = (m : Int) + 1) : (1 : Int) * 2 ^ (l - 1).toNat = 2 ^ m := by
  rw [e, Int.one_mul, show ((m : Int) + 1 - 1).toNat = m by lia]
end
end J

namespace J
open PySem L2
def atN (ns : List Int) (k : Int) : Int := ns.getD k.toNat 0
section
variable {P : Program} {w : World} {K : PySem.W.Frag} {mg : Str → Option Value} {base : Heap} {a : Ad}
inductive SpAt (K : PySem.W.Frag) (vs : List V) (H : Hp) (Q : VK) : Prop
  | mk (l : Addr) (ns : List Int) (k : Int) (_ : vs = [.ref l, .int k]) (_ : SqL K H l (ns.map V.int)) (_ : 0 ≤ k) (_ : Q (.int (atN ns k)) H) : SpAt K vs H Q
def spAt (K : PySem.W.Frag) : Sp := fun vs H Q _ => SpAt K vs H Q
theorem ok_at {f : Addr} {fd : FuncData} (F : Fun K "_law_at" "_law_at" s__law_at f fd) (T : Top K mg a) : FnOk P w K mg base CX0 1 f fd p__law_at (spAt K) := by
  refine F.ok sc__law_at (fun vs H Q E h => ?_) (fun cdv A outer s H vs Q E hr h => ?_)
  · obtain ⟨l, ns, k, rfl, _⟩ := h
    rfl
  · obtain ⟨l, ns, k, rfl, hS, h0, q⟩ := h
    refine ⟨_, (@pss_cons _ _ _ _ _ (@ps_if _ _ _ _ _ _ _ _ (@pt_cmpR _ _ _ _ _ _ _ _ (@op_lt _) (pv 1) (@pe_callB _ _ _ _ _ _ _ _ _ (@call_len_seq _) rfl T.b_len PySem.boot_len (@pa_cons _ _ _ _ _ (pv 0) (@pa_nil _) rfl) (by decide) (by decide) rfl rfl) (nomark _)) (@pss_one _ _ _ (@ps_ret _ _ _ _ (@pe_ix _ _ _ _ _ _ _ (@ix_list _) (pv 0) (pv 1) (fun _ _ => rfl)))) (@pss_nil _)) (@pss_one _ _ _ (@ps_ret _ _ _ _ (@pe_int _ _ _ _)))), ?_⟩
    try dsimp only [cxK]
    refine ⟨_, rfl, _, rfl, l, _, rfl, .inl hS, _, _, rfl, rfl, _, rfl, ?_⟩
    obtain ⟨n, rfl⟩ := Int.eq_ofNat_of_zero_le h0
    refine ite2 (fun hc => ?_) (fun hc => ?_)
    · have hc' : n < ns.length := by
        have := of_decide_eq_true hc
        rw [List.length_map] at this
        lia
      refine ⟨_, rfl, _, rfl, l, _, n, .int ns[n], rfl, rfl, hS, atI_nat (by rw [List.getElem?_map, List.getElem?_eq_getElem hc']; rfl), ?_⟩
      have e : atN ns (n : Int) = ns[n] := by
        unfold atN
        rw [Int.toNat_natCast, List.getD_eq_getElem?_getD, List.getElem?_eq_getElem hc']
        rfl
      rw [e] at q
      exact q
    · have hc' : ns.length ≤ n := by
        have : ¬ (n : Int) < ((ns.map V.int).length : Int) := fun z => hc (decide_eq_true z)
        rw [List.length_map] at this
        lia
      have e : atN ns (n : Int) = 0 := by
        unfold atN
        rw [Int.toNat_natCast, List.getD_eq_getElem?_getD, List.getElem?_eq_none hc']
        rfl
      rw [e] at q
      exact q
end
inductive SpLaw (K : PySem.W.Frag) (vs : List V) (H : Hp) (Q : VK) : Prop
  | mk (a : Addr) (ns : List Int) (_ : vs = [.ref a]) (_ : SqL K H a (ns.map V.int)) (_ : ns.length ≤ 63) (_ : ∀ H', Q (.bl true) H') : SpLaw K vs H Q
def spLaw (K : PySem.W.Frag) : Sp := fun vs H Q _ => SpLaw K vs H Q
end J

namespace J
open PySem L2
def Ap (g : GA) (x : Addr) : Prop := x ≠ g.lv ∧ x ≠ g.pt ∧ x ≠ g.nm
theorem Ap.new {a : Ad} {H : Hp} {g : GA} {G : Gv} (h : GroveAt a H g G) {x : Addr} (n : H x = none) : Ap g x := by
  obtain ⟨ts, h3, _⟩ := h.pt
  exact ⟨Ne.symm (ne_of_none h.lv n), Ne.symm (ne_of_none h3 n), Ne.symm (ne_of_none h.nm n)⟩
theorem Fr.get {g : GA} {H H' : Hp} {x : Addr} {o : HO} (f : Fr g H H') (p : Ap g x) (e : H x = some o) : H' x = some o := f _ _ e p.1 p.2.1 p.2.2
theorem Fr.tup {a : Ad} {g : GA} {G : Gv} {H H' : Hp} {x : Addr} {l : List V} (f : Fr g H H') (h : GroveAt a H g G) (e : H x = some (.tup l)) : H' x = some (.tup l) := by
  obtain ⟨us, h3, _⟩ := h.pt
  exact f _ _ e (ne_of e h.lv (by intro z; cases z)) (ne_of e h3 (by intro z; cases z)) (ne_of e h.nm (by intro z; cases z))
theorem Goes.mono {G G' : Gv} {n m : Nat} (h : Goes G G' n) (e : n ≤ m) : Goes G G' m := ⟨h.ok, h.pre, Nat.le_trans h.few (by lia)⟩
theorem kit_t (K : PySem.W.Frag) : PySem.W.kitOne K (.type "tuple") (.type "tuple") = some true := by kernel_rfl
theorem pow2_nn (l : Nat) : (0 : Int) < 2 ^ l := Int.pow_pos (by decide)
theorem pow2_lt {l : Nat} (h : l < 64) : (2 : Int) ^ l < 2 ^ 64 := by
  have : (2 : Nat) ^ l < 2 ^ 64 := Nat.pow_lt_pow_right (by decide) h
  exact_mod_cast this
section
variable {P : Program} {w : World} {K : PySem.W.Frag} {mg : Str → Option Value} {base : Heap} {a : Ad}
end
end J

namespace J
open PySem L2
theorem pow2_succ (l : Nat) : (2 : Int) ^ (l + 1) = 2 ^ l + 2 ^ l := by rw [Int.pow_succ]; lia
def Lies (x y w h r : Int) : Prop := -r ≤ x ∧ -r ≤ y ∧ x + w ≤ r ∧ y + h ≤ r
instance (x y w h r : Int) : Decidable (Lies x y w h r) := by unfold Lies; infer_instance
theorem lies_b (x y w h r : Int) : (decide (-r ≤ x) && (decide (-r ≤ y) && (decide (x + w ≤ r) && decide (y + h ≤ r)))) = decide (Lies x y w h r) := by
  rw [Bool.eq_iff_iff]
  simp only [Bool.and_eq_true, decide_eq_true_eq]
  exact Iff.rfl
structure Wid (G : Gv) (n f w : Nat) : Prop where
  ex : ∃ (q : Sq) (x y z v a b c d : Nat), Node G n f q x y z v ∧ G[a]? = some ⟨[(bareN n : Int), (bareN n : Int), (bareN n : Int), (x : Int)], (n : Int) + 1⟩ ∧ G[b]? = some ⟨[(bareN n : Int), (bareN n : Int), (y : Int), (bareN n : Int)], (n : Int) + 1⟩ ∧
    G[c]? = some ⟨[(bareN n : Int), (z : Int), (bareN n : Int), (bareN n : Int)], (n : Int) + 1⟩ ∧ G[d]? = some ⟨[(v : Int), (bareN n : Int), (bareN n : Int), (bareN n : Int)], (n : Int) + 1⟩ ∧ G[w]? = some ⟨[(a : Int), (b : Int), (c : Int), (d : Int)], (n : Int) + 2⟩
theorem Wid.lev {G : Gv} {n f w : Nat} (h : Wid G n f w) : LevAt G w ((n + 2 : Nat) : Int) := by
  obtain ⟨q, x, y, z, v, a, b, c, d, nd, ea, eb, ec, ed, ew⟩ := h.ex
  exact ⟨_, ew, by show (n : Int) + 2 = _; lia⟩
theorem Wid.app {G G' : Gv} {k n f w : Nat} (go : Goes G G' k) (h : Wid G n f w) : Wid G' n f w := by
  obtain ⟨q, x, y, z, v, a, b, c, d, nd, ea, eb, ec, ed, ew⟩ := h.ex
  exact ⟨q, x, y, z, v, a, b, c, d, nd.app go, go.get ea, go.get eb, go.get ec, go.get ed, go.get ew⟩
theorem bare_lev {G r : Gv} (e : G = G0 ++ r) {n : Nat} (h : n ≤ 48) : LevAt G (bareN n) (n : Int) := by
  rw [e]
  exact (g0_lev n h).app
theorem bareL_at' {l : Nat} (h : l ≤ 48) : ((bareL 48).map V.int)[l]? = some (.int (bareN l : Int)) := by
  unfold bareL
  rw [List.getElem?_map, List.getElem?_map, List.getElem?_range (by lia)]
  rfl
section
variable {P : Program} {w : World} {K : PySem.W.Frag} {mg : Str → Option Value} {base : Heap} {a : Ad}
inductive SpLie (vs : List V) (H : Hp) (Q : VK) : Prop
  | mk (t : Addr) (x y w h r : Int) (_ : vs = [.ref t, .int r]) (_ : H t = some (.tup [.int x, .int y, .int w, .int h])) (_ : Q (.bl (decide (Lies x y w h r))) H) : SpLie vs H Q
def spLie : Sp := fun vs H Q _ => SpLie vs H Q
theorem ok_lie {f : Addr} {fd : FuncData} (F : Fun K "lies_within" "lies_within" s_lies_within f fd) (T : Top K mg a) : FnOk P w K mg base CX0 1 f fd p_lies_within spLie := by
  refine F.ok sc_lies_within (fun vs H Q E h => ?_) (fun cdv A outer s H vs Q E hr h => ?_)
  · obtain ⟨t, x, y, w, h, r, rfl, _⟩ := h
    rfl
  · obtain ⟨t, x, y, wd, hh, r, rfl, ht, k⟩ := h
    rw [← lies_b] at k
    refine ⟨_, (@pss_one _ _ _ (@ps_ret _ _ _ _ (@pe_and _ _ _ _ _ _ _ (@pe_cmpR _ _ _ _ _ _ _ _ (@op_le _) (@pe_un _ _ _ _ _ _ (@un_neg _) (pv 1)) (@pe_ix _ _ _ _ _ _ _ (@ix_tup _) (pv 0) (@pe_int _ _ _ _) (fun _ _ => rfl)) (nomark _)) (@pe_and _ _ _ _ _ _ _ (@pe_cmpR _ _ _ _ _ _ _ _ (@op_le _) (@pe_un _ _ _ _ _ _ (@un_neg _) (pv 1)) (@pe_ix _ _ _ _ _ _ _ (@ix_tup _) (pv 0) (@pe_int _ _ _ _) (fun _ _ => rfl)) (nomark _)) (@pe_and _ _ _ _ _ _ _ (@pe_cmpR _ _ _ _ _ _ _ _ (@op_le _) (@pe_op _ _ _ _ _ _ _ _ (@op_add _) (@pe_ix _ _ _ _ _ _ _ (@ix_tup _) (pv 0) (@pe_int _ _ _ _) (fun _ _ => rfl)) (@pe_ix _ _ _ _ _ _ _ (@ix_tup _) (pv 0) (@pe_int _ _ _ _) (fun _ _ => rfl))) (pv 1) (nomark _)) (@pe_one _ _ _ _ _ (@pe_cmpR _ _ _ _ _ _ _ _ (@op_le _) (@pe_op _ _ _ _ _ _ _ _ (@op_add _) (@pe_ix _ _ _ _ _ _ _ (@ix_tup _) (pv 0) (@pe_int _ _ _ _) (fun _ _ => rfl)) (@pe_ix _ _ _ _ _ _ _ (@ix_tup _) (pv 0) (@pe_int _ _ _ _) (fun _ _ => rfl))) (pv 1) (nomark _)))))))), ?_⟩
    try dsimp only [cxK]
    refine ⟨_, rfl, _, rfl, _, rfl, t, _, 0, .int x, rfl, rfl, SqT.of ht, atI_nat (j := 0) rfl, _, _, rfl, rfl, and_end (fun _ Q1 q1 => ?_) k⟩
    refine ⟨_, rfl, _, rfl, _, rfl, t, _, 1, .int y, rfl, rfl, SqT.of ht, atI_nat (j := 1) rfl, _, _, rfl, rfl, and_end (fun _ Q2 q2 => ?_) q1⟩
    refine ⟨_, rfl, t, _, 0, .int x, rfl, rfl, SqT.of ht, atI_nat (j := 0) rfl, _, rfl, t, _, 2, .int wd, rfl, rfl, SqT.of ht, atI_nat (j := 2) rfl, _, _, rfl, rfl, _, rfl, _, _, rfl, rfl, and_end (fun _ Q3 q3 => ?_) q2⟩
    exact ⟨_, rfl, t, _, 1, .int y, rfl, rfl, SqT.of ht, atI_nat (j := 1) rfl, _, rfl, t, _, 3, .int hh, rfl, rfl, SqT.of ht, atI_nat (j := 3) rfl, _, _, rfl, rfl, _, rfl, _, _, rfl, rfl, q3⟩
inductive SpReach (a : Ad) (vs : List V) (H : Hp) (Q : VK) : Prop
  | mk (g : GA) (G : Gv) (i n : Nat) (_ : vs = [.ref g.p, .int i]) (_ : GroveAt a H g G) (_ : LevAt G i ((n + 1 : Nat) : Int)) (_ : n < 48) (_ : Q (.int (2 ^ n)) H) : SpReach a vs H Q
def spReach (a : Ad) : Sp := fun vs H Q _ => SpReach a vs H Q
theorem ok_reach {f : Addr} {fd : FuncData} (F : Fun K "reach_of" "reach_of" s_reach_of f fd) (T : Top K mg a) (M_Grove_level_of : CalM P w K mg base CX0 3 a.c_Grove "level_of" p_Grove_level_of (spLev a)) : FnOk P w K mg base CX0 4 f fd p_reach_of (spReach a) := by
  refine F.ok sc_reach_of (fun vs H Q E h => ?_) (fun cdv A outer s H vs Q E hr h => ?_)
  · obtain ⟨g, G, i, n, rfl, _⟩ := h
    rfl
  · obtain ⟨g, G, i, n, rfl, hg, ⟨q, e, el⟩, n48, k⟩ := h
    refine ⟨_, (@pss_one _ _ _ (@ps_ret _ _ _ _ (@pe_op _ _ _ _ _ _ _ _ (@op_shl _) (@pe_int _ _ _ _) (@pe_op _ _ _ _ _ _ _ _ (@op_sub _) (@pe_calm _ _ _ _ _ _ _ _ _ _ _ _ _ _ _ _ (pv 0) M_Grove_level_of (rm hr) pass0 (@pa_cons _ _ _ _ _ (pv 1) (@pa_nil _) rfl) rfl rfl rfl) (@pe_int _ _ _ _))))), ?_⟩
    try dsimp only [cxK]
    have en : q.lev = (n : Int) + 1 := by rw [el]; lia
    refine ⟨_, rfl, g.p, g.dx, _, rfl, hg.hp, no_levelOf g, _, rfl, g, G, i, q, rfl, hg, e, _, _, rfl, rfl, _, _, rfl, rfl, ⟨by lia, by lia, by decide⟩, ?_⟩
    show Q (.int (1 * 2 ^ (q.lev - 1).toNat)) H
    rw [two_pow n en]
    exact k
inductive SpBareF (a : Ad) (vs : List V) (H : Hp) (Q : VK) : Prop
  | mk (g : GA) (G : Gv) (_ : vs = [.ref g.p]) (_ : Full a H g G) (_ : Q (.int (bareN 1 : Int)) H) : SpBareF a vs H Q
def spBareF (a : Ad) : Sp := fun vs H Q _ => SpBareF a vs H Q
theorem ok_bareF {f : Addr} {fd : FuncData} (F : Fun K "bare_field" "bare_field" s_bare_field f fd) (T : Top K mg a) : FnOk P w K mg base CX0 1 f fd p_bare_field (spBareF a) := by
  refine F.ok sc_bare_field (fun vs H Q E h => ?_) (fun cdv A outer s H vs Q E hr h => ?_)
  · obtain ⟨g, G, rfl, _⟩ := h
    rfl
  · obtain ⟨g, G, rfl, fu, k⟩ := h
    exact ⟨_, (@pss_one _ _ _ (@ps_ret _ _ _ _ (@pe_ix _ _ _ _ _ _ _ (@ix_list _) (@pe_fld _ _ _ _ _ (pv 0) rfl) (@pe_gint _ _ _ _ rfl T.k_LEAST_LEVEL (by decide)) (fun _ _ => rfl)))), _, rfl, g.p, _, g.dx, _, _, rfl, fu.at'.hp, T.cl_Grove, T.na_Grove_bares, fl6_br g, g.br, _, 1, .int (bareN 1 : Int), rfl, rfl, SqL.of fu.br, atI_nat (j := 1) (bareL_at' (by lia)), k⟩
inductive SpWid (a : Ad) (vs : List V) (H : Hp) (Q : VK) : Prop
  | mk (g : GA) (G : Gv) (f n : Nat) (_ : vs = [.ref g.p, .int f]) (_ : Full a H g G) (_ : LevAt G f ((n + 1 : Nat) : Int)) (_ : n < 47) (_ : G.length < 8900000) (_ : ∀ (w : Nat) (G' : Gv) (H' : Hp), Fr g H H' → GroveAt a H' g G' → Goes G G' 5 → Wid G' n f w → Q (.int w) H') : SpWid a vs H Q
def spWid (a : Ad) : Sp := fun vs H Q _ => SpWid a vs H Q
theorem ok_wid {f : Addr} {fd : FuncData} (F : Fun K "widened" "widened" s_widened f fd) (T : Top K mg a) (M_Grove_level_of : CalM P w K mg base CX0 3 a.c_Grove "level_of" p_Grove_level_of (spLev a)) (M_Grove_linked : CalM P w K mg base CX0 2 a.c_Grove "linked" p_Grove_linked (spLink a)) : FnOk P w K mg base CX0 4 f fd p_widened (spWid a) := by
  refine F.ok sc_widened (fun vs H Q E h => ?_) (fun cdv A outer s H vs Q E hr h => ?_)
  · obtain ⟨g, G, f', n, rfl, _⟩ := h
    rfl
  · obtain ⟨g, G, f', n, rfl, fu, hl, n47, few, k⟩ := h
    obtain ⟨q, x, y, z, v, nd⟩ := node_of fu.ok hl
    have lq := nd.lev
    obtain ⟨ts, h3, h4⟩ := fu.at'.pt
    obtain ⟨t, et, ht⟩ := PairedM.get h4 nd.g
    have ht : H t = some (.tup [.int x, .int y, .int z, .int v]) := by
      have ht : H t = some (.tup (q.parts.map V.int)) := ht
      rw [nd.ps] at ht
      exact ht
    obtain ⟨r, e0⟩ := fu.g0
    have lb := bare_lev e0 (n := n) (by lia)
    refine ⟨_, (@pss_cons _ _ _ _ _ (@ps_set _ _ (2) _ _ _ _ sc_widened.nd rfl (Or.inl rfl) (@pe_calm _ _ _ _ _ _ _ _ _ _ _ _ _ _ _ _ (pv 0) M_Grove_level_of (rm hr) pass0 (@pa_cons _ _ _ _ _ (pv 1) (@pa_nil _) rfl) rfl rfl rfl) rfl (by first | exact .inl rfl | exact .inr rfl | assumption)) (@pss_cons _ _ _ _ _ (@ps_if _ _ _ _ _ _ _ _ (@PW.pt _ _ _ (@pw_or _ _ _ _ _ _ _ (@pt_cmpR _ _ _ _ _ _ _ _ (@op_lt _) (pv 2) (@pe_gint _ _ _ _ rfl T.k_LEAST_LEVEL (by decide)) (nomark _)) (@pw_or1 _ _ _ _ (@pt_cmpR _ _ _ _ _ _ _ _ (@op_eq _) (pv 2) (@pe_gint _ _ _ _ rfl T.k_TOP_LEVEL (by decide)) (nomark _))))) (@pss_one _ _ _ (@ps_never _ _)) (@pss_nil _)) (@pss_cons _ _ _ _ _ (@ps_set _ _ (3) _ _ _ _ sc_widened.nd rfl (Or.inl rfl) (@pe_ix _ _ _ _ _ _ _ (@ix_list _) (@pe_fld _ _ _ _ _ (pv 0) rfl) (pv 1) (fun _ _ => rfl)) rfl (by first | exact .inl rfl | exact .inr rfl | assumption)) (@pss_cons _ _ _ _ _ (@ps_set _ _ (4) _ _ _ _ sc_widened.nd rfl (Or.inl rfl) (@pe_ix _ _ _ _ _ _ _ (@ix_list _) (@pe_fld _ _ _ _ _ (pv 0) rfl) (@pe_op _ _ _ _ _ _ _ _ (@op_sub _) (pv 2) (@pe_int _ _ _ _)) (fun _ _ => rfl)) rfl (by first | exact .inl rfl | exact .inr rfl | assumption)) (@pss_one _ _ _ (@ps_ret _ _ _ _ (@pe_calm _ _ _ _ _ _ _ _ _ _ _ _ _ _ _ _ (pv 0) M_Grove_linked (rm hr) pass0 (@pa_tup _ _ _ _ _ _ _ (@pa_cons _ _ _ _ _ (@pe_calm _ _ _ _ _ _ _ _ _ _ _ _ _ _ _ _ (pv 0) M_Grove_linked (rm hr) pass0 (@pa_tup _ _ _ _ _ _ _ (@pa_cons _ _ _ _ _ (pv 4) (@pa_cons _ _ _ _ _ (pv 4) (@pa_cons _ _ _ _ _ (pv 4) (@pa_cons _ _ _ _ _ (@pe_ix _ _ _ _ _ _ _ (@ix_tup _) (pv 3) (@pe_int _ _ _ _) (fun _ _ => rfl)) (@pa_nil _) rfl) rfl) rfl) rfl) (@pa_nil _)) rfl rfl rfl) (@pa_cons _ _ _ _ _ (@pe_calm _ _ _ _ _ _ _ _ _ _ _ _ _ _ _ _ (pv 0) M_Grove_linked (rm hr) pass0 (@pa_tup _ _ _ _ _ _ _ (@pa_cons _ _ _ _ _ (pv 4) (@pa_cons _ _ _ _ _ (pv 4) (@pa_cons _ _ _ _ _ (@pe_ix _ _ _ _ _ _ _ (@ix_tup _) (pv 3) (@pe_int _ _ _ _) (fun _ _ => rfl)) (@pa_cons _ _ _ _ _ (pv 4) (@pa_nil _) rfl) rfl) rfl) rfl) (@pa_nil _)) rfl rfl rfl) (@pa_cons _ _ _ _ _ (@pe_calm _ _ _ _ _ _ _ _ _ _ _ _ _ _ _ _ (pv 0) M_Grove_linked (rm hr) pass0 (@pa_tup _ _ _ _ _ _ _ (@pa_cons _ _ _ _ _ (pv 4) (@pa_cons _ _ _ _ _ (@pe_ix _ _ _ _ _ _ _ (@ix_tup _) (pv 3) (@pe_int _ _ _ _) (fun _ _ => rfl)) (@pa_cons _ _ _ _ _ (pv 4) (@pa_cons _ _ _ _ _ (pv 4) (@pa_nil _) rfl) rfl) rfl) rfl) (@pa_nil _)) rfl rfl rfl) (@pa_cons _ _ _ _ _ (@pe_calm _ _ _ _ _ _ _ _ _ _ _ _ _ _ _ _ (pv 0) M_Grove_linked (rm hr) pass0 (@pa_tup _ _ _ _ _ _ _ (@pa_cons _ _ _ _ _ (@pe_ix _ _ _ _ _ _ _ (@ix_tup _) (pv 3) (@pe_int _ _ _ _) (fun _ _ => rfl)) (@pa_cons _ _ _ _ _ (pv 4) (@pa_cons _ _ _ _ _ (pv 4) (@pa_cons _ _ _ _ _ (pv 4) (@pa_nil _) rfl) rfl) rfl) rfl) (@pa_nil _)) rfl rfl rfl) (@pa_nil _) rfl) rfl) rfl) rfl) (@pa_nil _)) rfl rfl rfl))))))), ?_⟩
    try dsimp only [cxK]
    refine ⟨_, rfl, g.p, g.dx, _, rfl, fu.at'.hp, no_levelOf g, _, rfl, g, G, f', q, rfl, fu.at', nd.g, ?_⟩
    refine ⟨_, rfl, _, _, rfl, rfl, _, rfl, ?_⟩
    rw [decide_eq_false (by lia : ¬ q.lev < 1)]
    refine iteF ⟨_, rfl, rfl, _, rfl, ?_⟩
    rw [decide_eq_false (by intro z; injection z with z; lia)]
    refine iteF ⟨_, rfl, g.p, _, g.dx, _, _, rfl, fu.at'.hp, T.cl_Grove, T.na_Grove_parts, fl6_pt g, _, rfl, g.pt, _, (f' : Int), .ref t, rfl, rfl, SqL.of h3, atI_nat (by rw [List.getElem?_map, et]; rfl), ?_⟩
    refine ⟨_, rfl, g.p, _, g.dx, _, _, rfl, fu.at'.hp, T.cl_Grove, T.na_Grove_bares, fl6_br g, _, rfl, _, _, rfl, rfl, g.br, _, q.lev - 1, .int (bareN n : Int), rfl, rfl, SqL.of fu.br, by rw [show q.lev - 1 = (n : Int) by lia]; exact atI_nat (bareL_at' (by lia)), ?_⟩
    refine ⟨_, rfl, g.p, g.dx, _, rfl, fu.at'.hp, no_linked g, ?_⟩
    -- the four quarters
    refine ⟨_, rfl, g.p, g.dx, _, rfl, fu.at'.hp, no_linked g, _, rfl, _, rfl, _, rfl, _, rfl, t, _, 0, .int x, rfl, rfl, SqT.of ht, atI_nat (j := 0) rfl, (by show 4 ≤ sizeLine; decide), fun t1 ht1 => ?_⟩
    have s1 := same_up (o := .tup [.int (bareN n : Int), .int (bareN n : Int), .int (bareN n : Int), .int x]) ht1
    refine ⟨g, G, t1, bareN n, bareN n, bareN n, x, (n : Int), rfl, fu.at'.same s1, fu.ok, upd_same, ⟨lb, lb, lb, nd.hx⟩, by lia, by lia, fun a1 G1 H1 fr1 hg1 go1 e1 => ?_⟩
    have f1 := (Same.fr s1).trans fr1
    have htA := f1.tup fu.at' ht
    have n1 := go1.few
    refine ⟨_, rfl, g.p, g.dx, _, rfl, hg1.hp, no_linked g, _, rfl, _, rfl, _, rfl, t, _, 1, .int y, rfl, rfl, SqT.of htA, atI_nat (j := 1) rfl, _, rfl, (by show 4 ≤ sizeLine; decide), fun t2 ht2 => ?_⟩
    have s2 := same_up (o := .tup [.int (bareN n : Int), .int (bareN n : Int), .int y, .int (bareN n : Int)]) ht2
    refine ⟨g, G1, t2, bareN n, bareN n, y, bareN n, (n : Int), rfl, hg1.same s2, go1.ok, upd_same, ⟨go1.lev lb, go1.lev lb, go1.lev nd.hy, go1.lev lb⟩, by lia, by lia, fun a2 G2 H2 fr2 hg2 go2 e2 => ?_⟩
    have f2 := f1.trans ((Same.fr s2).trans fr2)
    have htB := f2.tup fu.at' ht
    have n2 := go2.few
    have go12 := go1.trans go2
    refine ⟨_, rfl, g.p, g.dx, _, rfl, hg2.hp, no_linked g, _, rfl, _, rfl, t, _, 2, .int z, rfl, rfl, SqT.of htB, atI_nat (j := 2) rfl, _, rfl, _, rfl, (by show 4 ≤ sizeLine; decide), fun t3 ht3 => ?_⟩
    have s3 := same_up (o := .tup [.int (bareN n : Int), .int z, .int (bareN n : Int), .int (bareN n : Int)]) ht3
    refine ⟨g, G2, t3, bareN n, z, bareN n, bareN n, (n : Int), rfl, hg2.same s3, go2.ok, upd_same, ⟨go12.lev lb, go12.lev nd.hz, go12.lev lb, go12.lev lb⟩, by lia, by lia, fun a3 G3 H3 fr3 hg3 go3 e3 => ?_⟩
    have f3 := f2.trans ((Same.fr s3).trans fr3)
    have htC := f3.tup fu.at' ht
    have n3 := go3.few
    have go13 := go12.trans go3
    refine ⟨_, rfl, g.p, g.dx, _, rfl, hg3.hp, no_linked g, _, rfl, t, _, 3, .int v, rfl, rfl, SqT.of htC, atI_nat (j := 3) rfl, _, rfl, _, rfl, _, rfl, (by show 4 ≤ sizeLine; decide), fun t4 ht4 => ?_⟩
    have s4 := same_up (o := .tup [.int v, .int (bareN n : Int), .int (bareN n : Int), .int (bareN n : Int)]) ht4
    refine ⟨g, G3, t4, v, bareN n, bareN n, bareN n, (n : Int), rfl, hg3.same s4, go3.ok, upd_same, ⟨go13.lev nd.hw, go13.lev lb, go13.lev lb, go13.lev lb⟩, by lia, by lia, fun a4 G4 H4 fr4 hg4 go4 e4 => ?_⟩
    have f4 := f3.trans ((Same.fr s4).trans fr4)
    have n4 := go4.few
    have go14 := go13.trans go4
    refine ⟨(by show 4 ≤ sizeLine; decide), fun t5 ht5 => ?_⟩
    have s5 := same_up (o := .tup [.int a1, .int a2, .int a3, .int a4]) ht5
    have E1 := (go2.trans (go3.trans go4)).get e1
    have E2 := (go3.trans go4).get e2
    have E3 := go4.get e3
    refine ⟨g, G4, t5, a1, a2, a3, a4, (n : Int) + 1, rfl, hg4.same s5, go4.ok, upd_same, ⟨⟨_, E1, rfl⟩, ⟨_, E2, rfl⟩, ⟨_, E3, rfl⟩, ⟨_, e4, rfl⟩⟩, by lia, by lia, fun w' G5 H5 fr5 hg5 go5 e5 => ?_⟩
    have go15 := go14.trans go5
    exact k w' G5 H5 (f4.trans ((Same.fr s5).trans fr5)) hg5 go15 ⟨q, x, y, z, v, a1, a2, a3, a4, nd.app go15, go5.get E1, go5.get E2, go5.get E3, go5.get e4, by rw [e5, show (n : Int) + 1 + 1 = (n : Int) + 2 by lia]⟩
end
end J

namespace J
open PySem L2
structure Deep (G : Gv) (n i : Nat) (qs : Nat → Nat) (ps : Nat → Nat → Nat) : Prop where
  node : ∃ q, Node G (n + 1) i q (qs 0) (qs 1) (qs 2) (qs 3)
  sub : ∀ k, k < 4 → ∃ q, Node G n (qs k) q (ps k 0) (ps k 1) (ps k 2) (ps k 3)
theorem Deep.app {G G' : Gv} {k n i : Nat} {qs : Nat → Nat} {ps : Nat → Nat → Nat} (go : Goes G G' k) (h : Deep G n i qs ps) : Deep G' n i qs ps := by
  obtain ⟨q, nd⟩ := h.node
  exact ⟨⟨q, nd.app go⟩, fun k hk => by obtain ⟨q, nd⟩ := h.sub k hk; exact ⟨q, nd.app go⟩⟩
def f4 (x y z w : Nat) (k : Nat) : Nat := match k with | 0 => x | 1 => y | 2 => z | _ => w
theorem deep_of {G : Gv} (ok : GOk G) {n i : Nat} (h : LevAt G i ((n + 2 : Nat) : Int)) : ∃ qs ps, Deep G n i qs ps := by
  obtain ⟨q, x, y, z, w, nd⟩ := node_of ok (n := n + 1) h
  obtain ⟨_, x0, x1, x2, x3, nx⟩ := node_of ok nd.hx
  obtain ⟨_, y0, y1, y2, y3, ny⟩ := node_of ok nd.hy
  obtain ⟨_, z0, z1, z2, z3, nz⟩ := node_of ok nd.hz
  obtain ⟨_, w0, w1, w2, w3, nw⟩ := node_of ok nd.hw
  refine ⟨f4 x y z w, fun k => match k with | 0 => f4 x0 x1 x2 x3 | 1 => f4 y0 y1 y2 y3 | 2 => f4 z0 z1 z2 z3 | _ => f4 w0 w1 w2 w3, ⟨q, nd⟩, fun k hk => ?_⟩
  match k, hk with
  | 0, _ => exact ⟨_, nx⟩
  | 1, _ => exact ⟨_, ny⟩
  | 2, _ => exact ⟨_, nz⟩
  | 3, _ => exact ⟨_, nw⟩
theorem Node.nat {G : Gv} {n i : Nat} {q : Sq} {x y z w : Nat} (h : Node G n i q x y z w) {j : Nat} (hj : j < 4) : q.parts[j]? = some ((f4 x y z w j : Nat) : Int) ∧ LevAt G (f4 x y z w j) n := by
  rw [h.ps]
  match j, hj with
  | 0, _ => exact ⟨rfl, h.hx⟩
  | 1, _ => exact ⟨rfl, h.hy⟩
  | 2, _ => exact ⟨rfl, h.hz⟩
  | 3, _ => exact ⟨rfl, h.hw⟩
theorem f4_fun (p : Nat → Nat) {j : Nat} (hj : j < 4) : f4 (p 0) (p 1) (p 2) (p 3) j = p j := by
  match j, hj with
  | 0, _ => rfl
  | 1, _ => rfl
  | 2, _ => rfl
  | 3, _ => rfl
def BA (n : Nat) (ps : Nat → Nat → Nat) : Prop := ∀ k j, k < 4 → j < 4 → j + k ≠ 3 → ps k j = bareN n
def TrimR (G : Gv) : Nat → Nat → Nat → Prop
  | 0, _, _ => False
  | 1, f, r => r = f
  | n + 2, f, r => ∃ qs ps, Deep G n f qs ps ∧ ((¬ BA n ps ∧ r = f) ∨ (BA n ps ∧ ∃ m, G[m]? = some ⟨[(ps 0 3 : Int), (ps 1 2 : Int), (ps 2 1 : Int), (ps 3 0 : Int)], (n : Int) + 1⟩ ∧ TrimR G (n + 1) m r))
theorem TrimR.app {G G' : Gv} {k : Nat} (go : Goes G G' k) : ∀ {n f r : Nat}, TrimR G n f r → TrimR G' n f r
  | 0, _, _, h => h
  | 1, _, _, h => h
  | n + 2, f, r, h => by
    obtain ⟨qs, ps, d, h⟩ := h
    refine ⟨qs, ps, d.app go, ?_⟩
    rcases h with h | ⟨h1, m, h2, h3⟩
    · exact .inl h
    · exact .inr ⟨h1, m, go.get h2, TrimR.app go h3⟩
section
variable {P : Program} {w : World} {K : PySem.W.Frag} {mg : Str → Option Value} {base : Heap} {a : Ad}
theorem part_at {H : Hp} {g : GA} {G : Gv} (h : GroveAt a H g G) {n i : Nat} {q : Sq} {x y z w : Nat} (nd : Node G n i q x y z w) : ∃ (ts : List Addr) (t : Addr), H g.pt = some (.lst (ts.map V.ref)) ∧ (ts.map V.ref)[i]? = some (.ref t) ∧ H t = some (.tup [.int x, .int y, .int z, .int w]) := by
  obtain ⟨ts, h3, h4⟩ := h.pt
  obtain ⟨t, et, ht⟩ := PairedM.get h4 nd.g
  refine ⟨ts, t, h3, by rw [List.getElem?_map, et]; rfl, ?_⟩
  have ht : H t = some (.tup (q.parts.map V.int)) := ht
  rw [nd.ps] at ht
  exact ht
inductive SpMid (a : Ad) (vs : List V) (H : Hp) (Q : VK) : Prop
  | mk (g : GA) (G : Gv) (i n : Nat) (qs : Nat → Nat) (ps : Nat → Nat → Nat) (_ : vs = [.ref g.p, .int i]) (_ : GroveAt a H g G) (_ : GOk G) (_ : Deep G n i qs ps) (_ : n < 47) (_ : G.length < 8900000) (_ : ∀ (m : Nat) (G' : Gv) (H' : Hp), Fr g H H' → GroveAt a H' g G' → Goes G G' 1 → G'[m]? = some ⟨[(ps 0 3 : Int), (ps 1 2 : Int), (ps 2 1 : Int), (ps 3 0 : Int)], (n : Int) + 1⟩ → Q (.int m) H') : SpMid a vs H Q
def spMid (a : Ad) : Sp := fun vs H Q _ => SpMid a vs H Q
theorem ok_mid {f : Addr} {fd : FuncData} (F : Fun K "middle_of" "middle_of" s_middle_of f fd) (T : Top K mg a) (M_Grove_linked : CalM P w K mg base CX0 2 a.c_Grove "linked" p_Grove_linked (spLink a)) : FnOk P w K mg base CX0 3 f fd p_middle_of (spMid a) := by
  refine F.ok sc_middle_of (fun vs H Q E h => ?_) (fun cdv A outer s H vs Q E hr h => ?_)
  · obtain ⟨g, G, i, n, qs, ps, rfl, _⟩ := h
    rfl
  · obtain ⟨g, G, i, n, qs, ps, rfl, hg, ok, dp, n47, few, k⟩ := h
    obtain ⟨q, nd⟩ := dp.node
    obtain ⟨ts, t, h3, et, ht⟩ := part_at hg nd
    refine ⟨_, (@pss_cons _ _ _ _ _ (@ps_setComp _ _ _ _ _ _ _ _ _ _ _ _ _ _ (2) _ _ _ rfl sc_middle_of.nd rfl rfl (@CScope.of _ ((defScope s_middle_of)) (n_middle_of) _ (["quarter", "grove"]) (1) ([0]) rfl rfl (by decide +kernel)) (@pi_tup _ _ _ _ (@pe_ix _ _ _ _ _ _ _ (@ix_list _) (@pe_fld _ _ _ _ _ (pv 0) rfl) (pv 1) (fun _ _ => rfl))) (fun _ _ _ => (@pgc_name _ _ _ _ _ _ _ _ (0) (by decide +kernel) rfl rfl)) (fun _ _ _ => (@pts_nil _)) (fun _ _ _ => (@pe_ix _ _ _ _ _ _ _ (@ixc_list _ (K) rfl) (@pe_fldK _ (K) _ _ _ _ rfl (pv 1) rfl) (pv 0) (fun _ _ => rfl))) rfl (by intro _ ; rfl)) (@pss_one _ _ _ (@ps_ret _ _ _ _ (@pe_calm _ _ _ _ _ _ _ _ _ _ _ _ _ _ _ _ (pv 0) M_Grove_linked (rm hr) pass0 (@pa_tup _ _ _ _ _ _ _ (@pa_cons _ _ _ _ _ (@pe_ix _ _ _ _ _ _ _ (@ix_tup _) (@pe_ix _ _ _ _ _ _ _ (@ix_list _) (pv 2) (@pe_int _ _ _ _) (fun _ _ => rfl)) (@pe_int _ _ _ _) (fun _ _ => rfl)) (@pa_cons _ _ _ _ _ (@pe_ix _ _ _ _ _ _ _ (@ix_tup _) (@pe_ix _ _ _ _ _ _ _ (@ix_list _) (pv 2) (@pe_int _ _ _ _) (fun _ _ => rfl)) (@pe_int _ _ _ _) (fun _ _ => rfl)) (@pa_cons _ _ _ _ _ (@pe_ix _ _ _ _ _ _ _ (@ix_tup _) (@pe_ix _ _ _ _ _ _ _ (@ix_list _) (pv 2) (@pe_int _ _ _ _) (fun _ _ => rfl)) (@pe_int _ _ _ _) (fun _ _ => rfl)) (@pa_cons _ _ _ _ _ (@pe_ix _ _ _ _ _ _ _ (@ix_tup _) (@pe_ix _ _ _ _ _ _ _ (@ix_list _) (pv 2) (@pe_int _ _ _ _) (fun _ _ => rfl)) (@pe_int _ _ _ _) (fun _ _ => rfl)) (@pa_nil _) rfl) rfl) rfl) rfl) (@pa_nil _)) rfl rfl rfl)))), ?_⟩
    try dsimp only [cxK]
    refine ⟨_, rfl, g.p, _, g.dx, _, _, rfl, hg.hp, T.cl_Grove, T.na_Grove_parts, fl6_pt g, _, rfl, g.pt, _, (i : Int), .ref t, rfl, rfl, SqL.of h3, atI_nat et, t, rfl, ⟨_, SqT.of ht⟩, ?_⟩
    -- the quarters' parts
    have sub : ∀ k, k < 4 → ∃ tk, (ts.map V.ref)[qs k]? = some (.ref tk) ∧ H tk = some (.tup [.int (ps k 0), .int (ps k 1), .int (ps k 2), .int (ps k 3)]) := fun k hk => by
      obtain ⟨qk, ndk⟩ := dp.sub k hk
      obtain ⟨ts', tk, h3', et', ht'⟩ := part_at hg ndk
      rw [h3] at h3'
      have h3' := HO.lst.inj (Option.some.inj h3')
      exact ⟨tk, by rw [h3']; exact et', ht'⟩
    obtain ⟨t0, e0, p0⟩ := sub 0 (by decide)
    obtain ⟨t1, e1, p1⟩ := sub 1 (by decide)
    obtain ⟨t2, e2, p2⟩ := sub 2 (by decide)
    obtain ⟨t3, e3, p3⟩ := sub 3 (by decide)
    have all : ∀ (j : Nat) (v : V), [V.int (qs 0 : Int), V.int (qs 1 : Int), V.int (qs 2 : Int), V.int (qs 3 : Int)][j]? = some v → ∃ (k : Nat) (tk : Addr), v = .int (k : Int) ∧ (ts.map V.ref)[k]? = some (.ref tk) ∧ [V.ref t0, V.ref t1, V.ref t2, V.ref t3][j]? = some (.ref tk) := fun j v ev => by
      match j, ev with
      | 0, ev => cases ev; exact ⟨qs 0, t0, rfl, e0, rfl⟩
      | 1, ev => cases ev; exact ⟨qs 1, t1, rfl, e1, rfl⟩
      | 2, ev => cases ev; exact ⟨qs 2, t2, rfl, e2, rfl⟩
      | 3, ev => cases ev; exact ⟨qs 3, t3, rfl, e3, rfl⟩
      | j + 4, ev => simp at ev
    refine blk_tup (xs := [.int (qs 0 : Int), .int (qs 1 : Int), .int (qs 2 : Int), .int (qs 3 : Int)]) (fun j acc H2 => H = H2 ∧ acc = [V.ref t0, V.ref t1, V.ref t2, V.ref t3].take j) ⟨rfl, rfl⟩ (fun j acc H2 _ z => z.1 ▸ SqT.of ht) ?_ ?_
    · rintro j v acc H2 ev ⟨rfl, rfl⟩
      obtain ⟨k', tk, rfl, ek, el⟩ := all j v ev
      refine ⟨⟨[some (.int k')], rfl, rfl⟩, by rw [List.length_take]; exact lt_ln (by show min j 4 < 10000000; lia), tyes ⟨_, rfl, g.p, _, g.dx, _, _, rfl, hg.hp, T.cl_Grove, T.na_Grove_parts, fl6_pt g, _, rfl, g.pt, _, (k' : Int), .ref tk, rfl, rfl, SqL.of h3, atI_nat ek, rfl, ?_⟩⟩
      rw [List.take_add_one, el]
      rfl
    · rintro acc H2 ⟨rfl, rfl⟩ L hL
      have s1 := same_up (o := .lst [V.ref t0, V.ref t1, V.ref t2, V.ref t3]) hL
      have hL1 : upd H L (.lst [V.ref t0, V.ref t1, V.ref t2, V.ref t3]) L = some (.lst [V.ref t0, V.ref t1, V.ref t2, V.ref t3]) := upd_same
      rw [show (List.take [V.int (qs 0 : Int), V.int (qs 1 : Int), V.int (qs 2 : Int), V.int (qs 3 : Int)].length [V.ref t0, V.ref t1, V.ref t2, V.ref t3]) = [V.ref t0, V.ref t1, V.ref t2, V.ref t3] from rfl]
      generalize upd H L (.lst [V.ref t0, V.ref t1, V.ref t2, V.ref t3]) = H1 at s1 hL1 ⊢
      have hg1 := hg.same s1
      refine ⟨_, rfl, g.p, g.dx, _, rfl, hg1.hp, no_linked g, _, rfl, L, _, 0, .ref t0, rfl, rfl, SqL.of hL1, atI_nat (j := 0) rfl, t0, _, 3, .int (ps 0 3), rfl, rfl, SqT.of (s1 _ _ p0), atI_nat (j := 3) rfl, _, rfl, L, _, 1, .ref t1, rfl, rfl, SqL.of hL1, atI_nat (j := 1) rfl, t1, _, 2, .int (ps 1 2), rfl, rfl, SqT.of (s1 _ _ p1), atI_nat (j := 2) rfl, ?_⟩
      refine ⟨_, rfl, L, _, 2, .ref t2, rfl, rfl, SqL.of hL1, atI_nat (j := 2) rfl, t2, _, 1, .int (ps 2 1), rfl, rfl, SqT.of (s1 _ _ p2), atI_nat (j := 1) rfl, _, rfl, L, _, 3, .ref t3, rfl, rfl, SqL.of hL1, atI_nat (j := 3) rfl, t3, _, 0, .int (ps 3 0), rfl, rfl, SqT.of (s1 _ _ p3), atI_nat (j := 0) rfl, (by show 4 ≤ sizeLine; decide), fun t4 ht4 => ?_⟩
      have s2 := same_up (o := .tup [.int (ps 0 3), .int (ps 1 2), .int (ps 2 1), .int (ps 3 0)]) ht4
      obtain ⟨_, n0⟩ := dp.sub 0 (by decide)
      obtain ⟨_, n1⟩ := dp.sub 1 (by decide)
      obtain ⟨_, n2⟩ := dp.sub 2 (by decide)
      obtain ⟨_, n3⟩ := dp.sub 3 (by decide)
      exact ⟨g, G, t4, ps 0 3, ps 1 2, ps 2 1, ps 3 0, (n : Int), rfl, hg1.same s2, ok, upd_same, ⟨n0.hw, n1.hz, n2.hy, n3.hx⟩, by lia, by lia, fun m G' H' fr hg' go e => k m G' H' ((Same.fr s1).trans ((Same.fr s2).trans fr)) hg' go e⟩
inductive SpBA (a : Ad) (vs : List V) (H : Hp) (Q : VK) : Prop
  | mk (g : GA) (G : Gv) (i n : Nat) (qs : Nat → Nat) (ps : Nat → Nat → Nat) (_ : vs = [.ref g.p, .int i]) (_ : Full a H g G) (_ : Deep G n i qs ps) (_ : n < 47) (_ : (BA n ps → ∀ H', Same H H' → Q (.bl true) H')) (_ : (¬ BA n ps → ∀ H', Same H H' → Q (.bl false) H')) : SpBA a vs H Q
def spBA (a : Ad) : Sp := fun vs H Q _ => SpBA a vs H Q
theorem ok_ba {f : Addr} {fd : FuncData} (F : Fun K "is_bare_around" "is_bare_around" s_is_bare_around f fd) (T : Top K mg a) : FnOk P w K mg base CX0 1 f fd p_is_bare_around (spBA a) := by
  refine F.ok sc_is_bare_around (fun vs H Q E h => ?_) (fun cdv A outer s H vs Q E hr h => ?_)
  · obtain ⟨g, G, i, n, qs, ps, rfl, _⟩ := h
    rfl
  · obtain ⟨g, G, i, n, qs, ps, rfl, fu, dp, n47, k1, k2⟩ := h
    obtain ⟨q, nd⟩ := dp.node
    have lq := nd.lev
    obtain ⟨ts, t, h3, et, ht⟩ := part_at fu.at' nd
    refine ⟨_, (@pss_cons _ _ _ _ _ (@ps_set _ _ (2) _ _ _ _ sc_is_bare_around.nd rfl (Or.inl rfl) (@pe_ix _ _ _ _ _ _ _ (@ix_list _) (@pe_fld _ _ _ _ _ (pv 0) rfl) (@pe_op _ _ _ _ _ _ _ _ (@op_sub _) (@pe_ix _ _ _ _ _ _ _ (@ix_list _) (@pe_fld _ _ _ _ _ (pv 0) rfl) (pv 1) (fun _ _ => rfl)) (@pe_int _ _ _ _)) (fun _ _ => rfl)) rfl (by first | exact .inl rfl | exact .inr rfl | assumption)) (@pss_cons _ _ _ _ _ (@ps_for _ _ _ _ _ _ _ _ PassesOwn.never rfl (@pi_enum _ _ _ _ _ _ _ _ true rfl T.b_enumerate (@pa_cons _ _ _ _ _ (@pe_ix _ _ _ _ _ _ _ (@ix_list _) (@pe_fld _ _ _ _ _ (pv 0) rfl) (pv 1) (fun _ _ => rfl)) (@pa_nil _) rfl) rfl) (@pg_tup _ _ _ _ _ _ rfl (@pgs_cons _ _ _ _ _ (@pg_name _ _ (3) _ sc_is_bare_around.nd rfl (Or.inl rfl) (by first | exact .inl rfl | exact .inr rfl | assumption)) (@pgs_cons _ _ _ _ _ (@pg_name _ _ (4) _ sc_is_bare_around.nd rfl (Or.inl rfl) (by first | exact .inl rfl | exact .inr rfl | assumption)) (@pgs_nil _) rfl) rfl) rfl rfl) (@pss_one _ _ _ (@ps_for _ _ _ _ _ _ _ _ PassesOwn.never rfl (@pi_enum _ _ _ _ _ _ _ _ true rfl T.b_enumerate (@pa_cons _ _ _ _ _ (@pe_ix _ _ _ _ _ _ _ (@ix_list _) (@pe_fld _ _ _ _ _ (pv 0) rfl) (pv 4) (fun _ _ => rfl)) (@pa_nil _) rfl) rfl) (@pg_tup _ _ _ _ _ _ rfl (@pgs_cons _ _ _ _ _ (@pg_name _ _ (5) _ sc_is_bare_around.nd rfl (Or.inl rfl) (by first | exact .inl rfl | exact .inr rfl | assumption)) (@pgs_cons _ _ _ _ _ (@pg_name _ _ (6) _ sc_is_bare_around.nd rfl (Or.inl rfl) (by first | exact .inl rfl | exact .inr rfl | assumption)) (@pgs_nil _) rfl) rfl) rfl rfl) (@pss_one _ _ _ (@ps_if _ _ _ _ _ _ _ _ (@PW.pt _ _ _ (@pw_and _ _ _ _ _ _ _ (@pt_cmpR _ _ _ _ _ _ _ _ (@op_ne _) (pv 6) (pv 2) (nomark _)) (@pw_and1 _ _ _ _ (@pt_cmpR _ _ _ _ _ _ _ _ (@op_ne _) (pv 5) (@pe_op _ _ _ _ _ _ _ _ (@op_sub _) (@pe_int _ _ _ _) (pv 3)) (nomark _))))) (@pss_one _ _ _ (@ps_ret _ _ _ _ (@pe_bl _ _ _ _))) (@pss_nil _))) (by intro _ ; rfl))) (by intro _ ; rfl)) (@pss_one _ _ _ (@ps_ret _ _ _ _ (@pe_bl _ _ _ _))))), ?_⟩
    try dsimp only [cxK]
    refine ⟨_, rfl, g.p, _, g.dx, _, _, rfl, fu.at'.hp, T.cl_Grove, T.na_Grove_bares, fl6_br g, _, rfl, g.p, _, g.dx, _, _, rfl, fu.at'.hp, T.cl_Grove, T.na_Grove_levels, fl6_lv g, _, rfl, g.lv, _, (i : Int), .int q.lev, rfl, rfl, SqL.of fu.at'.lv, atI_nat (by rw [List.getElem?_map, nd.g]; rfl), _, _, rfl, rfl, g.br, _, q.lev - 2, .int (bareN n : Int), rfl, rfl, SqL.of fu.br, by rw [show q.lev - 2 = (n : Int) by lia]; exact atI_nat (bareL_at' (by lia)), ?_⟩
    refine ⟨_, rfl, g.p, _, g.dx, _, _, rfl, fu.at'.hp, T.cl_Grove, T.na_Grove_parts, fl6_pt g, _, rfl, g.pt, _, (i : Int), .ref t, rfl, rfl, SqL.of h3, atI_nat et, t, rfl, ⟨_, SqT.of ht⟩, ?_⟩
    refine for_enum (b := true) (xs := [.int (qs 0 : Int), .int (qs 1 : Int), .int (qs 2 : Int), .int (qs 3 : Int)]) (fun j σ H2 => Same H H2 ∧ (∃ u3 u4 u5 u6 : Option V, σ = [some (.ref g.p), some (.int i), some (.int (bareN n : Int)), u3, u4, u5, u6]) ∧ ∀ k' j', k' < j → k' < 4 → j' < 4 → j' + k' ≠ 3 → ps k' j' = bareN n) ⟨Same.refl H, ⟨none, none, none, none, rfl⟩, fun k' j' h => absurd h (Nat.not_lt_zero _)⟩ (fun j σ H2 _ z => SqT.of (z.1 _ _ ht)) ?_ ?_
    · rintro j v σ H2 T' ev ⟨sm, ⟨u3, u4, u5, u6, rfl⟩, al⟩ nT
      have hj : j < 4 := (List.getElem?_eq_some_iff.mp ev).1
      have ev' : v = .int (qs j : Int) := by
        match j, hj, ev with
        | 0, _, ev => cases ev; rfl
        | 1, _, ev => cases ev; rfl
        | 2, _, ev => cases ev; rfl
        | 3, _, ev => cases ev; rfl
      subst ev'
      obtain ⟨qk, ndk⟩ := dp.sub j hj
      have s2 := sm.trans (same_up (o := .tup [.int j, .int (qs j)]) nT)
      refine gpair upd_same ?_
      generalize upd H2 T' (.tup [.int j, .int (qs j)]) = H3 at s2 ⊢
      obtain ⟨ts3, t3, h33, et3, ht3⟩ := part_at (fu.at'.same s2) ndk
      refine ⟨_, rfl, g.p, _, g.dx, _, _, rfl, (fu.at'.same s2).hp, T.cl_Grove, T.na_Grove_parts, fl6_pt g, _, rfl, g.pt, _, (qs j : Int), .ref t3, rfl, rfl, SqL.of h33, atI_nat et3, t3, rfl, ⟨_, SqT.of ht3⟩, ?_⟩
      refine for_enum (b := true) (xs := [.int (ps j 0 : Int), .int (ps j 1 : Int), .int (ps j 2 : Int), .int (ps j 3 : Int)]) (fun j2 σ H4 => Same H3 H4 ∧ (∃ u5 u6 : Option V, σ = [some (.ref g.p), some (.int i), some (.int (bareN n : Int)), some (.int j), some (.int (qs j)), u5, u6]) ∧ ∀ j', j' < j2 → j' < 4 → j' + j ≠ 3 → ps j j' = bareN n) ⟨Same.refl H3, ⟨_, _, rfl⟩, fun j' h => absurd h (Nat.not_lt_zero _)⟩ (fun j2 σ H4 _ z => SqT.of (z.1 _ _ ht3)) ?_ ?_
      · rintro j2 v σ H4 T2 ev ⟨sm2, ⟨u5, u6, rfl⟩, al2⟩ nT2
        have hj2 : j2 < 4 := (List.getElem?_eq_some_iff.mp ev).1
        have ev' : v = .int (ps j j2 : Int) := by
          match j2, hj2, ev with
          | 0, _, ev => cases ev; rfl
          | 1, _, ev => cases ev; rfl
          | 2, _, ev => cases ev; rfl
          | 3, _, ev => cases ev; rfl
        subst ev'
        have s4 := sm2.trans (same_up (o := .tup [.int j2, .int (ps j j2)]) nT2)
        refine gpair upd_same ?_
        generalize upd H4 T2 (.tup [.int j2, .int (ps j j2)]) = H5 at s4 ⊢
        refine ⟨_, rfl, _, rfl, rfl, _, rfl, ?_⟩
        refine tand_end (b2 := !decide (V.int (j2 : Int) = V.int (3 - (j : Int)))) (fun _ Q' q => ⟨_, rfl, _, rfl, _, _, rfl, rfl, rfl, _, rfl, q⟩) ?_
        refine ite2 (fun hc => ?_) (fun hc => ?_)
        · refine k2 (fun ba => ?_) H5 (s2.trans s4)
          rw [Bool.and_eq_true] at hc
          have c2 : ¬ j2 + j = 3 := fun z => by
            have := hc.2
            rw [decide_eq_true (show V.int (j2 : Int) = V.int (3 - (j : Int)) by congr 1; lia)] at this
            cases this
          have c1 := hc.1
          rw [ba j j2 hj hj2 c2, decide_eq_true rfl] at c1
          cases c1
        · refine ⟨s4, ⟨_, _, rfl⟩, fun j' h1 h2 h3' => ?_⟩
          rcases Nat.lt_succ_iff_lt_or_eq.mp h1 with h | h
          · exact al2 j' h h2 h3'
          · subst h
            refine Classical.byContradiction fun z => hc ?_
            rw [decide_eq_false (show ¬ V.int (ps j j' : Int) = V.int (bareN n : Int) by intro q; injection q with q; exact z (Int.ofNat.inj q)), decide_eq_false (show ¬ V.int (j' : Int) = V.int (3 - (j : Int)) by intro q; injection q with q; lia)]
            rfl
      · rintro σ H4 ⟨sm2, ⟨u5, u6, rfl⟩, al2⟩
        refine ⟨s2.trans sm2, ⟨_, _, _, _, rfl⟩, fun k' j' h1 h2 h3' h4 => ?_⟩
        rcases Nat.lt_succ_iff_lt_or_eq.mp h1 with h | h
        · exact al k' j' h h2 h3' h4
        · subst h
          exact al2 j' h3' h3' h4
    · rintro σ H2 ⟨sm, ⟨u3, u4, u5, u6, rfl⟩, al⟩
      exact k1 (fun k' j' h1 h2 h3' => al k' j' h1 h1 h2 h3') H2 sm
end
end J

namespace J
open PySem L2
theorem TrimR.lev {G : Gv} : ∀ {l f r : Nat}, LevAt G f (l : Int) → TrimR G l f r → ∃ n, n + 1 ≤ l ∧ LevAt G r ((n + 1 : Nat) : Int)
  | 0, _, _, _, h => h.elim
  | 1, f, r, hl, h => by
    have h : r = f := h
    subst h
    exact ⟨0, Nat.le_refl _, hl⟩
  | n + 2, f, r, hl, h => by
    obtain ⟨qs, ps, d, h⟩ := h
    rcases h with ⟨_, rfl⟩ | ⟨_, m, e, h⟩
    · exact ⟨n + 1, Nat.le_refl _, hl⟩
    · obtain ⟨k, hk, lk⟩ := TrimR.lev (l := n + 1) ⟨_, e, by show (n : Int) + 1 = _; lia⟩ h
      exact ⟨k, by lia, lk⟩
section
variable {P : Program} {w : World} {K : PySem.W.Frag} {mg : Str → Option Value} {base : Heap} {a : Ad}
inductive SpTrim (a : Ad) (vs : List V) (H : Hp) (Q : VK) : Prop
  | mk (g : GA) (G : Gv) (f n : Nat) (_ : vs = [.ref g.p, .int f]) (_ : Full a H g G) (_ : LevAt G f ((n + 1 : Nat) : Int)) (_ : G.length < 8800000) (_ : ∀ (r : Nat) (G' : Gv) (H' : Hp), Fr g H H' → Full a H' g G' → Goes G G' 48 → TrimR G' (n + 1) f r → Q (.int r) H') : SpTrim a vs H Q
def spTrim (a : Ad) : Sp := fun vs H Q _ => SpTrim a vs H Q
theorem ok_trim {f : Addr} {fd : FuncData} (F : Fun K "trimmed" "trimmed" s_trimmed f fd) (T : Top K mg a) (M_Grove_level_of : CalM P w K mg base CX0 3 a.c_Grove "level_of" p_Grove_level_of (spLev a)) (C_is_bare_around : Cal P w K mg base CX0 1 "is_bare_around" p_is_bare_around (spBA a)) (C_middle_of : Cal P w K mg base CX0 3 "middle_of" p_middle_of (spMid a)) : FnOk P w K mg base CX0 4 f fd p_trimmed (spTrim a) := by
  refine F.ok sc_trimmed (fun vs H Q E h => ?_) (fun cdv A outer s H vs Q E hr h => ?_)
  · obtain ⟨g, G, f', n, rfl, _⟩ := h
    rfl
  · obtain ⟨g, G, f', n, rfl, fu, hl, few, k⟩ := h
    obtain ⟨q, eq, lq⟩ := id hl
    have n48 : n + 1 ≤ 48 := by have := (fu.ok.lev eq).2; lia
    refine ⟨_, (@pss_cons _ _ _ _ _ (@ps_if _ _ _ _ _ _ _ _ (@pt_cmpR _ _ _ _ _ _ _ _ (@op_lt _) (@pe_calm _ _ _ _ _ _ _ _ _ _ _ _ _ _ _ _ (pv 0) M_Grove_level_of (rm hr) pass0 (@pa_cons _ _ _ _ _ (pv 1) (@pa_nil _) rfl) rfl rfl rfl) (@pe_gint _ _ _ _ rfl T.k_LEAST_LEVEL (by decide)) (nomark _)) (@pss_one _ _ _ (@ps_never _ _)) (@pss_nil _)) (@pss_cons _ _ _ _ _ (@ps_set _ _ (2) _ _ _ _ sc_trimmed.nd rfl (Or.inl rfl) (pv 1) rfl (by first | exact .inl rfl | exact .inr rfl | assumption)) (@pss_cons _ _ _ _ _ (@ps_while _ _ _ _ _ _ PassesOwn.never (@PW.pt _ _ _ (@pw_and _ _ _ _ _ _ _ (@pt_cmpR _ _ _ _ _ _ _ _ (@op_gt _) (@pe_ix _ _ _ _ _ _ _ (@ix_list _) (@pe_fld _ _ _ _ _ (pv 0) rfl) (pv 2) (fun _ _ => rfl)) (@pe_gint _ _ _ _ rfl T.k_LEAST_LEVEL (by decide)) (nomark _)) (@pw_and1 _ _ _ _ (@pt_val _ _ _ (@pe_cal _ _ _ _ _ _ _ _ _ _ _ _ C_is_bare_around (rm hr) rfl pass0 (@pa_cons _ _ _ _ _ (pv 0) (@pa_cons _ _ _ _ _ (pv 2) (@pa_nil _) rfl) rfl) (by decide) rfl rfl) (by intro _ ; rfl))))) (@pss_one _ _ _ (@ps_set _ _ (2) _ _ _ _ sc_trimmed.nd rfl (Or.inl rfl) (@pe_cal _ _ _ _ _ _ _ _ _ _ _ _ C_middle_of (rm hr) rfl pass0 (@pa_cons _ _ _ _ _ (pv 0) (@pa_cons _ _ _ _ _ (pv 2) (@pa_nil _) rfl) rfl) (by decide) rfl rfl) rfl (by first | exact .inl rfl | exact .inr rfl | assumption)))) (@pss_one _ _ _ (@ps_ret _ _ _ _ (pv 2)))))), ?_⟩
    try dsimp only [cxK]
    refine ⟨_, rfl, g.p, g.dx, _, rfl, fu.at'.hp, no_levelOf g, _, rfl, g, G, f', q, rfl, fu.at', eq, _, _, rfl, rfl, _, rfl, ?_⟩
    rw [decide_eq_false (by lia : ¬ q.lev < 1)]
    refine iteF ⟨_, rfl, ?_⟩
    refine ⟨fun m σ H2 => ∃ (G' : Gv) (c : Nat), σ = [some (.ref g.p), some (.int f'), some (.int c)] ∧ Fr g H H2 ∧ Full a H2 g G' ∧ Goes G G' (n - m) ∧ m ≤ n ∧ LevAt G' c ((m + 1 : Nat) : Int) ∧ ∀ (r : Nat) (G'' : Gv) (k : Nat), Goes G' G'' k → TrimR G'' (m + 1) c r → TrimR G'' (n + 1) f' r, ⟨n, G, f', rfl, Fr.refl g H, fu, (Goes.refl fu.ok).mono (by lia), Nat.le_refl _, hl, fun _ _ _ _ h => h⟩, ?_⟩
    rintro m σ H2 ⟨G', c, rfl, fr, fu2, go, mn, lc, tr⟩
    have gf := go.few
    obtain ⟨qc, ec, lqc⟩ := id lc
    refine ⟨_, rfl, g.p, _, g.dx, _, _, rfl, fu2.at'.hp, T.cl_Grove, T.na_Grove_levels, fl6_lv g, _, rfl, g.lv, _, (c : Int), .int qc.lev, rfl, rfl, SqL.of fu2.at'.lv, atI_nat (by rw [List.getElem?_map, ec]; rfl), _, _, rfl, rfl, _, rfl, ?_⟩
    cases m with
    | zero =>
      rw [decide_eq_false (by lia : ¬ (1 : Int) < qc.lev)]
      exact iteF (iteF ⟨_, rfl, k c G' H2 fr fu2 (go.mono (by lia)) (tr c G' 0 (Goes.refl fu2.ok) rfl)⟩)
    | succ m =>
      rw [decide_eq_true (by lia : (1 : Int) < qc.lev)]
      obtain ⟨qs, ps, dp⟩ := deep_of fu2.ok lc
      refine iteT ⟨_, rfl, _, rfl, g, G', c, m, qs, ps, rfl, fu2, dp, by lia, fun ba H3 s3 => ⟨true, rfl, iteT ?_⟩, fun nba H3 s3 => ⟨false, rfl, iteF ?_⟩⟩
      · refine ⟨fun σ' H' => ∃ (G2 : Gv) (c2 : Nat), σ' = [some (.ref g.p), some (.int f'), some (.int c2)] ∧ Fr g H H' ∧ Full a H' g G2 ∧ Goes G G2 (n - m) ∧ m ≤ n ∧ LevAt G2 c2 ((m + 1 : Nat) : Int) ∧ ∀ (r : Nat) (G'' : Gv) (k : Nat), Goes G2 G'' k → TrimR G'' (m + 1) c2 r → TrimR G'' (n + 1) f' r, fun σ' H' z => ⟨m, by lia, z⟩, ?_⟩
        refine ⟨_, rfl, _, rfl, g, G', c, m, qs, ps, rfl, fu2.at'.same s3, fu2.ok, dp, by lia, by lia, fun c2 G2 H4 fr4 hg4 go4 e4 => ?_⟩
        have fu4 := (fu2.same s3).fr fr4 hg4 go4
        refine ⟨G2, c2, rfl, fr.trans ((Same.fr s3).trans fr4), fu4, (go.trans go4).mono (by lia), by lia, ⟨_, e4, by show (m : Int) + 1 = _; lia⟩, fun r G'' k' go5 t5 => ?_⟩
        exact tr r G'' _ (go4.trans go5) ⟨qs, ps, dp.app (go4.trans go5), .inr ⟨ba, c2, go5.get e4, t5⟩⟩
      · exact ⟨_, rfl, k c G' H3 (fr.trans (Same.fr s3)) (fu2.same s3) (go.mono (by lia)) (tr c G' 0 (Goes.refl fu2.ok) ⟨qs, ps, dp, .inl ⟨nba, rfl⟩⟩)⟩
def WidN (G : Gv) (n f : Nat) : Nat → Nat → Prop
  | 0, w => w = f
  | k + 1, w => ∃ u, WidN G n f k u ∧ Wid G (n + k) u w
theorem WidN.app {G G' : Gv} {m n f : Nat} (go : Goes G G' m) : ∀ {k w : Nat}, WidN G n f k w → WidN G' n f k w
  | 0, _, h => h
  | k + 1, w, h => by
    obtain ⟨u, h1, h2⟩ := h
    exact ⟨u, WidN.app go h1, h2.app go⟩
inductive SpWO (a : Ad) (vs : List V) (H : Hp) (Q : VK) : Prop
  | mk (g : GA) (G : Gv) (f n : Nat) (t : Addr) (x y wd ht : Int) (_ : vs = [.ref g.p, .int f, .ref t]) (_ : Full a H g G) (_ : LevAt G f ((n + 1 : Nat) : Int)) (_ : n ≤ 40) (_ : H t = some (.tup [.int x, .int y, .int wd, .int ht])) (_ : Lies x y wd ht (2 ^ 40)) (_ : G.length < 8700000) (_ : ∀ (k w : Nat) (G' : Gv) (H' : Hp), Fr g H H' → Full a H' g G' → Goes G G' (5 * k) → n + k ≤ 40 → WidN G' n f k w → LevAt G' w ((n + k + 1 : Nat) : Int) → Lies x y wd ht (2 ^ (n + k)) → (∀ j, j < k → ¬ Lies x y wd ht (2 ^ (n + j))) → Q (.int w) H') : SpWO a vs H Q
def spWO (a : Ad) : Sp := fun vs H Q _ => SpWO a vs H Q
theorem ok_wo {f : Addr} {fd : FuncData} (F : Fun K "widened_over" "widened_over" s_widened_over f fd) (T : Top K mg a) (C_lies_within : Cal P w K mg base CX0 1 "lies_within" p_lies_within spLie) (C_reach_of : Cal P w K mg base CX0 4 "reach_of" p_reach_of (spReach a)) (C_widened : Cal P w K mg base CX0 4 "widened" p_widened (spWid a)) : FnOk P w K mg base CX0 5 f fd p_widened_over (spWO a) := by
  refine F.ok sc_widened_over (fun vs H Q E h => ?_) (fun cdv A outer s H vs Q E hr h => ?_)
  · obtain ⟨g, G, f', n, t, x, y, wd, ht, rfl, _⟩ := h
    rfl
  · obtain ⟨g, G, f', n, t, x, y, wd, hh, rfl, fu, hl, n40, ht, li, few, k⟩ := h
    refine ⟨_, (@pss_cons _ _ _ _ _ (@ps_set _ _ (3) _ _ _ _ sc_widened_over.nd rfl (Or.inl rfl) (pv 1) rfl (by first | exact .inl rfl | exact .inr rfl | assumption)) (@pss_cons _ _ _ _ _ (@ps_while _ _ _ _ _ _ PassesOwn.never (@pt_not _ _ _ _ (@pt_val _ _ _ (@pe_cal _ _ _ _ _ _ _ _ _ _ _ _ C_lies_within (rm hr) rfl pass0 (@pa_cons _ _ _ _ _ (pv 2) (@pa_cons _ _ _ _ _ (@pe_cal _ _ _ _ _ _ _ _ _ _ _ _ C_reach_of (rm hr) rfl pass0 (@pa_cons _ _ _ _ _ (pv 0) (@pa_cons _ _ _ _ _ (pv 3) (@pa_nil _) rfl) rfl) (by decide) rfl rfl) (@pa_nil _) rfl) rfl) (by decide) rfl rfl) (by intro _ ; rfl))) (@pss_one _ _ _ (@ps_set _ _ (3) _ _ _ _ sc_widened_over.nd rfl (Or.inl rfl) (@pe_cal _ _ _ _ _ _ _ _ _ _ _ _ C_widened (rm hr) rfl pass0 (@pa_cons _ _ _ _ _ (pv 0) (@pa_cons _ _ _ _ _ (pv 3) (@pa_nil _) rfl) rfl) (by decide) rfl rfl) rfl (by first | exact .inl rfl | exact .inr rfl | assumption)))) (@pss_one _ _ _ (@ps_ret _ _ _ _ (pv 3))))), ?_⟩
    try dsimp only [cxK]
    refine ⟨_, rfl, ?_⟩
    refine ⟨fun m σ H2 => ∃ (G' : Gv) (c j : Nat), σ = [some (.ref g.p), some (.int f'), some (.ref t), some (.int c)] ∧ Fr g H H2 ∧ Full a H2 g G' ∧ Goes G G' (5 * j) ∧ n + j + m = 40 ∧ LevAt G' c ((n + j + 1 : Nat) : Int) ∧ WidN G' n f' j c ∧ ∀ i, i < j → ¬ Lies x y wd hh (2 ^ (n + i)), ⟨40 - n, G, f', 0, rfl, Fr.refl g H, fu, Goes.refl fu.ok, by lia, hl, rfl, fun i hi => absurd hi (Nat.not_lt_zero _)⟩, ?_⟩
    rintro m σ H2 ⟨G', c, j, rfl, fr, fu2, go, e40, lc, wn, no⟩
    have gf := go.few
    have ht2 := fr.tup fu.at' ht
    refine ⟨_, rfl, _, rfl, _, rfl, g, G', c, n + j, rfl, fu2.at', lc, by lia, t, x, y, wd, hh, _, rfl, ht2, _, rfl, ?_⟩
    by_cases hL : Lies x y wd hh (2 ^ (n + j))
    · rw [decide_eq_true hL]
      exact iteF ⟨_, rfl, k j c G' H2 fr fu2 go (by lia) wn lc hL no⟩
    · rw [decide_eq_false hL]
      have m0 : m ≠ 0 := fun z => by
        subst z
        have : n + j = 40 := by lia
        rw [this] at hL
        exact hL li
      refine iteT ⟨fun σ' H' => ∃ (G2 : Gv) (c2 j2 : Nat), σ' = [some (.ref g.p), some (.int f'), some (.ref t), some (.int c2)] ∧ Fr g H H' ∧ Full a H' g G2 ∧ Goes G G2 (5 * j2) ∧ n + j2 + (m - 1) = 40 ∧ LevAt G2 c2 ((n + j2 + 1 : Nat) : Int) ∧ WidN G2 n f' j2 c2 ∧ ∀ i, i < j2 → ¬ Lies x y wd hh (2 ^ (n + i)), fun σ' H' z => ⟨m - 1, by lia, z⟩, ?_⟩
      refine ⟨_, rfl, _, rfl, g, G', c, n + j, rfl, fu2, lc, by lia, by lia, fun c2 G2 H3 fr3 hg3 go3 wi => ?_⟩
      refine ⟨G2, c2, j + 1, rfl, fr.trans fr3, fu2.fr fr3 hg3 go3, (go.trans go3).mono (by lia), by lia, ?_, ⟨c, wn.app go3, wi⟩, fun i hi => ?_⟩
      · have := wi.lev
        rw [show n + (j + 1) + 1 = n + j + 2 by lia]
        exact this
      · rcases Nat.lt_succ_iff_lt_or_eq.mp hi with h | h
        · exact no i h
        · rw [h]
          exact hL
end
end J

namespace J
open PySem L2
def st4 (x y z w k j : Nat) (i : Nat) : Nat := if i = k then j else f4 x y z w i
def quad (l x y : Nat) : Nat := x / 2 ^ l + 2 * (y / 2 ^ l)
theorem half_lt {l x : Nat} (h : x < 2 ^ (l + 1)) : x / 2 ^ l < 2 := by
  rw [Nat.div_lt_iff_lt_mul (Nat.pow_pos (by decide)), Nat.mul_comm, ← Nat.pow_succ]
  exact h
theorem quad_lt {l x y : Nat} (hx : x < 2 ^ (l + 1)) (hy : y < 2 ^ (l + 1)) : quad l x y < 4 := by
  have h1 := half_lt hx
  have h2 := half_lt hy
  unfold quad
  lia
theorem pow_c (l : Nat) : ((2 ^ l : Nat) : Int) = (2 : Int) ^ l := Int.natCast_pow 2 l
theorem quad_c (l x y : Nat) : (x : Int) / 2 ^ l + 2 * ((y : Int) / 2 ^ l) = ((quad l x y : Nat) : Int) := by
  unfold quad
  rw [← pow_c, Int.natCast_add, Int.natCast_mul, Int.natCast_ediv, Int.natCast_ediv]
  rfl
theorem mod_c (l x : Nat) : (x : Int) % 2 ^ l = ((x % 2 ^ l : Nat) : Int) := by rw [← pow_c, Int.natCast_emod]
theorem set4 (x y z w j : Nat) {k : Nat} (hk : k < 4) : ([V.int (x : Int), V.int (y : Int), V.int (z : Int), V.int (w : Int)].set k (.int j)) = [V.int (st4 x y z w k j 0 : Int), V.int (st4 x y z w k j 1 : Int), V.int (st4 x y z w k j 2 : Int), V.int (st4 x y z w k j 3 : Int)] := by
  match k, hk with
  | 0, _ => rfl
  | 1, _ => rfl
  | 2, _ => rfl
  | 3, _ => rfl
def Rep (G : Gv) (s : Nat) : Nat → Nat → Nat → Nat → Nat → Prop
  | 0, _, _, _, r => r = s
  | l + 1, i, x, y, r => ∃ (q : Sq) (a b c d j : Nat), Node G l i q a b c d ∧ Rep G s l (f4 a b c d (quad l x y)) (x % 2 ^ l) (y % 2 ^ l) j ∧ G[r]? = some ⟨[(st4 a b c d (quad l x y) j 0 : Int), (st4 a b c d (quad l x y) j 1 : Int), (st4 a b c d (quad l x y) j 2 : Int), (st4 a b c d (quad l x y) j 3 : Int)], (l : Int) + 1⟩
theorem Rep.app {G G' : Gv} {m s : Nat} (go : Goes G G' m) : ∀ {l i x y r : Nat}, Rep G s l i x y r → Rep G' s l i x y r
  | 0, _, _, _, _, h => h
  | l + 1, i, x, y, r, h => by
    obtain ⟨q, a, b, c, d, j, nd, h1, e⟩ := h
    exact ⟨q, a, b, c, d, j, nd.app go, Rep.app go h1, go.get e⟩
theorem Rep.lev {G : Gv} (ok : GOk G) {s : Nat} (hs : s < 8) : ∀ {l i x y r : Nat}, Rep G s l i x y r → LevAt G r (l : Int)
  | 0, _, _, _, r, h => by
    have h : r = s := h
    subst h
    exact ⟨_, ok.leaf r hs, rfl⟩
  | l + 1, _, _, _, _, h => by
    obtain ⟨q, a, b, c, d, j, nd, h1, e⟩ := h
    exact ⟨_, e, by show (l : Int) + 1 = _; lia⟩
section
variable {P : Program} {w : World} {K : PySem.W.Frag} {mg : Str → Option Value} {base : Heap} {a : Ad}
inductive SpRep (a : Ad) (n : Nat) (vs : List V) (H : Hp) (Q : VK) : Prop
  | mk (g : GA) (G : Gv) (i l x y s : Nat) (_ : vs = [.ref g.p, .int i, .int x, .int y, .int s]) (_ : GroveAt a H g G) (_ : GOk G) (_ : LevAt G i (l : Int)) (_ : l < n) (_ : x < 2 ^ l) (_ : y < 2 ^ l) (_ : s < 8) (_ : G.length + l < 8900000) (_ : ∀ (r : Nat) (G' : Gv) (H' : Hp), Fr g H H' → GroveAt a H' g G' → Goes G G' l → Rep G' s l i x y r → Q (.int r) H') : SpRep a n vs H Q
def spRep (a : Ad) (n : Nat) : Sp := fun vs H Q _ => SpRep a n vs H Q
theorem ok_rep {f : Addr} {fd : FuncData} (F : Fun K "replaced" "replaced" s_replaced f fd) (T : Top K mg a) (hm : mg "replaced" = some (.ref f)) (Bi : Binds K fd p_replaced []) (M_Grove_leaf : CalM P w K mg base CX0 3 a.c_Grove "leaf" p_Grove_leaf (spLeaf a)) (M_Grove_linked : CalM P w K mg base CX0 2 a.c_Grove "linked" p_Grove_linked (spLink a)) : ∀ n, FnOk P w K mg base CX0 (n + 4) f fd p_replaced (spRep a n)
  | 0 => by
    refine F.ok sc_replaced (fun vs H Q E h => ?_) (fun cdv A outer s H vs Q E hr h => ?_)
    · obtain ⟨g, G, i, l, x, y, s, rfl, _, _, _, h0, _⟩ := h
      exact absurd h0 (Nat.not_lt_zero _)
    · obtain ⟨g, G, i, l, x, y, s, rfl, _, _, _, h0, _⟩ := h
      exact absurd h0 (Nat.not_lt_zero _)
  | n + 1 => by
    have C_replaced : Cal P w K mg base CX0 (n + 4) "replaced" p_replaced (spRep a n) := ⟨f, fd, ok_rep F T hm Bi M_Grove_leaf M_Grove_linked n, hm, F.kp, Bi⟩
    refine F.ok sc_replaced (fun vs H Q E h => ?_) (fun cdv A outer s H vs Q E hr h => ?_)
    · obtain ⟨g, G, i, l, x, y, s, rfl, _⟩ := h
      rfl
    · obtain ⟨g, G, i, l, x, y, st, rfl, hg, ok, hl, ln, hx, hy, s8, few, k⟩ := h
      obtain ⟨q0, e0, l0⟩ := id hl
      refine ⟨_, (@pss_cons _ _ _ _ _ (@ps_set _ _ (5) _ _ _ _ sc_replaced.nd rfl (Or.inl rfl) (@pe_ix _ _ _ _ _ _ _ (@ix_list _) (@pe_fld _ _ _ _ _ (pv 0) rfl) (pv 1) (fun _ _ => rfl)) rfl (by first | exact .inl rfl | exact .inr rfl | assumption)) (@pss_cons _ _ _ _ _ (@ps_if _ _ _ _ _ _ _ _ (@pt_cmpR _ _ _ _ _ _ _ _ (@op_eq _) (pv 5) (@pe_int _ _ _ _) (nomark _)) (@pss_one _ _ _ (@ps_ret _ _ _ _ (@pe_calm _ _ _ _ _ _ _ _ _ _ _ _ _ _ _ _ (pv 0) M_Grove_leaf (rm hr) pass0 (@pa_cons _ _ _ _ _ (pv 4) (@pa_nil _) rfl) rfl rfl rfl))) (@pss_nil _)) (@pss_cons _ _ _ _ _ (@ps_set _ _ (6) _ _ _ _ sc_replaced.nd rfl (Or.inl rfl) (@pe_op _ _ _ _ _ _ _ _ (@op_shl _) (@pe_int _ _ _ _) (@pe_op _ _ _ _ _ _ _ _ (@op_sub _) (pv 5) (@pe_int _ _ _ _))) rfl (by first | exact .inl rfl | exact .inr rfl | assumption)) (@pss_cons _ _ _ _ _ (@ps_set _ _ (7) _ _ _ _ sc_replaced.nd rfl (Or.inl rfl) (@pe_callTy _ _ _ _ _ _ _ _ _ (@call_list_of _) rfl T.b_list PyProof.Rows.boot_list (@pa_cons _ _ _ _ _ (@pe_ix _ _ _ _ _ _ _ (@ix_list _) (@pe_fld _ _ _ _ _ (pv 0) rfl) (pv 1) (fun _ _ => rfl)) (@pa_nil _) rfl) (by decide) (by decide) rfl rfl) rfl (by first | exact .inl rfl | exact .inr rfl | assumption)) (@pss_cons _ _ _ _ _ (@ps_set _ _ (8) _ _ _ _ sc_replaced.nd rfl (Or.inl rfl) (@pe_op _ _ _ _ _ _ _ _ (@op_add _) (@pe_op _ _ _ _ _ _ _ _ (@op_fdivB _) (pv 2) (pv 6)) (@pe_op _ _ _ _ _ _ _ _ (@op_mul _) (@pe_int _ _ _ _) (@pe_op _ _ _ _ _ _ _ _ (@op_fdivB _) (pv 3) (pv 6)))) rfl (by first | exact .inl rfl | exact .inr rfl | assumption)) (@pss_cons _ _ _ _ _ (@ps_asg _ _ _ _ _ _ (@pe_cal _ _ _ _ _ _ _ _ _ _ _ _ C_replaced (rm hr) rfl pass0 (@pa_cons _ _ _ _ _ (pv 0) (@pa_cons _ _ _ _ _ (@pe_ix _ _ _ _ _ _ _ (@ix_list _) (pv 7) (pv 8) (fun _ _ => rfl)) (@pa_op _ _ _ _ _ _ _ _ _ _ (@op_mod _) (pv 2) (pv 6) (@pa_op _ _ _ _ _ _ _ _ _ _ (@op_mod _) (pv 3) (pv 6) (@pa_cons _ _ _ _ _ (pv 4) (@pa_nil _) rfl))) rfl) rfl) (by decide) rfl rfl) (@pg_sub _ _ _ _ _ _ _ (pv 7) (pv 8) set_list (by intro _ ; rfl)) rfl rfl rfl) (@pss_one _ _ _ (@ps_ret _ _ _ _ (@pe_calm _ _ _ _ _ _ _ _ _ _ _ _ _ _ _ _ (pv 0) M_Grove_linked (rm hr) pass0 (@pa_cons _ _ _ _ _ (@pe_callTy _ _ _ _ _ _ _ _ _ (@call_tuple_of _) rfl T.b_tuple PyProof.Rows.boot_tuple (@pa_cons _ _ _ _ _ (pv 7) (@pa_nil _) rfl) (by decide) (by decide) rfl rfl) (@pa_nil _) rfl) rfl rfl rfl))))))))), ?_⟩
      try dsimp only [cxK]
      refine ⟨_, rfl, g.p, _, g.dx, _, _, rfl, hg.hp, T.cl_Grove, T.na_Grove_levels, fl6_lv g, _, rfl, g.lv, _, (i : Int), .int q0.lev, rfl, rfl, SqL.of hg.lv, atI_nat (by rw [List.getElem?_map, e0]; rfl), ?_⟩
      cases l with
      | zero =>
        rw [l0]
        exact ⟨_, rfl, rfl, _, rfl, iteT ⟨_, rfl, g.p, g.dx, _, rfl, hg.hp, no_leaf g, _, rfl, g.p, (st : Int), rfl, by lia, by lia, k st G H (Fr.refl g H) hg (Goes.refl ok) rfl⟩⟩
      | succ l =>
        have l0' : q0.lev = (l : Int) + 1 := by rw [l0]; lia
        have l48 := (ok.lev e0).2
        have lt64 := pow2_lt (l := l) (by lia)
        have lpos := pow2_nn l
        obtain ⟨q, p0, p1, p2, p3, nd⟩ := node_of ok hl
        obtain ⟨ts, t, h3, et, ht⟩ := part_at hg nd
        refine ⟨_, rfl, rfl, _, rfl, ?_⟩
        rw [decide_eq_false (by intro z; injection z with z; lia)]
        refine iteF ⟨_, rfl, _, _, rfl, rfl, _, _, rfl, rfl, ⟨by lia, by lia, by decide⟩, ?_⟩
        rw [show (fun (i j : Int) => V.int (i * 2 ^ j.toNat)) 1 (q0.lev - 1) = V.int (2 ^ l) from congrArg V.int (two_pow l l0')]
        refine ⟨_, rfl, g.p, _, g.dx, _, _, rfl, hg.hp, T.cl_Grove, T.na_Grove_parts, fl6_pt g, _, rfl, g.pt, _, (i : Int), .ref t, rfl, rfl, SqL.of h3, atI_nat et, t, _, rfl, .inr (SqT.of ht), fun L hL => ?_⟩
        have aL : Ap g L := Ap.new hg hL
        have s1 := same_up (o := .lst [.int p0, .int p1, .int p2, .int p3]) hL
        have hL1 : upd H L (.lst [.int p0, .int p1, .int p2, .int p3]) L = some (.lst [.int p0, .int p1, .int p2, .int p3]) := upd_same
        generalize upd H L (.lst [.int p0, .int p1, .int p2, .int p3]) = H1 at s1 hL1 ⊢
        have hg1 := hg.same s1
        have qk := quad_lt hx hy
        refine ⟨_, rfl, _, rfl, _, _, rfl, rfl, ⟨lpos, lt64⟩, _, rfl, _, rfl, _, _, rfl, rfl, ⟨lpos, lt64⟩, _, _, rfl, rfl, .inl ⟨by decide, by decide⟩, _, _, rfl, rfl, ?_⟩
        rw [show (fun (i j : Int) => V.int (i + j)) ((x : Int) / 2 ^ l) (2 * ((y : Int) / 2 ^ l)) = V.int ((quad l x y : Nat) : Int) from congrArg V.int (quad_c l x y)]
        have atq : [V.int (p0 : Int), V.int (p1 : Int), V.int (p2 : Int), V.int (p3 : Int)][quad l x y]? = some (.int (f4 p0 p1 p2 p3 (quad l x y) : Int)) := by
          generalize quad l x y = kk at qk ⊢
          match kk, qk with
          | 0, _ => rfl
          | 1, _ => rfl
          | 2, _ => rfl
          | 3, _ => rfl
        have lvq : LevAt G (f4 p0 p1 p2 p3 (quad l x y)) (l : Int) := (nd.nat qk).2
        refine ⟨_, rfl, _, rfl, _, rfl, L, _, ((quad l x y : Nat) : Int), .int (f4 p0 p1 p2 p3 (quad l x y) : Int), rfl, rfl, SqL.of hL1, atI_nat atq, _, rfl, _, rfl, _, _, rfl, rfl, lpos, _, rfl, _, rfl, _, _, rfl, rfl, lpos, _, rfl, ?_⟩
        refine ⟨g, G, f4 p0 p1 p2 p3 (quad l x y), l, x % 2 ^ l, y % 2 ^ l, st, by rw [← mod_c, ← mod_c]; rfl, hg1, ok, lvq, by lia, Nat.mod_lt _ (Nat.pow_pos (by decide)), Nat.mod_lt _ (Nat.pow_pos (by decide)), s8, by lia, fun j G1 H2 fr hg2 go rp => ?_⟩
        have gf := go.few
        have hL2 := fr.get aL hL1
        refine ⟨_, rfl, _, rfl, L, _, ((quad l x y : Nat) : Int), quad l x y, rfl, rfl, hL2, by unfold ixN; rw [if_pos (by lia), if_pos (by show ((quad l x y : Nat) : Int) < ((4 : Nat) : Int); lia), Int.toNat_natCast], ?_⟩
        rw [set4 p0 p1 p2 p3 j qk]
        have hg3 := hg2.put (o := .lst [V.int (st4 p0 p1 p2 p3 (quad l x y) j 0 : Int), V.int (st4 p0 p1 p2 p3 (quad l x y) j 1 : Int), V.int (st4 p0 p1 p2 p3 (quad l x y) j 2 : Int), V.int (st4 p0 p1 p2 p3 (quad l x y) j 3 : Int)]) hL2 aL.1 aL.2.1
        have hL3 : upd H2 L (.lst [V.int (st4 p0 p1 p2 p3 (quad l x y) j 0 : Int), V.int (st4 p0 p1 p2 p3 (quad l x y) j 1 : Int), V.int (st4 p0 p1 p2 p3 (quad l x y) j 2 : Int), V.int (st4 p0 p1 p2 p3 (quad l x y) j 3 : Int)]) L = some (.lst [V.int (st4 p0 p1 p2 p3 (quad l x y) j 0 : Int), V.int (st4 p0 p1 p2 p3 (quad l x y) j 1 : Int), V.int (st4 p0 p1 p2 p3 (quad l x y) j 2 : Int), V.int (st4 p0 p1 p2 p3 (quad l x y) j 3 : Int)]) := upd_same
        have fr3 : Fr g H (upd H2 L (.lst [V.int (st4 p0 p1 p2 p3 (quad l x y) j 0 : Int), V.int (st4 p0 p1 p2 p3 (quad l x y) j 1 : Int), V.int (st4 p0 p1 p2 p3 (quad l x y) j 2 : Int), V.int (st4 p0 p1 p2 p3 (quad l x y) j 3 : Int)])) := fun b o e m1 m2 m3 => by
          rw [upd_ne (ne_of_none e hL)]
          exact fr _ _ (s1 _ _ e) m1 m2 m3
        generalize upd H2 L (.lst [V.int (st4 p0 p1 p2 p3 (quad l x y) j 0 : Int), V.int (st4 p0 p1 p2 p3 (quad l x y) j 1 : Int), V.int (st4 p0 p1 p2 p3 (quad l x y) j 2 : Int), V.int (st4 p0 p1 p2 p3 (quad l x y) j 3 : Int)]) = H3 at hg3 hL3 fr3 ⊢
        refine ⟨_, rfl, g.p, g.dx, _, rfl, hg3.hp, no_linked g, _, rfl, L, _, rfl, .inl ⟨SqL.of hL3, fun t4 ht4 => ?_⟩⟩
        have s4 := same_up (o := .tup [V.int (st4 p0 p1 p2 p3 (quad l x y) j 0 : Int), V.int (st4 p0 p1 p2 p3 (quad l x y) j 1 : Int), V.int (st4 p0 p1 p2 p3 (quad l x y) j 2 : Int), V.int (st4 p0 p1 p2 p3 (quad l x y) j 3 : Int)]) ht4
        have ndG := nd.app go
        have lj := rp.lev go.ok s8
        have lst : ∀ ii, ii < 4 → LevAt G1 (st4 p0 p1 p2 p3 (quad l x y) j ii) (l : Int) := fun ii hi => by
          unfold st4
          split
          · exact lj
          · exact (ndG.nat hi).2
        refine ⟨g, G1, t4, _, _, _, _, (l : Int), rfl, hg3.same s4, go.ok, upd_same, ⟨lst 0 (by decide), lst 1 (by decide), lst 2 (by decide), lst 3 (by decide)⟩, by lia, by lia, fun r G2 H4 fr4 hg4 go4 e4 => ?_⟩
        exact k r G2 H4 (fr3.trans ((Same.fr s4).trans fr4)) hg4 (go.trans go4) ⟨q, p0, p1, p2, p3, j, nd.app (go.trans go4), rp.app go4, e4⟩
structure Planted (G : Gv) (n f : Nat) (x y : Int) (s r : Nat) (k w i : Nat) : Prop where
  le : n + k ≤ 40
  wid : WidN G n f k w
  lw : LevAt G w ((n + k + 1 : Nat) : Int)
  li : Lies x y 1 1 (2 ^ (n + k))
  no : ∀ j, j < k → ¬ Lies x y 1 1 (2 ^ (n + j))
  rep : Rep G s (n + k + 1) w (x + 2 ^ (n + k)).toNat (y + 2 ^ (n + k)).toNat i
  tr : TrimR G (n + k + 1) i r
theorem lies_lt {x y : Int} {m : Nat} (h : Lies x y 1 1 (2 ^ m)) : (x + 2 ^ m).toNat < 2 ^ (m + 1) ∧ (y + 2 ^ m).toNat < 2 ^ (m + 1) ∧ 0 ≤ x + 2 ^ m ∧ 0 ≤ y + 2 ^ m := by
  obtain ⟨h1, h2, h3, h4⟩ := h
  have e := pow_c (m + 1)
  rw [pow2_succ] at e
  have p := pow2_nn m
  refine ⟨?_, ?_, by lia, by lia⟩ <;> lia
inductive SpPlant (a : Ad) (vs : List V) (H : Hp) (Q : VK) : Prop
  | mk (g : GA) (G : Gv) (f n : Nat) (x y : Int) (s : Nat) (_ : vs = [.ref g.p, .int f, .int x, .int y, .int s]) (_ : Full a H g G) (_ : LevAt G f ((n + 1 : Nat) : Int)) (_ : n ≤ 40) (_ : Lies x y 1 1 (2 ^ 40)) (_ : s < 8) (_ : G.length < 8000000) (_ : ∀ (r k w i : Nat) (G' : Gv) (H' : Hp), Fr g H H' → Full a H' g G' → Goes G G' 400 → Planted G' n f x y s r k w i → Q (.int r) H') : SpPlant a vs H Q
def spPlant (a : Ad) : Sp := fun vs H Q _ => SpPlant a vs H Q
theorem ok_plant {f : Addr} {fd : FuncData} (F : Fun K "planted" "planted" s_planted f fd) (T : Top K mg a) (C_lies_within : Cal P w K mg base CX0 1 "lies_within" p_lies_within spLie) (C_is_state : Cal P w K mg base CX0 2 "is_state" p_is_state spIS) (C_reach_of : Cal P w K mg base CX0 4 "reach_of" p_reach_of (spReach a)) (C_widened_over : Cal P w K mg base CX0 5 "widened_over" p_widened_over (spWO a))
    (C_replaced : Cal P w K mg base CX0 54 "replaced" p_replaced (spRep a 50)) (C_trimmed : Cal P w K mg base CX0 4 "trimmed" p_trimmed (spTrim a)) : FnOk P w K mg base CX0 55 f fd p_planted (spPlant a) := by
  refine F.ok sc_planted (fun vs H Q E h => ?_) (fun cdv A outer s H vs Q E hr h => ?_)
  · obtain ⟨g, G, f', n, x, y, st, rfl, _⟩ := h
    rfl
  · obtain ⟨g, G, f', n, x, y, st, rfl, fu, hl, n40, li, s8, few, k⟩ := h
    refine ⟨_, (@pss_cons _ _ _ _ _ (@ps_set _ _ (5) _ _ _ _ sc_planted.nd rfl (Or.inl rfl) (@pe_tup _ _ _ _ _ (@pa_cons _ _ _ _ _ (pv 2) (@pa_cons _ _ _ _ _ (pv 3) (@pa_int _ _ _ _ _ _ (@pa_int _ _ _ _ _ _ (@pa_nil _))) rfl) rfl)) rfl (by first | exact .inl rfl | exact .inr rfl | assumption)) (@pss_cons _ _ _ _ _ (@ps_if _ _ _ _ _ _ _ _ (@pt_not _ _ _ _ (@pt_val _ _ _ (@pe_cal _ _ _ _ _ _ _ _ _ _ _ _ C_lies_within (rm hr) rfl pass0 (@pa_cons _ _ _ _ _ (pv 5) (@pa_cons _ _ _ _ _ (@pe_gint _ _ _ _ rfl T.k_LIMIT (by decide)) (@pa_nil _) rfl) rfl) (by decide) rfl rfl) (by intro _ ; rfl))) (@pss_one _ _ _ (@ps_never _ _)) (@pss_nil _)) (@pss_cons _ _ _ _ _ (@ps_if _ _ _ _ _ _ _ _ (@pt_not _ _ _ _ (@pt_val _ _ _ (@pe_cal _ _ _ _ _ _ _ _ _ _ _ _ C_is_state (rm hr) rfl pass0 (@pa_cons _ _ _ _ _ (pv 4) (@pa_nil _) rfl) (by decide) rfl rfl) (by intro _ ; rfl))) (@pss_one _ _ _ (@ps_never _ _)) (@pss_nil _)) (@pss_cons _ _ _ _ _ (@ps_set _ _ (6) _ _ _ _ sc_planted.nd rfl (Or.inl rfl) (@pe_cal _ _ _ _ _ _ _ _ _ _ _ _ C_widened_over (rm hr) rfl pass0 (@pa_cons _ _ _ _ _ (pv 0) (@pa_cons _ _ _ _ _ (pv 1) (@pa_cons _ _ _ _ _ (pv 5) (@pa_nil _) rfl) rfl) rfl) (by decide) rfl rfl) rfl (by first | exact .inl rfl | exact .inr rfl | assumption)) (@pss_cons _ _ _ _ _ (@ps_set _ _ (7) _ _ _ _ sc_planted.nd rfl (Or.inl rfl) (@pe_cal _ _ _ _ _ _ _ _ _ _ _ _ C_reach_of (rm hr) rfl pass0 (@pa_cons _ _ _ _ _ (pv 0) (@pa_cons _ _ _ _ _ (pv 6) (@pa_nil _) rfl) rfl) (by decide) rfl rfl) rfl (by first | exact .inl rfl | exact .inr rfl | assumption)) (@pss_one _ _ _ (@ps_ret _ _ _ _ (@pe_cal _ _ _ _ _ _ _ _ _ _ _ _ C_trimmed (rm hr) rfl pass0 (@pa_cons _ _ _ _ _ (pv 0) (@pa_cons _ _ _ _ _ (@pe_cal _ _ _ _ _ _ _ _ _ _ _ _ C_replaced (rm hr) rfl pass0 (@pa_cons _ _ _ _ _ (pv 0) (@pa_cons _ _ _ _ _ (pv 6) (@pa_op _ _ _ _ _ _ _ _ _ _ (@op_add _) (pv 2) (pv 7) (@pa_op _ _ _ _ _ _ _ _ _ _ (@op_add _) (pv 3) (pv 7) (@pa_cons _ _ _ _ _ (pv 4) (@pa_nil _) rfl))) rfl) rfl) (by decide) rfl rfl) (@pa_nil _) rfl) rfl) (by decide) rfl rfl)))))))), ?_⟩
    try dsimp only [cxK]
    refine ⟨_, rfl, _, rfl, (by show 4 ≤ sizeLine; decide), fun t ht => ?_⟩
    have s1 := same_up (o := .tup [.int x, .int y, .int 1, .int 1]) ht
    have ht1 : upd H t (.tup [.int x, .int y, .int 1, .int 1]) t = some (.tup [.int x, .int y, .int 1, .int 1]) := upd_same
    generalize upd H t (.tup [.int x, .int y, .int 1, .int 1]) = H1 at s1 ht1 ⊢
    have fu1 := fu.same s1
    refine ⟨_, rfl, t, x, y, 1, 1, _, rfl, ht1, _, rfl, ?_⟩
    rw [decide_eq_true (show Lies x y 1 1 1099511627776 from li)]
    refine iteF ⟨_, rfl, (st : Int), rfl, by lia, by lia, true, rfl, iteF ?_⟩
    refine ⟨_, rfl, _, rfl, _, rfl, g, G, f', n, t, x, y, 1, 1, rfl, fu1, hl, n40, ht1, li, by lia, fun kk w' G1 H2 fr2 fu2 go2 le wn lw lf no => ?_⟩
    have gf2 := go2.few
    refine ⟨_, rfl, _, rfl, g, G1, w', n + kk, rfl, fu2.at', lw, by lia, ?_⟩
    obtain ⟨b1, b2, b3, b4⟩ := lies_lt lf
    refine ⟨_, rfl, _, rfl, _, rfl, _, rfl, _, rfl, _, _, rfl, rfl, _, rfl, _, rfl, _, _, rfl, rfl, _, rfl, ?_⟩
    refine ⟨g, G1, w', n + kk + 1, (x + 2 ^ (n + kk)).toNat, (y + 2 ^ (n + kk)).toNat, st, by rw [Int.toNat_of_nonneg b3, Int.toNat_of_nonneg b4]; rfl, fu2.at', fu2.ok, lw, by lia, b1, b2, s8, by lia, fun i' G2 H3 fr3 hg3 go3 rp => ?_⟩
    have gf3 := go3.few
    have fu3 := fu2.fr fr3 hg3 go3
    have li' := rp.lev go3.ok s8
    refine ⟨g, G2, i', n + kk, rfl, fu3, li', by lia, fun r G3 H4 fr4 fu4 go4 tr => ?_⟩
    have go34 := go3.trans go4
    exact k r kk w' i' G3 H4 ((Same.fr s1).trans (fr2.trans (fr3.trans fr4))) fu4 ((go2.trans go34).mono (by lia)) ⟨le, wn.app go34, go34.lev lw, lf, no, rp.app go4, tr⟩
end
end J

namespace J
open PySem L2
structure Cl where
  x : Int
  y : Int
  s : Nat
def ClAt (H : Hp) (t : Addr) (c : Cl) : Prop := H t = some (.tup [.int c.x, .int c.y, .int c.s])
structure ClOk (c : Cl) : Prop where
  li : Lies c.x c.y 1 1 (2 ^ 40)
  s : c.s < 8
theorem Planted.app {G G' : Gv} {m n f : Nat} {x y : Int} {s r k w i : Nat} (go : Goes G G' m) (h : Planted G n f x y s r k w i) : Planted G' n f x y s r k w i := ⟨h.le, h.wid.app go, go.lev h.lw, h.li, h.no, h.rep.app go, h.tr.app go⟩
inductive FldR (G : Gv) : List Cl → Nat → Nat → Prop
  | nil : FldR G [] 0 (bareN 1)
  | cons {cs : List Cl} {c : Cl} {n f r k w i m : Nat} (h : FldR G cs n f) (l : LevAt G f ((n + 1 : Nat) : Int)) (p : Planted G n f c.x c.y c.s r k w i) (l' : LevAt G r ((m + 1 : Nat) : Int)) : FldR G (c :: cs) m r
theorem FldR.app {G G' : Gv} {m : Nat} (go : Goes G G' m) {cs : List Cl} {n f : Nat} (h : FldR G cs n f) : FldR G' cs n f := by
  induction h with
  | nil => exact .nil
  | cons _ l p l' ih => exact .cons ih (go.lev l) (p.app go) (go.lev l')
section
variable {P : Program} {w : World} {K : PySem.W.Frag} {mg : Str → Option Value} {base : Heap} {a : Ad}
inductive SpFld (a : Ad) (vs : List V) (H : Hp) (Q : VK) : Prop
  | mk (g : GA) (G : Gv) (L : Addr) (ts : List Addr) (cs : List Cl) (_ : vs = [.ref g.p, .ref L]) (_ : Full a H g G) (_ : H L = some (.lst (ts.map V.ref))) (_ : L ≠ g.lv) (_ : L ≠ g.pt) (_ : Paired (ClAt H) ts cs) (_ : (∀ c ∈ cs, ClOk c)) (_ : G.length + 400 * cs.length < 8000000) (_ : ∀ (f n : Nat) (G' : Gv) (H' : Hp), Fr g H H' → Full a H' g G' → Goes G G' (400 * cs.length) → n ≤ 40 → LevAt G' f ((n + 1 : Nat) : Int) → FldR G' cs.reverse n f → Q (.int f) H') : SpFld a vs H Q
def spFld (a : Ad) : Sp := fun vs H Q _ => SpFld a vs H Q
theorem ok_fld {f : Addr} {fd : FuncData} (F : Fun K "field_of" "field_of" s_field_of f fd) (T : Top K mg a) (C_bare_field : Cal P w K mg base CX0 1 "bare_field" p_bare_field (spBareF a)) (C_planted : Cal P w K mg base CX0 55 "planted" p_planted (spPlant a)) : FnOk P w K mg base CX0 56 f fd p_field_of (spFld a) := by
  refine F.ok sc_field_of (fun vs H Q E h => ?_) (fun cdv A outer s H vs Q E hr h => ?_)
  · obtain ⟨g, G, L, ts, cs, rfl, _⟩ := h
    rfl
  · obtain ⟨g, G, L, ts, cs, rfl, fu, hL, n1, n2, pr, oks, few, k⟩ := h
    obtain ⟨r0, e0⟩ := fu.g0
    have lts := Paired.length pr
    refine ⟨_, (@pss_cons _ _ _ _ _ (@ps_set _ _ (2) _ _ _ _ sc_field_of.nd rfl (Or.inl rfl) (@pe_cal _ _ _ _ _ _ _ _ _ _ _ _ C_bare_field (rm hr) rfl pass0 (@pa_cons _ _ _ _ _ (pv 0) (@pa_nil _) rfl) (by decide) rfl rfl) rfl (by first | exact .inl rfl | exact .inr rfl | assumption)) (@pss_cons _ _ _ _ _ (@ps_for _ _ _ _ _ _ _ _ PassesOwn.never rfl (@pi_list _ _ _ _ (pv 1)) (@pg_name _ _ (3) _ sc_field_of.nd rfl (Or.inl rfl) (by first | exact .inl rfl | exact .inr rfl | assumption)) (@pss_one _ _ _ (@ps_set _ _ (2) _ _ _ _ sc_field_of.nd rfl (Or.inl rfl) (@pe_cal _ _ _ _ _ _ _ _ _ _ _ _ C_planted (rm hr) rfl pass0 (@pa_cons _ _ _ _ _ (pv 0) (@pa_cons _ _ _ _ _ (pv 2) (@pa_cons _ _ _ _ _ (@pe_ix _ _ _ _ _ _ _ (@ix_tup _) (pv 3) (@pe_int _ _ _ _) (fun _ _ => rfl)) (@pa_cons _ _ _ _ _ (@pe_ix _ _ _ _ _ _ _ (@ix_tup _) (pv 3) (@pe_int _ _ _ _) (fun _ _ => rfl)) (@pa_cons _ _ _ _ _ (@pe_ix _ _ _ _ _ _ _ (@ix_tup _) (pv 3) (@pe_int _ _ _ _) (fun _ _ => rfl)) (@pa_nil _) rfl) rfl) rfl) rfl) rfl) (by decide) rfl rfl) rfl (by first | exact .inl rfl | exact .inr rfl | assumption))) (by intro _ ; rfl)) (@pss_one _ _ _ (@ps_ret _ _ _ _ (pv 2))))), ?_⟩
    try dsimp only [cxK]
    refine ⟨_, rfl, g, G, rfl, fu, ?_⟩
    refine ⟨_, rfl, L, rfl, ⟨_, SqL.of hL⟩, ?_⟩
    refine for_list (xs := ts.map V.ref) (fun j σ H2 => ∃ (G' : Gv) (f n : Nat) (u3 : Option V), σ = [some (.ref g.p), some (.ref L), some (.int f), u3] ∧ Fr g H H2 ∧ Full a H2 g G' ∧ Goes G G' (400 * j) ∧ n ≤ 40 ∧ LevAt G' f ((n + 1 : Nat) : Int) ∧ FldR G' (cs.take j).reverse n f) ⟨G, bareN 1, 0, none, rfl, Fr.refl g H, fu, Goes.refl fu.ok, by lia, bare_lev e0 (by lia), .nil⟩ (fun j σ H2 _ ⟨_, _, _, _, _, fr, _⟩ => SqL.of (fr _ _ hL n1 n2 (ne_of hL fu.at'.nm (by intro z; cases z)))) ?_ ?_
    · rintro j v σ H2 ev ⟨G', f', n, u3, rfl, fr, fu2, go, n40, lf, fl⟩
      rw [List.getElem?_map] at ev
      obtain ⟨t, et, rfl⟩ := Option.map_eq_some_iff.mp ev
      obtain ⟨c, ec, hc⟩ := PairedM.getL pr et
      have cok := oks c (List.mem_of_getElem? ec)
      have hj : j < cs.length := (List.getElem?_eq_some_iff.mp ec).1
      have hc2 := fr.tup fu.at' hc
      have gf := go.few
      refine ⟨_, rfl, _, rfl, _, rfl, t, _, 0, .int c.x, rfl, rfl, SqT.of hc2, atI_nat (j := 0) rfl, _, rfl, t, _, 1, .int c.y, rfl, rfl, SqT.of hc2, atI_nat (j := 1) rfl, _, rfl, t, _, 2, .int c.s, rfl, rfl, SqT.of hc2, atI_nat (j := 2) rfl, ?_⟩
      refine ⟨g, G', f', n, c.x, c.y, c.s, rfl, fu2, lf, n40, cok.li, cok.s, by lia, fun r kk w' i' G2 H3 fr3 fu3 go3 pl => ?_⟩
      have li' := pl.rep.lev fu3.ok cok.s
      obtain ⟨m, lm, lr⟩ := TrimR.lev li' pl.tr
      have le := pl.le
      refine ⟨G2, r, m, _, rfl, fr.trans fr3, fu3, (go.trans go3).mono (by lia), by lia, lr, ?_⟩
      rw [List.take_add_one, ec, Option.toList_some, List.reverse_append]
      exact .cons (fl.app go3) (go3.lev lf) pl lr
    · rintro σ H2 ⟨G', f', n, u3, rfl, fr, fu2, go, n40, lf, fl⟩
      rw [List.length_map, lts] at go fl
      rw [List.take_length] at fl
      exact ⟨_, rfl, k f' n G' H2 fr fu2 go n40 lf fl⟩
end
def Trim (G : Gv) (n f : Nat) : Prop := n = 0 ∨ ∃ m qs ps, n = m + 1 ∧ Deep G m f qs ps ∧ ¬ BA m ps
theorem Trim.app {G G' : Gv} {k n f : Nat} (go : Goes G G' k) (h : Trim G n f) : Trim G' n f := by
  rcases h with h | ⟨m, qs, ps, e, d, b⟩
  · exact .inl h
  · exact .inr ⟨m, qs, ps, e, d.app go, b⟩
end J

namespace J
open PySem L2
def cellF (G : Gv) : Nat → Nat → Nat → Nat → Nat
  | 0, i, _, _ => i
  | n + 1, i, x, y => match G[i]? with
    | some q => cellF G n (q.parts.getD (quad n x y) 0).toNat (x % 2 ^ n) (y % 2 ^ n)
    | none => 0
theorem two_pos (n : Nat) : 0 < 2 ^ n := Nat.pow_pos (by decide)
theorem cell_node {G : Gv} {n i : Nat} {q : Sq} {a b c d : Nat} (h : Node G n i q a b c d) {x y : Nat} (hx : x < 2 ^ (n + 1)) (hy : y < 2 ^ (n + 1)) : cellF G (n + 1) i x y = cellF G n (f4 a b c d (quad n x y)) (x % 2 ^ n) (y % 2 ^ n) := by
  rw [show cellF G (n + 1) i x y = (match G[i]? with | some q => cellF G n (q.parts.getD (quad n x y) 0).toNat (x % 2 ^ n) (y % 2 ^ n) | none => 0) from rfl, h.g]
  show cellF G n (q.parts.getD (quad n x y) 0).toNat _ _ = _
  have := (h.nat (quad_lt hx hy)).1
  rw [List.getD_eq_getElem?_getD, this]
  rfl
theorem cell_app {G G' : Gv} {k : Nat} (ok : GOk G) (go : Goes G G' k) : ∀ {n i x y : Nat}, LevAt G i (n : Int) → x < 2 ^ n → y < 2 ^ n → cellF G' n i x y = cellF G n i x y
  | 0, _, _, _, _, _, _ => rfl
  | n + 1, i, x, y, h, hx, hy => by
    obtain ⟨q, a, b, c, d, nd⟩ := node_of ok h
    rw [cell_node nd hx hy, cell_node (nd.app go) hx hy]
    exact cell_app ok go (nd.nat (quad_lt hx hy)).2 (Nat.mod_lt _ (two_pos n)) (Nat.mod_lt _ (two_pos n))
theorem cell_bare {G r : Gv} (e : G = G0 ++ r) (ok : GOk G) : ∀ {n x y : Nat}, n ≤ 48 → x < 2 ^ n → y < 2 ^ n → cellF G n (bareN n) x y = 0
  | 0, _, _, _, _, _ => rfl
  | n + 1, x, y, hn, hx, hy => by
    obtain ⟨q, a, b, c, d, nd⟩ := node_of ok (bare_lev e (n := n + 1) hn)
    have bn : a = bareN n ∧ b = bareN n ∧ c = bareN n ∧ d = bareN n := by
      have g := nd.g
      rw [show bareN (n + 1) = 8 + n from rfl, g0_pre e n (by lia)] at g
      cases g
      have s : [(bareN n : Int), (bareN n : Int), (bareN n : Int), (bareN n : Int)] = [(a : Int), (b : Int), (c : Int), (d : Int)] := nd.ps
      injection s with s0 s
      injection s with s1 s
      injection s with s2 s
      injection s with s3 s
      exact ⟨(Int.ofNat.inj s0).symm, (Int.ofNat.inj s1).symm, (Int.ofNat.inj s2).symm, (Int.ofNat.inj s3).symm⟩
    obtain ⟨rfl, rfl, rfl, rfl⟩ := bn
    rw [cell_node nd hx hy]
    have : f4 (bareN n) (bareN n) (bareN n) (bareN n) (quad n x y) = bareN n := by unfold f4; split <;> rfl
    rw [this]
    exact cell_bare e ok (by lia) (Nat.mod_lt _ (two_pos n)) (Nat.mod_lt _ (two_pos n))
theorem in_quarter {n k x y : Nat} (hk : k < 4) (hx : x < 2 ^ n) (hy : y < 2 ^ n) : (x + 2 ^ n * (k % 2)) < 2 ^ (n + 1) ∧ (y + 2 ^ n * (k / 2)) < 2 ^ (n + 1) ∧ quad n (x + 2 ^ n * (k % 2)) (y + 2 ^ n * (k / 2)) = k ∧ (x + 2 ^ n * (k % 2)) % 2 ^ n = x ∧ (y + 2 ^ n * (k / 2)) % 2 ^ n = y := by
  have p := two_pos n
  have e : 2 ^ (n + 1) = 2 * 2 ^ n := by rw [Nat.pow_succ]; lia
  unfold quad
  rw [Nat.add_mul_div_left _ _ p, Nat.add_mul_div_left _ _ p, Nat.add_mul_mod_self_left, Nat.add_mul_mod_self_left, Nat.div_eq_of_lt hx, Nat.div_eq_of_lt hy, Nat.mod_eq_of_lt hx, Nat.mod_eq_of_lt hy, e]
  generalize 2 ^ n = h at *
  match k, hk with
  | 0, _ => exact ⟨by lia, by lia, rfl, rfl, rfl⟩
  | 1, _ => exact ⟨by lia, by lia, rfl, rfl, rfl⟩
  | 2, _ => exact ⟨by lia, by lia, rfl, rfl, rfl⟩
  | 3, _ => exact ⟨by lia, by lia, rfl, rfl, rfl⟩
theorem cell_uniq {G : Gv} (ok : GOk G) : ∀ {n i j : Nat}, LevAt G i (n : Int) → LevAt G j (n : Int) → (∀ x y, x < 2 ^ n → y < 2 ^ n → cellF G n i x y = cellF G n j x y) → i = j
  | 0, i, j, _, _, h => h 0 0 (by decide) (by decide)
  | n + 1, i, j, hi, hj, h => by
    obtain ⟨q, a, b, c, d, nd⟩ := node_of ok hi
    obtain ⟨q', a', b', c', d', nd'⟩ := node_of ok hj
    have key : ∀ k, k < 4 → f4 a b c d k = f4 a' b' c' d' k := fun k hk => by
      refine cell_uniq ok (nd.nat hk).2 (nd'.nat hk).2 fun x y hx hy => ?_
      obtain ⟨h1, h2, h3, h4, h5⟩ := in_quarter hk hx hy
      have := h _ _ h1 h2
      rw [cell_node nd h1 h2, cell_node nd' h1 h2, h3, h4, h5] at this
      exact this
    have k0 : a = a' := key 0 (by decide)
    have k1 : b = b' := key 1 (by decide)
    have k2 : c = c' := key 2 (by decide)
    have k3 : d = d' := key 3 (by decide)
    subst k0 k1 k2 k3
    exact ok.one nd.g nd'.g (nd.ps.trans nd'.ps.symm)
theorem split_eq {n x X : Nat} (h1 : x / 2 ^ n = X / 2 ^ n) (h2 : x % 2 ^ n = X % 2 ^ n) : x = X := by
  rw [← Nat.div_add_mod x (2 ^ n), ← Nat.div_add_mod X (2 ^ n), h1, h2]
theorem rep_cell {G : Gv} (ok : GOk G) {s : Nat} (hs : s < 8) : ∀ {n i X Y r x y : Nat}, X < 2 ^ n → Y < 2 ^ n → x < 2 ^ n → y < 2 ^ n → Rep G s n i X Y r → cellF G n r x y = if x = X ∧ y = Y then s else cellF G n i x y
  | 0, i, X, Y, r, x, y, hX, hY, hx, hy, h => by
    have h : r = s := h
    have e1 : X = 0 := Nat.lt_one_iff.mp hX
    have e2 : Y = 0 := Nat.lt_one_iff.mp hY
    have e3 : x = 0 := Nat.lt_one_iff.mp hx
    have e4 : y = 0 := Nat.lt_one_iff.mp hy
    subst e1 e2 e3 e4 h
    rfl
  | n + 1, i, X, Y, r, x, y, hX, hY, hx, hy, h => by
    obtain ⟨q, a, b, c, d, j, nd, h1, e⟩ := h
    have lj := h1.lev ok hs
    have lst : ∀ ii, ii < 4 → LevAt G (st4 a b c d (quad n X Y) j ii) (n : Int) := fun ii hi => by
      unfold st4
      split
      · exact lj
      · exact (nd.nat hi).2
    have nr : Node G n r _ (st4 a b c d (quad n X Y) j 0) (st4 a b c d (quad n X Y) j 1) (st4 a b c d (quad n X Y) j 2) (st4 a b c d (quad n X Y) j 3) := ⟨e, rfl, rfl, lst 0 (by decide), lst 1 (by decide), lst 2 (by decide), lst 3 (by decide)⟩
    have qk := quad_lt hx hy
    rw [cell_node nr hx hy, cell_node nd hx hy, f4_fun (st4 a b c d (quad n X Y) j) qk]
    have m := two_pos n
    have x2 := half_lt hx
    have y2 := half_lt hy
    have X2 := half_lt hX
    have Y2 := half_lt hY
    unfold st4
    by_cases hq : quad n x y = quad n X Y
    · rw [if_pos hq, rep_cell ok hs (Nat.mod_lt _ m) (Nat.mod_lt _ m) (Nat.mod_lt _ m) (Nat.mod_lt _ m) h1, hq]
      have exy : x / 2 ^ n = X / 2 ^ n ∧ y / 2 ^ n = Y / 2 ^ n := by
        unfold quad at hq
        generalize x / 2 ^ n = A at *
        generalize X / 2 ^ n = B at *
        generalize y / 2 ^ n = C at *
        generalize Y / 2 ^ n = D at *
        lia
      obtain ⟨ex, ey⟩ := exy
      by_cases hxy : x = X ∧ y = Y
      · rw [if_pos hxy, if_pos ⟨by rw [hxy.1], by rw [hxy.2]⟩]
      · rw [if_neg hxy, if_neg fun z => hxy ⟨split_eq ex z.1, split_eq ey z.2⟩]
    · rw [if_neg hq, if_neg fun z => hq (by rw [z.1, z.2])]
def fieldF (G : Gv) (n f : Nat) (x y : Int) : Nat := if -(2 ^ n) ≤ x ∧ x < 2 ^ n ∧ -(2 ^ n) ≤ y ∧ y < 2 ^ n then cellF G (n + 1) f (x + 2 ^ n).toNat (y + 2 ^ n).toNat else 0
theorem to_lt {n : Nat} {x : Int} (h0 : -(2 ^ n) ≤ x) (h1 : x < 2 ^ n) : (x + 2 ^ n).toNat < 2 ^ (n + 1) := by
  have e := pow_c (n + 1)
  rw [pow2_succ] at e
  lia
theorem field_app {G G' : Gv} {k n f : Nat} (ok : GOk G) (go : Goes G G' k) (h : LevAt G f ((n + 1 : Nat) : Int)) (x y : Int) : fieldF G' n f x y = fieldF G n f x y := by
  unfold fieldF
  split
  · rename_i z
    exact cell_app ok go h (to_lt z.1 z.2.1) (to_lt z.2.2.1 z.2.2.2)
  · rfl
theorem mod_sub {h X : Nat} (u : Nat) (h1 : h * u ≤ X) (h2 : X < h * (u + 1)) : X / h = u ∧ X % h = X - h * u := by
  have e : X / h = u := Nat.div_eq_of_lt_le (by rw [Nat.mul_comm]; exact h1) (by rw [Nat.mul_comm]; exact h2)
  exact ⟨e, by have := Nat.div_add_mod X h; rw [e] at this; lia⟩
end J

namespace J
open PySem L2
theorem mod_down (x n : Nat) : x % 2 ^ (n + 1) % 2 ^ n = x % 2 ^ n := Nat.mod_mod_of_dvd x ⟨2, by rw [Nat.pow_succ]⟩
theorem deep_cell {G : Gv} {n i : Nat} {qs : Nat → Nat} {ps : Nat → Nat → Nat} (h : Deep G n i qs ps) {x y : Nat} (hx : x < 2 ^ (n + 2)) (hy : y < 2 ^ (n + 2)) : cellF G (n + 2) i x y = cellF G n (ps (quad (n + 1) x y) (quad n (x % 2 ^ (n + 1)) (y % 2 ^ (n + 1)))) (x % 2 ^ n) (y % 2 ^ n) := by
  obtain ⟨q, nd⟩ := h.node
  have qk := quad_lt (l := n + 1) hx hy
  have hx1 : x % 2 ^ (n + 1) < 2 ^ (n + 1) := Nat.mod_lt _ (two_pos _)
  have hy1 : y % 2 ^ (n + 1) < 2 ^ (n + 1) := Nat.mod_lt _ (two_pos _)
  obtain ⟨q', nk⟩ := h.sub _ qk
  rw [cell_node nd hx hy, f4_fun qs qk, cell_node nk hx1 hy1, f4_fun (ps _) (quad_lt hx1 hy1), mod_down, mod_down]
theorem bits {h u : Nat} (hu : u < 2 * h) : (u + h) / (2 * h) = u / h ∧ (u + h) % (2 * h) / h = 1 - u / h ∧ (u + h) % h = u % h ∧ u / h < 2 := by
  have p : 0 < h := by lia
  rcases Nat.lt_or_ge u h with z | z
  · have e1 : u / h = 0 := Nat.div_eq_of_lt z
    have e2 : (u + h) / (2 * h) = 0 := Nat.div_eq_of_lt (by lia)
    have e3 : (u + h) % (2 * h) = u + h := Nat.mod_eq_of_lt (by lia)
    have e4 : (u + h) / h = 1 := (mod_sub (X := u + h) 1 (by lia) (by lia)).1
    exact ⟨by rw [e1, e2], by rw [e3, e4, e1], Nat.add_mod_right u h, by lia⟩
  · have e1 : u / h = 1 := (mod_sub 1 (by lia) (by lia)).1
    have e2 := mod_sub (h := 2 * h) (X := u + h) 1 (by lia) (by lia)
    have e3 : (u + h - 2 * h * 1) / h = 0 := Nat.div_eq_of_lt (by lia)
    exact ⟨by rw [e1, e2.1], by rw [e2.2, e3, e1], Nat.add_mod_right u h, by lia⟩
theorem pow_s (n : Nat) : 2 ^ (n + 1) = 2 * 2 ^ n := by rw [Nat.pow_succ]; lia
theorem mid_cell {G : Gv} (ok : GOk G) {n i m : Nat} {qs : Nat → Nat} {ps : Nat → Nat → Nat} (h : Deep G n i qs ps) (em : G[m]? = some ⟨[(ps 0 3 : Int), (ps 1 2 : Int), (ps 2 1 : Int), (ps 3 0 : Int)], (n : Int) + 1⟩) {u v : Nat} (hu : u < 2 ^ (n + 1)) (hv : v < 2 ^ (n + 1)) : cellF G (n + 2) i (u + 2 ^ n) (v + 2 ^ n) = cellF G (n + 1) m u v := by
  have lp : ∀ k j, k < 4 → j < 4 → LevAt G (ps k j) (n : Int) := fun k j hk hj => by
    obtain ⟨q, nk⟩ := h.sub k hk
    have := (nk.nat hj).2
    rw [f4_fun (ps k) hj] at this
    exact this
  have nm : Node G n m _ (ps 0 3) (ps 1 2) (ps 2 1) (ps 3 0) := ⟨em, rfl, rfl, lp 0 3 (by decide) (by decide), lp 1 2 (by decide) (by decide), lp 2 1 (by decide) (by decide), lp 3 0 (by decide) (by decide)⟩
  have e1 := pow_s n
  have e2 : 2 ^ (n + 2) = 2 * 2 ^ (n + 1) := pow_s (n + 1)
  have p := two_pos n
  rw [deep_cell h (by lia) (by lia), cell_node nm hu hv]
  unfold quad
  rw [e1]
  rw [e1] at hu hv
  obtain ⟨a1, a2, a3, a4⟩ := bits hu
  obtain ⟨b1, b2, b3, b4⟩ := bits hv
  rw [a1, a2, a3, b1, b2, b3]
  have two : ∀ {A : Nat}, A < 2 → A = 0 ∨ A = 1 := fun {A} h => by lia
  have hu2 := two a4
  have hv2 := two b4
  rcases hu2 with z | z <;> rcases hv2 with z' | z' <;> rw [z, z'] <;> rfl
theorem mid_iff' {m X Y : Nat} {x y : Int} (eX : (X : Int) = x + 2 ^ (m + 1)) (eY : (Y : Int) = y + 2 ^ (m + 1)) (hX : X < 2 ^ (m + 2)) (hY : Y < 2 ^ (m + 2)) : quad m (X % 2 ^ (m + 1)) (Y % 2 ^ (m + 1)) + quad (m + 1) X Y = 3 ↔ (-(2 ^ m) ≤ x ∧ x < 2 ^ m ∧ -(2 ^ m) ≤ y ∧ y < 2 ^ m) := by
  have p := two_pos m
  have e1 := pow_s m
  have e2 : 2 ^ (m + 2) = 2 * 2 ^ (m + 1) := pow_s (m + 1)
  have c1 := pow_c m
  have c2 := pow_c (m + 1)
  rw [e1] at c2
  unfold quad
  rw [e1]
  rw [e2, e1] at hX hY
  rw [← c2] at eX eY
  rw [← c1]
  generalize 2 ^ m = h at *
  have key : ∀ {X : Nat} {x : Int}, (X : Int) = x + ((2 * h : Nat) : Int) → X < 2 * (2 * h) → (X % (2 * h) / h + X / (2 * h) = 1 ↔ -(h : Int) ≤ x ∧ x < (h : Int)) ∧ X % (2 * h) / h < 2 ∧ X / (2 * h) < 2 := by
    intro X x e l
    have h2 : 0 < 2 * h := by lia
    have q2 : X / (2 * h) < 2 := by rw [Nat.div_lt_iff_lt_mul h2]; exact l
    have r2 : X % (2 * h) < 2 * h := Nat.mod_lt _ h2
    have q1 : X % (2 * h) / h < 2 := by rw [Nat.div_lt_iff_lt_mul p]; exact r2
    have d2 := Nat.div_add_mod X (2 * h)
    have d1 := Nat.div_add_mod (X % (2 * h)) h
    have m1 := Nat.mod_lt (X % (2 * h)) p
    refine ⟨?_, q1, q2⟩
    generalize X / (2 * h) = u at *
    generalize X % (2 * h) / h = v at *
    generalize X % (2 * h) % h = t at *
    generalize X % (2 * h) = rr at *
    have hu : u = 0 ∨ u = 1 := by lia
    have hv : v = 0 ∨ v = 1 := by lia
    rcases hu with rfl | rfl <;> rcases hv with rfl | rfl <;> simp only [Nat.mul_zero, Nat.mul_one, Nat.zero_add] at d1 d2 <;> lia
  obtain ⟨kx, x1, x2⟩ := key eX hX
  obtain ⟨ky, y1, y2⟩ := key eY hY
  clear key
  generalize X % (2 * h) / h = A at *
  generalize X / (2 * h) = B at *
  generalize Y % (2 * h) / h = C at *
  generalize Y / (2 * h) = D at *
  constructor
  · intro z
    have zx := kx.mp (by lia)
    have zy := ky.mp (by lia)
    exact ⟨zx.1, zx.2, zy.1, zy.2⟩
  · rintro ⟨z1, z2, z3, z4⟩
    have zx := kx.mpr ⟨z1, z2⟩
    have zy := ky.mpr ⟨z3, z4⟩
    lia
theorem mid_field {G r : Gv} (e0 : G = G0 ++ r) (ok : GOk G) {n i m : Nat} (hn : n ≤ 46) {qs : Nat → Nat} {ps : Nat → Nat → Nat} (h : Deep G n i qs ps) (ba : BA n ps) (em : G[m]? = some ⟨[(ps 0 3 : Int), (ps 1 2 : Int), (ps 2 1 : Int), (ps 3 0 : Int)], (n : Int) + 1⟩) (x y : Int) : fieldF G (n + 1) i x y = fieldF G n m x y := by
  have s1 := pow2_succ n
  have p := pow2_nn n
  unfold fieldF
  by_cases hin : -(2 ^ n) ≤ x ∧ x < 2 ^ n ∧ -(2 ^ n) ≤ y ∧ y < 2 ^ n
  · obtain ⟨a1, a2, a3, a4⟩ := hin
    rw [if_pos ⟨by lia, by lia, by lia, by lia⟩, if_pos ⟨a1, a2, a3, a4⟩]
    have hu := to_lt a1 a2
    have hv := to_lt a3 a4
    have c := pow_c n
    have ex : (x + 2 ^ (n + 1)).toNat = (x + 2 ^ n).toNat + 2 ^ n := by lia
    have ey : (y + 2 ^ (n + 1)).toNat = (y + 2 ^ n).toNat + 2 ^ n := by lia
    rw [ex, ey]
    exact mid_cell ok h em hu hv
  · rw [if_neg hin]
    split
    · rename_i z
      obtain ⟨z1, z2, z3, z4⟩ := z
      have hX := to_lt z1 z2
      have hY := to_lt z3 z4
      rw [deep_cell h hX hY]
      have ne : ¬ quad n ((x + 2 ^ (n + 1)).toNat % 2 ^ (n + 1)) ((y + 2 ^ (n + 1)).toNat % 2 ^ (n + 1)) + quad (n + 1) (x + 2 ^ (n + 1)).toNat (y + 2 ^ (n + 1)).toNat = 3 := fun q => hin ((mid_iff' (Int.toNat_of_nonneg (by lia)) (Int.toNat_of_nonneg (by lia)) hX hY).mp q)
      rw [ba _ _ (quad_lt hX hY) (quad_lt (Nat.mod_lt _ (two_pos _)) (Nat.mod_lt _ (two_pos _))) ne]
      exact cell_bare e0 ok (by lia) (Nat.mod_lt _ (two_pos _)) (Nat.mod_lt _ (two_pos _))
    · rfl
theorem trim_field {G r0 : Gv} (e0 : G = G0 ++ r0) (ok : GOk G) : ∀ {n f r : Nat}, n ≤ 47 → LevAt G f ((n + 1 : Nat) : Int) → TrimR G (n + 1) f r → ∃ m, m ≤ n ∧ LevAt G r ((m + 1 : Nat) : Int) ∧ Trim G m r ∧ ∀ x y, fieldF G m r x y = fieldF G n f x y
  | 0, f, r, _, hl, h => by
    have h : r = f := h
    subst h
    exact ⟨0, Nat.le_refl _, hl, .inl rfl, fun _ _ => rfl⟩
  | n + 1, f, r, hn, hl, h => by
    obtain ⟨qs, ps, d, h⟩ := h
    rcases h with ⟨nb, rfl⟩ | ⟨ba, m, em, h⟩
    · exact ⟨n + 1, Nat.le_refl _, hl, .inr ⟨n, qs, ps, rfl, d, nb⟩, fun _ _ => rfl⟩
    · obtain ⟨k, hk, lk, tk, ek⟩ := trim_field e0 ok (by lia) ⟨_, em, by show (n : Int) + 1 = _; lia⟩ h
      refine ⟨k, by lia, lk, tk, fun x y => ?_⟩
      rw [ek x y, mid_field e0 ok (by lia) d ba em x y]
theorem wid_field {G r : Gv} (e0 : G = G0 ++ r) (ok : GOk G) {n f w : Nat} (hn : n ≤ 46) (h : Wid G n f w) (x y : Int) : fieldF G (n + 1) w x y = fieldF G n f x y := by
  obtain ⟨q, a, b, c, d, w0, w1, w2, w3, nd, ea, eb, ec, ed, ew⟩ := h.ex
  have lb := bare_lev e0 (n := n) (by lia)
  have lv : ∀ {p : Nat} {l : List Int}, G[p]? = some ⟨l, (n : Int) + 1⟩ → LevAt G p ((n + 1 : Nat) : Int) := fun {p l} e => ⟨_, e, by show (n : Int) + 1 = _; lia⟩
  have dp : Deep G n w (f4 w0 w1 w2 w3) (fun k j => if j + k = 3 then f4 a b c d k else bareN n) := by
    refine ⟨⟨_, ew, rfl, by show (n : Int) + 2 = _; lia, lv ea, lv eb, lv ec, lv ed⟩, fun k hk => ?_⟩
    match k, hk with
    | 0, _ => exact ⟨_, ea, rfl, rfl, lb, lb, lb, nd.hx⟩
    | 1, _ => exact ⟨_, eb, rfl, rfl, lb, lb, nd.hy, lb⟩
    | 2, _ => exact ⟨_, ec, rfl, rfl, lb, nd.hz, lb, lb⟩
    | 3, _ => exact ⟨_, ed, rfl, rfl, nd.hw, lb, lb, lb⟩
  have g := nd.g
  have l := nd.lev
  have ps := nd.ps
  refine mid_field e0 ok hn dp (fun k j _ _ ne => if_neg ne) ?_ x y
  rw [g]
  cases q with
  | mk pp ll => cases ps; cases l; rfl
theorem widN_field {G r : Gv} (e0 : G = G0 ++ r) (ok : GOk G) {n f : Nat} : ∀ {k w : Nat}, n + k ≤ 46 → WidN G n f k w → ∀ x y, fieldF G (n + k) w x y = fieldF G n f x y
  | 0, w, _, h, x, y => by
    have h : w = f := h
    subst h
    rfl
  | k + 1, w, hk, h, x, y => by
    obtain ⟨u, h1, h2⟩ := h
    rw [show n + (k + 1) = n + k + 1 by lia, wid_field e0 ok (by lia) h2 x y]
    exact widN_field e0 ok (by lia) h1 x y
theorem plant_field {G r0 : Gv} (e0 : G = G0 ++ r0) (ok : GOk G) {n f s r k w i : Nat} {X Y : Int} (hs : s < 8) (h : Planted G n f X Y s r k w i) : ∃ m, m ≤ 40 ∧ LevAt G r ((m + 1 : Nat) : Int) ∧ Trim G m r ∧ ∀ x y, fieldF G m r x y = if x = X ∧ y = Y then s else fieldF G n f x y := by
  have le := h.le
  have li := h.rep.lev ok hs
  obtain ⟨m, hm, lm, tm, em⟩ := trim_field e0 ok (by lia) li h.tr
  refine ⟨m, by lia, lm, tm, fun x y => ?_⟩
  rw [em x y, ← widN_field e0 ok (by lia) h.wid x y]
  obtain ⟨b1, b2, b3, b4⟩ := lies_lt h.li
  obtain ⟨l1, l2, l3, l4⟩ := h.li
  unfold fieldF
  split
  · rename_i z
    obtain ⟨z1, z2, z3, z4⟩ := z
    rw [rep_cell ok hs b1 b2 (to_lt z1 z2) (to_lt z3 z4) h.rep]
    by_cases hxy : x = X ∧ y = Y
    · rw [if_pos hxy, if_pos ⟨by rw [hxy.1], by rw [hxy.2]⟩]
    · rw [if_neg hxy, if_neg fun q => hxy ⟨by lia, by lia⟩]
  · rename_i z
    rw [if_neg fun q => z ⟨by lia, by lia, by lia, by lia⟩]
theorem lives_in {G r : Gv} (e0 : G = G0 ++ r) (ok : GOk G) {n i : Nat} (hn : n ≤ 48) (h : LevAt G i (n : Int)) (ne : i ≠ bareN n) : ∃ x y, x < 2 ^ n ∧ y < 2 ^ n ∧ cellF G n i x y ≠ 0 := by
  refine Classical.byContradiction fun z => ne (cell_uniq ok h (bare_lev e0 hn) fun x y hx hy => ?_)
  rw [cell_bare e0 ok hn hx hy]
  exact Classical.byContradiction fun q => z ⟨x, y, hx, hy, q⟩
theorem trim_out {G r : Gv} (e0 : G = G0 ++ r) (ok : GOk G) {m f : Nat} (hm : m ≤ 46) (h : Trim G (m + 1) f) : ∃ x y : Int, ¬ (-(2 ^ m) ≤ x ∧ x < 2 ^ m ∧ -(2 ^ m) ≤ y ∧ y < 2 ^ m) ∧ fieldF G (m + 1) f x y ≠ 0 := by
  rcases h with h | ⟨m', qs, ps, e, dp, nb⟩
  · lia
  · have : m' = m := by lia
    subst this
    have : ∃ k j, k < 4 ∧ j < 4 ∧ j + k ≠ 3 ∧ ps k j ≠ bareN m' := by
      refine Classical.byContradiction fun z => nb fun k j hk hj ne => Classical.byContradiction fun q => z ⟨k, j, hk, hj, ne, q⟩
    obtain ⟨k, j, hk, hj, ne, nbare⟩ := this
    obtain ⟨qk, nk⟩ := dp.sub k hk
    have lp : LevAt G (ps k j) (m' : Int) := by
      have := (nk.nat hj).2
      rw [f4_fun (ps k) hj] at this
      exact this
    obtain ⟨u, v, hu, hv, hc⟩ := lives_in e0 ok (by lia) lp nbare
    obtain ⟨a1, a2, a3, a4, a5⟩ := in_quarter hj hu hv
    obtain ⟨b1, b2, b3, b4, b5⟩ := in_quarter (n := m' + 1) hk a1 a2
    generalize hX : u + 2 ^ m' * (j % 2) + 2 ^ (m' + 1) * (k % 2) = X at *
    generalize hY : v + 2 ^ m' * (j / 2) + 2 ^ (m' + 1) * (k / 2) = Y at *
    have c1 := pow_c (m' + 1)
    have c2 := pow_c (m' + 2)
    have s2 := pow2_succ (m' + 1)
    rw [s2] at c2
    refine ⟨(X : Int) - 2 ^ (m' + 1), (Y : Int) - 2 ^ (m' + 1), fun z => ne ?_, ?_⟩
    · have := (mid_iff' (X := X) (Y := Y) (by lia) (by lia) b1 b2).mpr z
      rw [b3, b4, b5, a3] at this
      exact this
    · unfold fieldF
      rw [if_pos ⟨by lia, by lia, by lia, by lia⟩, show ((X : Int) - 2 ^ (m' + 1) + 2 ^ (m' + 1)).toNat = X by lia, show ((Y : Int) - 2 ^ (m' + 1) + 2 ^ (m' + 1)).toNat = Y by lia, deep_cell dp b1 b2, b3, b4, b5, a3]
      have d1 : X % 2 ^ m' = u := by rw [← mod_down, b4, a4]
      have d2 : Y % 2 ^ m' = v := by rw [← mod_down, b5, a5]
      rw [d1, d2]
      exact hc
theorem field_uniq {G r : Gv} (e0 : G = G0 ++ r) (ok : GOk G) {n m f f' : Nat} (hn : n ≤ 47) (hm : m ≤ 47) (lf : LevAt G f ((n + 1 : Nat) : Int)) (lf' : LevAt G f' ((m + 1 : Nat) : Int)) (t : Trim G n f) (t' : Trim G m f') (h : ∀ x y, fieldF G n f x y = fieldF G m f' x y) : n = m ∧ f = f' := by
  have le : ∀ {n m f f' : Nat}, m ≤ 47 → Trim G m f' → (∀ x y, fieldF G n f x y = fieldF G m f' x y) → m ≤ n := by
    intro n m f f' hm t' h
    refine Nat.le_of_not_lt fun z => ?_
    obtain ⟨k, rfl⟩ : ∃ k, m = k + 1 := ⟨m - 1, by lia⟩
    obtain ⟨x, y, out, lv⟩ := trim_out e0 ok (by lia) t'
    rw [← h x y] at lv
    unfold fieldF at lv
    split at lv
    · rename_i q
      have : (2 : Int) ^ n ≤ 2 ^ k := by
        have := Nat.pow_le_pow_right (show 0 < 2 by decide) (show n ≤ k by lia)
        exact_mod_cast this
      exact out ⟨by lia, by lia, by lia, by lia⟩
    · exact lv rfl
  have e1 := le hm t' h
  have e2 := le hn t fun x y => (h x y).symm
  have e : n = m := by lia
  subst e
  refine ⟨rfl, cell_uniq ok lf lf' fun x y hx hy => ?_⟩
  have c1 := pow_c n
  have c2 := pow_c (n + 1)
  have s2 := pow2_succ n
  rw [s2] at c2
  have := h ((x : Int) - 2 ^ n) ((y : Int) - 2 ^ n)
  unfold fieldF at this
  rw [if_pos ⟨by lia, by lia, by lia, by lia⟩, if_pos ⟨by lia, by lia, by lia, by lia⟩, show ((x : Int) - 2 ^ n + 2 ^ n).toNat = x by lia, show ((y : Int) - 2 ^ n + 2 ^ n).toNat = y by lia] at this
  exact this
end J

namespace J
open PySem L2
def Fix : HO → Prop
  | .tup _ => True
  | .ins _ _ _ => True
  | _ => False
def Fx (l : List Addr) (H H' : Hp) : Prop := ∀ b o, H b = some o → (b ∈ l → Fix o) → H' b = some o
theorem Fx.refl (l : List Addr) (H : Hp) : Fx l H H := fun _ _ e _ => e
theorem Fx.trans {l : List Addr} {H1 H2 H3 : Hp} (h : Fx l H1 H2) (h2 : Fx l H2 H3) : Fx l H1 H3 := fun b o e n => h2 b o (h b o e n) n
theorem Same.fx {l : List Addr} {H1 H2 : Hp} (h : Same H1 H2) : Fx l H1 H2 := fun b o e _ => h b o e
theorem Fx.mono {l m : List Addr} {H1 H2 : Hp} (h : Fx l H1 H2) (s : ∀ x ∈ l, x ∈ m) : Fx m H1 H2 := fun b o e n => h b o e fun z => n (s b z)
theorem Fx.get {l : List Addr} {H1 H2 : Hp} (h : Fx l H1 H2) {b : Addr} {o : HO} (n : b ∉ l) (e : H1 b = some o) : H2 b = some o := h b o e fun z => absurd z n
theorem Fx.tup {l : List Addr} {H1 H2 : Hp} (h : Fx l H1 H2) {b : Addr} {xs : List V} (e : H1 b = some (.tup xs)) : H2 b = some (.tup xs) := h b _ e fun _ => True.intro
theorem fx_up {H : Hp} {x : Addr} {o o' : HO} (e : H x = some o) (n : ¬ Fix o) : Fx [x] H (upd H x o') := fun b u e2 f => by
  by_cases z : b = x
  · subst z
    rw [e] at e2
    cases e2
    exact absurd (f (List.mem_singleton.mpr rfl)) n
  · rw [upd_ne z]
    exact e2
theorem Fr.fx {a : Ad} {g : GA} {G : Gv} {H H' : Hp} (h : Fr g H H') (at' : GroveAt a H g G) : Fx [g.lv, g.pt, g.nm] H H' := fun b o e f => by
  obtain ⟨ts, h3, _⟩ := at'.pt
  refine h b o e (fun z => ?_) (fun z => ?_) (fun z => ?_)
  · subst z; rw [at'.lv] at e; cases e; exact f (by simp)
  · subst z; rw [h3] at e; cases e; exact f (by simp)
  · subst z; rw [at'.nm] at e; cases e; exact f (by simp)
theorem FrQ.fx {a : Ad} {g : GA} {G : Gv} {H H' : Hp} (h : FrQ g H H') (fu : Full a H g G) : Fx [g.am, g.bx] H H' := fun b o e f => by
  obtain ⟨ks, h1, _⟩ := fu.am
  obtain ⟨ks', h2, _⟩ := fu.bx
  refine h b o e (fun z => ?_) (fun z => ?_)
  · subst z; rw [h1] at e; cases e; exact f (by simp)
  · subst z; rw [h2] at e; cases e; exact f (by simp)
def gAll (g : GA) : List Addr := [g.lv, g.pt, g.nm, g.br, g.am, g.bx]
theorem Full.fx {a : Ad} {g : GA} {G : Gv} {H H' : Hp} {l : List Addr} (h : Full a H g G) (f : Fx l H H') (n : ∀ x ∈ gAll g, x ∉ l) : Full a H' g G := by
  obtain ⟨at', ok, g0, br, ⟨ks, h1, h2⟩, ⟨ks', h3, h4⟩, n1, n2, n3⟩ := h
  obtain ⟨p1, p2, ⟨ts, p3, p4⟩, p5, p6⟩ := at'
  have m : ∀ x ∈ gAll g, ∀ o, H x = some o → H' x = some o := fun x hx o e => f.get (n x hx) e
  refine ⟨⟨f _ _ p1 fun _ => True.intro, m _ (by simp [gAll]) _ p2, ⟨ts, m _ (by simp [gAll]) _ p3, PairedM.imp (fun t q z => f.tup z) p4⟩, m _ (by simp [gAll]) _ p5, p6⟩, ok, g0, m _ (by simp [gAll]) _ br, ⟨ks, m _ (by simp [gAll]) _ h1, h2⟩, ⟨ks', m _ (by simp [gAll]) _ h3, h4.keys, fun i v e => ?_⟩, n1, n2, n3⟩
  obtain ⟨l, b, t, e1, e2, e3, e4⟩ := h4.val i v e
  exact ⟨l, b, t, e1, e2, e3, f.tup e4⟩
theorem Same.noneOf {H H' : Hp} (s : Same H H') {x : Addr} (n : H' x = none) : H x = none := by
  cases e : H x with
  | none => rfl
  | some o => rw [s _ _ e] at n; cases n
structure Nw (H : Hp) (l : List Addr) : Prop where
  nd : l.Nodup
  s : ∀ x ∈ l, ∃ o, H x = some o
theorem Full.nw {a : Ad} {H : Hp} {g : GA} {G : Gv} (h : Full a H g G) : Nw H (gAll g) := by
  obtain ⟨⟨_, h2, ⟨ts, h3, _⟩, h5, h6⟩, _, _, h7, ⟨ks, h8, _⟩, ⟨ks', h9, _⟩, n1, n2, n3⟩ := h
  have t : ∀ {x y : Addr} {o o' : HO}, H x = some o → H y = some o' → o ≠ o' → x ≠ y := fun {x y o o'} e e' n => ne_of e e' n
  refine ⟨?_, fun x hx => ?_⟩
  · simp only [gAll, List.nodup_cons, List.mem_cons, List.not_mem_nil, or_false, not_or, not_false_eq_true, List.nodup_nil, and_true]
    exact ⟨⟨h6, t h2 h5 (by intro z; cases z), Ne.symm n1, t h2 h8 (by intro z; cases z), t h2 h9 (by intro z; cases z)⟩, ⟨t h3 h5 (by intro z; cases z), Ne.symm n2, t h3 h8 (by intro z; cases z), t h3 h9 (by intro z; cases z)⟩, ⟨t h5 h7 (by intro z; cases z), t h5 h8 (by intro z; cases z), t h5 h9 (by intro z; cases z)⟩, ⟨t h7 h8 (by intro z; cases z), t h7 h9 (by intro z; cases z)⟩, n3⟩
  · simp only [gAll, List.mem_cons, List.not_mem_nil, or_false] at hx
    rcases hx with rfl | rfl | rfl | rfl | rfl | rfl
    · exact ⟨_, h2⟩
    · exact ⟨_, h3⟩
    · exact ⟨_, h5⟩
    · exact ⟨_, h7⟩
    · exact ⟨_, h8⟩
    · exact ⟨_, h9⟩
theorem none_up {H : Hp} {x y : Addr} {o : HO} (h : upd H x o y = none) : H y = none := by
  by_cases e : y = x
  · subst e
    rw [upd_same] at h
    cases h
  · rw [upd_ne e] at h
    exact h
theorem NewG.none {a : Ad} {H H' : Hp} {x dx : Addr} {o o' : HO} {g : GA} {G : Gv} {B : List Int} {am : List (Key × V)} (N : NewG a (upd (upd H dx o) x o') H' g G B am) : ∀ y ∈ gAll g, H y = none := fun y hy => by
  obtain ⟨f1, f2, f3, f4, f5, f6⟩ := N.fresh
  simp only [gAll, List.mem_cons, List.not_mem_nil, or_false] at hy
  rcases hy with rfl | rfl | rfl | rfl | rfl | rfl
  · exact none_up (none_up f1)
  · exact none_up (none_up f2)
  · exact none_up (none_up f3)
  · exact none_up (none_up f4)
  · exact none_up (none_up f5)
  · exact none_up (none_up f6)
theorem DGet.tv {H : Hp} {a b : Addr} {kvs : List (List Key × V)} {k : List Key} {v : V} (e : H a = some (.dT kvs)) (eb : H b = some (.tup (k.map kV))) (h : valV kvs k = some v) : DGet H a (.ref b) (some v) := h ▸ DGet.t e eb
theorem idx {n : Nat} (h : 0 < n) (v : Int) : ∃ j : Nat, v % (n : Int) = (j : Int) ∧ j < n := by
  have h1 := Int.emod_nonneg v (show (n : Int) ≠ 0 by lia)
  have h2 := Int.emod_lt_of_pos v (show (0 : Int) < (n : Int) by lia)
  obtain ⟨j, e⟩ := Int.eq_ofNat_of_zero_le h1
  exact ⟨j, e, by lia⟩
end J

namespace J
open PySem L2
def cellsL (G : Gv) : Nat → Nat → Int → Int → List (List Int)
  | 0, i, x, y => if i = 0 then [] else [[y, x, (i : Int)]]
  | n + 1, i, x, y => match G[i]? with
    | some q => (List.range 4).flatMap fun k => cellsL G n (q.parts.getD k 0).toNat (x + ((k % 2 : Nat) : Int) * 2 ^ n) (y + ((k / 2 : Nat) : Int) * 2 ^ n)
    | none => []
def qCells (G : Gv) (n : Nat) (f : Nat → Nat) (x y : Int) (k : Nat) : List (List Int) := cellsL G n (f k) (x + ((k % 2 : Nat) : Int) * 2 ^ n) (y + ((k / 2 : Nat) : Int) * 2 ^ n)
theorem flat_congr {α β : Type} {f g : α → List β} : ∀ {l : List α}, (∀ x ∈ l, f x = g x) → l.flatMap f = l.flatMap g
  | [], _ => rfl
  | x :: l, h => by rw [List.flatMap_cons, List.flatMap_cons, h x (List.mem_cons_self ..), flat_congr fun y hy => h y (List.mem_cons_of_mem _ hy)]
theorem cells_node {G : Gv} {n i : Nat} {q : Sq} {a b c d : Nat} (h : Node G n i q a b c d) (x y : Int) : cellsL G (n + 1) i x y = (List.range 4).flatMap (qCells G n (f4 a b c d) x y) := by
  rw [show cellsL G (n + 1) i x y = (match G[i]? with | some q => (List.range 4).flatMap fun k => cellsL G n (q.parts.getD k 0).toNat (x + ((k % 2 : Nat) : Int) * 2 ^ n) (y + ((k / 2 : Nat) : Int) * 2 ^ n) | none => []) from rfl, h.g]
  refine flat_congr fun k hk => ?_
  have := (h.nat (by simpa using hk)).1
  unfold qCells
  rw [List.getD_eq_getElem?_getD, this]
  rfl
theorem len_cells {G : Gv} (ok : GOk G) : ∀ {n i : Nat} {x y : Int}, LevAt G i (n : Int) → ((cellsL G n i x y).length : Int) = cntF G n i
  | 0, i, x, y, _ => by
    show (((if i = 0 then [] else [[y, x, (i : Int)]] : List (List Int)).length : Nat) : Int) = if i = 0 then 0 else 1
    split <;> rfl
  | n + 1, i, x, y, h => by
    obtain ⟨q, a, b, c, d, nd⟩ := node_of ok h
    rw [cells_node nd, cntF_node nd]
    show (((qCells G n (f4 a b c d) x y 0 ++ (qCells G n (f4 a b c d) x y 1 ++ (qCells G n (f4 a b c d) x y 2 ++ (qCells G n (f4 a b c d) x y 3 ++ [])))).length : Nat) : Int) = cntF G n a + (cntF G n b + (cntF G n c + (cntF G n d + 0)))
    have e0 := len_cells ok (x := x + ((0 % 2 : Nat) : Int) * 2 ^ n) (y := y + ((0 / 2 : Nat) : Int) * 2 ^ n) nd.hx
    have e1 := len_cells ok (x := x + ((1 % 2 : Nat) : Int) * 2 ^ n) (y := y + ((1 / 2 : Nat) : Int) * 2 ^ n) nd.hy
    have e2 := len_cells ok (x := x + ((2 % 2 : Nat) : Int) * 2 ^ n) (y := y + ((2 / 2 : Nat) : Int) * 2 ^ n) nd.hz
    have e3 := len_cells ok (x := x + ((3 % 2 : Nat) : Int) * 2 ^ n) (y := y + ((3 / 2 : Nat) : Int) * 2 ^ n) nd.hw
    rw [← e0, ← e1, ← e2, ← e3]
    simp only [List.length_append, List.length_nil, Int.natCast_add]
    rfl
theorem dm_c (v h : Nat) : (v : Int) = ((v / h : Nat) : Int) * (h : Int) + ((v % h : Nat) : Int) := by
  have := Nat.div_add_mod v h
  rw [← Int.natCast_mul, ← Int.natCast_add, Nat.mul_comm, this]
theorem mem_cells {G : Gv} (ok : GOk G) : ∀ {n i : Nat} {x y : Int} {r : List Int}, LevAt G i (n : Int) → (r ∈ cellsL G n i x y ↔ ∃ u v : Nat, u < 2 ^ n ∧ v < 2 ^ n ∧ cellF G n i u v ≠ 0 ∧ r = [y + v, x + u, (cellF G n i u v : Int)])
  | 0, i, x, y, r, _ => by
    show r ∈ (if i = 0 then [] else [[y, x, (i : Int)]] : List (List Int)) ↔ _
    constructor
    · intro h
      by_cases z : i = 0
      · rw [if_pos z] at h
        cases h
      · rw [if_neg z] at h
        refine ⟨0, 0, by decide, by decide, z, ?_⟩
        rw [List.mem_singleton.mp h]
        show [y, x, (i : Int)] = [y + 0, x + 0, (i : Int)]
        rw [Int.add_zero, Int.add_zero]
    · rintro ⟨u, v, hu, hv, ne, rfl⟩
      have hu : u = 0 := Nat.lt_one_iff.mp hu
      have hv : v = 0 := Nat.lt_one_iff.mp hv
      subst hu hv
      have ne : i ≠ 0 := ne
      rw [if_neg ne]
      show [y + 0, x + 0, (i : Int)] ∈ _
      rw [Int.add_zero, Int.add_zero]
      exact List.mem_singleton.mpr rfl
  | n + 1, i, x, y, r, h => by
    obtain ⟨q, a, b, c, d, nd⟩ := node_of ok h
    have cc := pow_c n
    rw [cells_node nd, List.mem_flatMap]
    constructor
    · rintro ⟨k, hk, hr⟩
      have hk : k < 4 := by simpa using hk
      obtain ⟨u, v, hu, hv, ne, rfl⟩ := (mem_cells ok (nd.nat hk).2).mp hr
      obtain ⟨h1, h2, h3, h4, h5⟩ := in_quarter hk hu hv
      have e := cell_node nd h1 h2
      rw [h3, h4, h5] at e
      refine ⟨_, _, h1, h2, by rw [e]; exact ne, ?_⟩
      rw [e, ← cc, Int.natCast_add, Int.natCast_mul, Int.natCast_add, Int.natCast_mul, Int.mul_comm ((k / 2 : Nat) : Int), Int.mul_comm ((k % 2 : Nat) : Int), Int.add_assoc, Int.add_assoc, Int.add_comm (v : Int), Int.add_comm (u : Int)]
    · rintro ⟨u, v, hu, hv, ne, rfl⟩
      rw [cell_node nd hu hv] at ne ⊢
      have qk := quad_lt hu hv
      refine ⟨quad n u v, by simpa using qk, (mem_cells ok (nd.nat qk).2).mpr ⟨u % 2 ^ n, v % 2 ^ n, Nat.mod_lt _ (two_pos n), Nat.mod_lt _ (two_pos n), ne, ?_⟩⟩
      have q1 : quad n u v / 2 = v / 2 ^ n := by
        have := half_lt hu
        unfold quad
        generalize u / 2 ^ n = A at *
        generalize v / 2 ^ n = B at *
        lia
      have q2 : quad n u v % 2 = u / 2 ^ n := by
        have := half_lt hu
        unfold quad
        generalize u / 2 ^ n = A at *
        generalize v / 2 ^ n = B at *
        lia
      rw [q1, q2, ← cc, Int.add_assoc, Int.add_assoc, ← dm_c, ← dm_c]
theorem nodup_cells {G : Gv} (ok : GOk G) : ∀ {n i : Nat} {x y : Int}, LevAt G i (n : Int) → (cellsL G n i x y).Nodup
  | 0, i, x, y, _ => by
    show (if i = 0 then [] else [[y, x, (i : Int)]] : List (List Int)).Nodup
    split
    · exact List.nodup_nil
    · simp
  | n + 1, i, x, y, h => by
    obtain ⟨q, a, b, c, d, nd⟩ := node_of ok h
    rw [cells_node nd, List.nodup_iff_pairwise_ne, List.pairwise_flatMap]
    refine ⟨fun k hk => ?_, ?_⟩
    · have hk : k < 4 := by simpa using hk
      exact List.nodup_iff_pairwise_ne.mp (nodup_cells ok (nd.nat hk).2)
    · refine List.Pairwise.imp_of_mem (fun {k j} hk hj kj r hr r' hr' e => kj ?_) (List.nodup_iff_pairwise_ne.mp (List.nodup_range (n := 4)))
      subst e
      have hk : k < 4 := by simpa using hk
      have hj : j < 4 := by simpa using hj
      obtain ⟨u, v, hu, hv, ne, e1⟩ := (mem_cells ok (nd.nat hk).2).mp hr
      obtain ⟨u', v', hu', hv', ne', e2⟩ := (mem_cells ok (nd.nat hj).2).mp hr'
      rw [e1] at e2
      injection e2 with f1 e2
      injection e2 with f2 e2
      have cc := pow_c n
      rw [← cc] at f1 f2
      have side : ∀ {A B h u u' : Nat}, A < 2 → B < 2 → u < h → u' < h → (A : Int) * (h : Int) + u = (B : Int) * (h : Int) + u' → A = B := by
        intro A B h u u' hA hB hu hu' e
        have hA : A = 0 ∨ A = 1 := by lia
        have hB : B = 0 ∨ B = 1 := by lia
        rcases hA with rfl | rfl <;> rcases hB with rfl | rfl <;> simp at e <;> first | rfl | lia
      have g1 := side (A := k / 2) (B := j / 2) (by lia) (by lia) hv hv' (by lia)
      have g2 := side (A := k % 2) (B := j % 2) (by lia) (by lia) hu hu' (by lia)
      lia
end J

namespace J
open PySem L2
def stC : List Cl → Int → Int → Nat
  | [], _, _ => 0
  | c :: cs, x, y => if x = c.x ∧ y = c.y then c.s else stC cs x y
theorem fld_cells {G r0 : Gv} (e0 : G = G0 ++ r0) (ok : GOk G) {cs : List Cl} {n f : Nat} (h : FldR G cs n f) : (∀ c ∈ cs, c.s < 8) → Trim G n f ∧ ∀ x y, fieldF G n f x y = stC cs x y := by
  induction h with
  | nil =>
    intro _
    refine ⟨.inl rfl, fun x y => ?_⟩
    unfold fieldF
    split
    · rename_i z
      exact cell_bare e0 ok (by decide) (to_lt z.1 z.2.1) (to_lt z.2.2.1 z.2.2.2)
    · rfl
  | @cons cs c n f r k w i m h l p l' ih =>
    intro hs
    obtain ⟨t, e⟩ := ih fun c hc => hs c (List.mem_cons_of_mem _ hc)
    obtain ⟨m', _, lm, tm, em⟩ := plant_field e0 ok (hs c (List.mem_cons_self ..)) p
    have : m' = m := by
      have := Int.ofNat.inj (lm.uniq l')
      lia
    subst this
    refine ⟨tm, fun x y => ?_⟩
    rw [em x y, e x y]
    rfl
def kvC (ds : List Cl) : List (List Key × V) := ds.map fun c => (kOf [c.x, c.y], V.int (c.s : Int))
theorem kvC_val : ∀ {ds : List Cl}, (ds.map fun c => (c.x, c.y)).Nodup → ∀ {c : Cl}, c ∈ ds → valV (kvC ds) (kOf [c.x, c.y]) = some (.int (c.s : Int))
  | d :: ds, nd, c, hc => by
    rw [List.map_cons, List.nodup_cons] at nd
    show valV ((kOf [d.x, d.y], V.int (d.s : Int)) :: kvC ds) (kOf [c.x, c.y]) = _
    rcases List.mem_cons.mp hc with rfl | hc
    · exact valV_pos rfl
    · rw [valV_neg fun z => ?_]
      · exact kvC_val nd.2 hc
      · have z := kOf_inj z
        injection z with z1 z
        injection z with z2 z
        exact nd.1 (List.mem_map.mpr ⟨c, hc, by rw [z1, z2]⟩)
def rowC (c : Cl) : List Int := [c.y, c.x, (c.s : Int)]
def putC (ds : List Cl) (c : Cl) : List Cl := if ds.any (fun d => decide (d.x = c.x ∧ d.y = c.y)) = true then ds.map (fun d => if d.x = c.x ∧ d.y = c.y then c else d) else ds ++ [c]
theorem mem_putC {ds : List Cl} {c d : Cl} : d ∈ putC ds c ↔ d = c ∨ (d ∈ ds ∧ ¬ (d.x = c.x ∧ d.y = c.y)) := by
  unfold putC
  by_cases h : ds.any (fun d => decide (d.x = c.x ∧ d.y = c.y)) = true
  · rw [if_pos h, List.mem_map]
    obtain ⟨z, hz, ez⟩ := List.any_eq_true.mp h
    have ez := of_decide_eq_true ez
    constructor
    · rintro ⟨e, he, rfl⟩
      by_cases q : e.x = c.x ∧ e.y = c.y
      · rw [if_pos q]
        exact .inl rfl
      · rw [if_neg q]
        exact .inr ⟨he, q⟩
    · rintro (rfl | ⟨hd, q⟩)
      · exact ⟨z, hz, if_pos ez⟩
      · exact ⟨d, hd, if_neg q⟩
  · rw [if_neg h, List.mem_append, List.mem_singleton]
    have no : ∀ e ∈ ds, ¬ (e.x = c.x ∧ e.y = c.y) := fun e he q => h (List.any_eq_true.mpr ⟨e, he, decide_eq_true q⟩)
    constructor
    · rintro (hd | rfl)
      · exact .inr ⟨hd, no d hd⟩
      · exact .inl rfl
    · rintro (rfl | ⟨hd, _⟩)
      · exact .inr rfl
      · exact .inl hd
theorem len_putC (ds : List Cl) (c : Cl) : (putC ds c).length ≤ ds.length + 1 := by
  unfold putC
  split
  · rw [List.length_map]
    lia
  · rw [List.length_append]
    exact Nat.le_refl _
theorem nd_putC {ds : List Cl} {c : Cl} (h : (ds.map fun c => (c.x, c.y)).Nodup) : ((putC ds c).map fun c => (c.x, c.y)).Nodup := by
  unfold putC
  by_cases q : ds.any (fun d => decide (d.x = c.x ∧ d.y = c.y)) = true
  · rw [if_pos q, List.map_map]
    have : ((fun c : Cl => (c.x, c.y)) ∘ fun d => if d.x = c.x ∧ d.y = c.y then c else d) = fun d => (d.x, d.y) := by
      funext d
      show ((if d.x = c.x ∧ d.y = c.y then c else d).x, (if d.x = c.x ∧ d.y = c.y then c else d).y) = (d.x, d.y)
      split
      · rename_i z
        rw [z.1, z.2]
      · rfl
    rw [this]
    exact h
  · rw [if_neg q, List.map_append, List.nodup_append]
    refine ⟨h, by simp, fun a ha b hb e => q ?_⟩
    obtain ⟨d, hd, rfl⟩ := List.mem_map.mp ha
    rw [List.map_cons, List.map_nil, List.mem_singleton] at hb
    rw [hb] at e
    injection e with e1 e2
    exact List.any_eq_true.mpr ⟨d, hd, decide_eq_true ⟨e1, e2⟩⟩
theorem kv_putC (ds : List Cl) (c : Cl) : putK (kvC ds) (kOf [c.x, c.y]) (.int (c.s : Int)) = kvC (putC ds c) := by
  have key : ∀ d : Cl, (kOf [d.x, d.y] = kOf [c.x, c.y]) ↔ (d.x = c.x ∧ d.y = c.y) := fun d => ⟨fun z => by
    have z := kOf_inj z
    injection z with z1 z
    injection z with z2 z
    exact ⟨z1, z2⟩, fun z => by rw [z.1, z.2]⟩
  unfold putK putC kvC
  rw [List.any_map]
  have : ((fun kv : List Key × V => decide (kv.1 = kOf [c.x, c.y])) ∘ fun c : Cl => (kOf [c.x, c.y], V.int (c.s : Int))) = fun d => decide (d.x = c.x ∧ d.y = c.y) := by
    funext d
    exact decide_eq_decide.mpr (key d)
  rw [this]
  split
  · rw [List.map_map, List.map_map]
    congr 1
    funext d
    show (if kOf [d.x, d.y] = kOf [c.x, c.y] then (kOf [d.x, d.y], V.int (c.s : Int)) else (kOf [d.x, d.y], V.int (d.s : Int))) = (kOf [(if d.x = c.x ∧ d.y = c.y then c else d).x, (if d.x = c.x ∧ d.y = c.y then c else d).y], V.int ((if d.x = c.x ∧ d.y = c.y then c else d).s : Int))
    by_cases q : d.x = c.x ∧ d.y = c.y
    · rw [if_pos ((key d).mpr q), if_pos q, q.1, q.2]
    · rw [if_neg fun z => q ((key d).mp z), if_neg q]
  · rw [List.map_append]
    rfl
structure Of (G : Gv) (n f : Nat) (ds : List Cl) : Prop where
  nd : (ds.map fun c => (c.x, c.y)).Nodup
  mem : ∀ c : Cl, c ∈ ds ↔ (1 ≤ c.s ∧ fieldF G n f c.x c.y = c.s)
theorem mem_field {G : Gv} (ok : GOk G) {n f : Nat} (l : LevAt G f ((n + 1 : Nat) : Int)) {r : List Int} : r ∈ cellsL G (n + 1) f (-(2 ^ n)) (-(2 ^ n)) ↔ ∃ x y : Int, fieldF G n f x y ≠ 0 ∧ r = [y, x, (fieldF G n f x y : Int)] := by
  have c := pow_c n
  have e := pow_s n
  rw [mem_cells ok l]
  constructor
  · rintro ⟨u, v, hu, hv, ne, rfl⟩
    have ef : fieldF G n f (-(2 ^ n) + u) (-(2 ^ n) + v) = cellF G (n + 1) f u v := by
      unfold fieldF
      rw [if_pos ⟨by lia, by lia, by lia, by lia⟩]
      congr 1 <;> lia
    refine ⟨-(2 ^ n) + u, -(2 ^ n) + v, by rw [ef]; exact ne, by rw [ef]⟩
  · rintro ⟨x, y, ne, rfl⟩
    have ne' := ne
    unfold fieldF at ne'
    split at ne'
    · rename_i z
      obtain ⟨z1, z2, z3, z4⟩ := z
      refine ⟨(x + 2 ^ n).toNat, (y + 2 ^ n).toNat, to_lt z1 z2, to_lt z3 z4, ne', ?_⟩
      unfold fieldF
      rw [if_pos ⟨z1, z2, z3, z4⟩, show -(2 ^ n) + (((y + 2 ^ n).toNat : Nat) : Int) = y by lia, show -(2 ^ n) + (((x + 2 ^ n).toNat : Nat) : Int) = x by lia]
    · exact absurd rfl ne'
theorem Of.perm {G : Gv} (ok : GOk G) {n f : Nat} (l : LevAt G f ((n + 1 : Nat) : Int)) {ds : List Cl} (h : Of G n f ds) : (cellsL G (n + 1) f (-(2 ^ n)) (-(2 ^ n))).Perm (ds.map rowC) := by
  refine (List.perm_ext_iff_of_nodup (nodup_cells ok l) ?_).mpr fun r => ?_
  · rw [List.nodup_iff_pairwise_ne, List.pairwise_map]
    have nd := h.nd
    rw [List.nodup_iff_pairwise_ne, List.pairwise_map] at nd
    refine nd.imp fun {c d} hne e => hne ?_
    injection e with e1 e
    injection e with e2 e
    rw [e1, e2]
  · rw [mem_field ok l, List.mem_map]
    constructor
    · rintro ⟨x, y, ne, rfl⟩
      exact ⟨⟨x, y, fieldF G n f x y⟩, (h.mem _).mpr ⟨Nat.pos_of_ne_zero ne, rfl⟩, rfl⟩
    · rintro ⟨c, hc, rfl⟩
      obtain ⟨h1, h2⟩ := (h.mem c).mp hc
      exact ⟨c.x, c.y, by lia, by rw [h2]; rfl⟩
theorem Of.cnt {G : Gv} (ok : GOk G) {n f : Nat} (l : LevAt G f ((n + 1 : Nat) : Int)) {ds : List Cl} (h : Of G n f ds) : cntF G (n + 1) f = (ds.length : Int) := by
  rw [← len_cells ok (x := -(2 ^ n)) (y := -(2 ^ n)) l, (h.perm ok l).length_eq, List.length_map]
theorem dput {H : Hp} {D t : Addr} {ds : List Cl} {c : Cl} (e : H D = some (.dT (kvC ds))) (ht : H t = some (.tup [.int c.x, .int c.y])) (hl : ds.length < 1000) : DPut H D (.ref t) (.int (c.s : Int)) (upd H D (.dT (kvC (putC ds c)))) := by
  rw [← kv_putC]
  exact DPut.t (k := kOf [c.x, c.y]) e ht (lt_ln (by rw [show (kvC ds).length = ds.length from List.length_map _]; lia))
theorem rows_one : ∀ {l m : List (List Int)}, l.Pairwise (fun p q => lexI q p = false) → m.Pairwise (fun p q => lexI q p = false) → l.Perm m → l = m
  | [], m, _, _, h => (List.nil_perm.mp h).symm
  | a :: l, [], _, _, h => absurd h.length_eq (by simp)
  | a :: l, b :: m, h1, h2, h => by
    rw [List.pairwise_cons] at h1 h2
    have e : a = b := by
      have ha : a ∈ b :: m := h.mem_iff.mp (List.mem_cons_self ..)
      have hb : b ∈ a :: l := h.mem_iff.mpr (List.mem_cons_self ..)
      rcases List.mem_cons.mp ha with z | z
      · exact z
      · rcases List.mem_cons.mp hb with y | y
        · exact y.symm
        · exact lexI_tri (h2.1 a z) (h1.1 b y)
    subst e
    rw [rows_one h1.2 h2.2 h.cons_inv]
def stO : List Cl → Int → Int → Option Nat
  | [], _, _ => none
  | c :: cs, x, y => if x = c.x ∧ y = c.y then some c.s else stO cs x y
theorem stO_get : ∀ (cs : List Cl) (x y : Int), stC cs x y = (stO cs x y).getD 0
  | [], _, _ => rfl
  | c :: cs, x, y => by
    unfold stC stO
    split
    · rfl
    · exact stO_get cs x y
structure Dz (ds cs : List Cl) : Prop where
  nd : (ds.map fun c => (c.x, c.y)).Nodup
  mem : ∀ c : Cl, c ∈ ds ↔ stO cs c.x c.y = some c.s
  len : ds.length ≤ cs.length
theorem Dz.nil : Dz [] [] := ⟨by simp, fun c => ⟨(fun h => by cases h), fun h => by cases h⟩, Nat.le_refl _⟩
theorem Dz.put {ds cs : List Cl} {c : Cl} (h : Dz ds cs) : Dz (putC ds c) (c :: cs) := by
  refine ⟨nd_putC h.nd, fun d => ?_, by have := len_putC ds c; have := h.len; rw [List.length_cons]; lia⟩
  rw [mem_putC, h.mem]
  show _ ↔ (if d.x = c.x ∧ d.y = c.y then some c.s else stO cs d.x d.y) = some d.s
  by_cases q : d.x = c.x ∧ d.y = c.y
  · rw [if_pos q]
    constructor
    · rintro (rfl | ⟨_, z⟩)
      · rfl
      · exact absurd q z
    · intro e
      refine .inl ?_
      cases d
      cases c
      obtain ⟨q1, q2⟩ := q
      cases q1
      cases q2
      cases e
      rfl
  · rw [if_neg q]
    constructor
    · rintro (rfl | ⟨z, _⟩)
      · exact absurd ⟨rfl, rfl⟩ q
      · exact z
    · exact fun z => .inr ⟨z, q⟩
def swC (c : Cl) : Cl := ⟨c.y, c.x, c.s⟩
theorem stO_sw : ∀ (cs : List Cl) (x y : Int), stO (cs.map swC) y x = stO cs x y
  | [], _, _ => rfl
  | c :: cs, x, y => by
    show (if y = c.y ∧ x = c.x then some c.s else stO (cs.map swC) y x) = if x = c.x ∧ y = c.y then some c.s else stO cs x y
    rw [stO_sw cs x y]
    by_cases q : x = c.x ∧ y = c.y
    · rw [if_pos q, if_pos ⟨q.2, q.1⟩]
    · rw [if_neg q, if_neg fun z => q ⟨z.2, z.1⟩]
structure DsOk (ds : List Cl) (φ : Int → Int → Nat) : Prop where
  nd : (ds.map fun c => (c.x, c.y)).Nodup
  mem : ∀ c : Cl, c ∈ ds ↔ (1 ≤ c.s ∧ φ c.x c.y = c.s)
theorem stC_ds {ds : List Cl} {φ : Int → Int → Nat} (h : DsOk ds φ) (x y : Int) : stC ds.reverse x y = φ x y := by
  have key : ∀ {es : List Cl}, (∀ c ∈ es, 1 ≤ c.s ∧ φ c.x c.y = c.s) → (∃ c ∈ es, c.x = x ∧ c.y = y) → stC es x y = φ x y := by
    intro es
    induction es with
    | nil => rintro _ ⟨c, hc, _⟩; cases hc
    | cons d es ih =>
      intro h1 ⟨c, hc, ex, ey⟩
      show (if x = d.x ∧ y = d.y then d.s else stC es x y) = _
      by_cases q : x = d.x ∧ y = d.y
      · rw [if_pos q, q.1, q.2]
        exact (h1 d (List.mem_cons_self ..)).2.symm
      · rw [if_neg q]
        refine ih (fun c hc => h1 c (List.mem_cons_of_mem _ hc)) ?_
        rcases List.mem_cons.mp hc with rfl | hc
        · exact absurd ⟨ex.symm, ey.symm⟩ q
        · exact ⟨c, hc, ex, ey⟩
  have non : ∀ {es : List Cl}, (∀ c ∈ es, ¬ (c.x = x ∧ c.y = y)) → stC es x y = 0 := by
    intro es
    induction es with
    | nil => intro _; rfl
    | cons d es ih =>
      intro h1
      show (if x = d.x ∧ y = d.y then d.s else stC es x y) = _
      rw [if_neg fun q => h1 d (List.mem_cons_self ..) ⟨q.1.symm, q.2.symm⟩]
      exact ih fun c hc => h1 c (List.mem_cons_of_mem _ hc)
  by_cases z : φ x y = 0
  · rw [z]
    refine non fun c hc q => ?_
    obtain ⟨a1, a2⟩ := (h.mem c).mp (List.mem_reverse.mp hc)
    rw [q.1, q.2, z] at a2
    lia
  · refine key (fun c hc => (h.mem c).mp (List.mem_reverse.mp hc)) ⟨⟨x, y, φ x y⟩, List.mem_reverse.mpr ((h.mem _).mpr ⟨by show 1 ≤ φ x y; lia, rfl⟩), rfl, rfl⟩
structure Vf (G : Gv) (f : Nat) (φ : Int → Int → Nat) : Prop where
  ex : ∃ n, n ≤ 40 ∧ LevAt G f ((n + 1 : Nat) : Int) ∧ Trim G n f ∧ ∀ u v, fieldF G n f u v = φ u v
theorem Vf.app {G G' : Gv} {k f : Nat} {φ : Int → Int → Nat} (ok : GOk G) (go : Goes G G' k) (h : Vf G f φ) : Vf G' f φ := by
  obtain ⟨n, n40, l, t, e⟩ := h.ex
  exact ⟨n, n40, go.lev l, t.app go, fun u v => by rw [field_app ok go l]; exact e u v⟩
theorem Vf.eq {G r : Gv} (e0 : G = G0 ++ r) (ok : GOk G) {f f' : Nat} {φ ψ : Int → Int → Nat} (h : Vf G f φ) (h' : Vf G f' ψ) (e : ∀ u v, φ u v = ψ u v) : f = f' := by
  obtain ⟨n, n40, l, t, q⟩ := h.ex
  obtain ⟨m, m40, l', t', q'⟩ := h'.ex
  exact (field_uniq e0 ok (by lia) (by lia) l l' t t' fun u v => by rw [q, q', e]).2
end J

namespace J
open PySem L2
def rowI (q : It3) : List Int := q.y :: q.x :: q.r
theorem len_pre {α : Type} {f : Nat → List α} {j : Nat} (hj : j ≤ 4) : ((List.range j).flatMap f).length ≤ ((List.range 4).flatMap f).length := by
  match j, hj with
  | 0, _ => simp
  | 1, _ => simp [List.range_succ]
  | 2, _ => simp [List.range_succ]
  | 3, _ => simp [List.range_succ]
  | 4, _ => exact Nat.le_refl _
section
variable {P : Program} {w : World} {K : PySem.W.Frag} {mg : Str → Option Value} {base : Heap} {a : Ad}
theorem ok_row {f : Addr} {fd : FuncData} (F : Fun K "by_rows" "by_rows" s_by_rows f fd) (T : Top K mg a) : FnOk P w K mg base CX0 1 f fd p_by_rows spRow := by
  refine F.ok sc_by_rows (fun vs H Q E h => ?_) (fun cdv A outer s H vs Q E hr h => ?_)
  · obtain ⟨t, x, y, r, rfl, _⟩ := h
    rfl
  · obtain ⟨t, x, y, r, rfl, ht, k⟩ := h
    refine ⟨_, (@pss_one _ _ _ (@ps_ret _ _ _ _ (@pe_tup _ _ _ _ _ (@pa_cons _ _ _ _ _ (@pe_ix _ _ _ _ _ _ _ (@ix_tup _) (pv 0) (@pe_int _ _ _ _) (fun _ _ => rfl)) (@pa_cons _ _ _ _ _ (@pe_ix _ _ _ _ _ _ _ (@ix_tup _) (pv 0) (@pe_int _ _ _ _) (fun _ _ => rfl)) (@pa_nil _) rfl) rfl)))), ?_⟩
    try dsimp only [cxK]
    exact ⟨_, rfl, t, _, 1, .int y, rfl, rfl, SqT.of ht, atI_nat (j := 1) rfl, _, rfl, t, _, 0, .int x, rfl, rfl, SqT.of ht, atI_nat (j := 0) rfl, (by show 2 ≤ sizeLine; decide), fun u hu => k u hu⟩
inductive SpGa (a : Ad) (n : Nat) (vs : List V) (H : Hp) (Q : VK) : Prop
  | mk (g : GA) (G : Gv) (i l : Nat) (x y : Int) (L : Addr) (it0 : List It3) (_ : vs = [.ref g.p, .int i, .int x, .int y, .ref L]) (_ : Full a H g G) (_ : LevAt G i (l : Int)) (_ : l < n) (_ : H L = some (.lst (it0.map fun q => V.ref q.a))) (_ : L ∉ gAll g) (_ : (it0.length : Int) + cntF G l i ≤ 5000) (_ : ∀ (items : List It3) (H' : Hp), Fx [L] H H' → H' L = some (.lst ((it0 ++ items).map fun q => V.ref q.a)) → (∀ q ∈ items, H' q.a = some (.tup (q.ns.map V.int))) → items.map rowI = cellsL G l i x y → Q .non H') : SpGa a n vs H Q
def spGa (a : Ad) (n : Nat) : Sp := fun vs H Q _ => SpGa a n vs H Q
theorem ok_ga {f : Addr} {fd : FuncData} (F : Fun K "gather_cells" "gather_cells" s_gather_cells f fd) (T : Top K mg a) (hm : mg "gather_cells" = some (.ref f)) (Bi : Binds K fd p_gather_cells []) (M_Grove_state_of : CalM P w K mg base CX0 4 a.c_Grove "state_of" p_Grove_state_of (spSta a)) : ∀ n, FnOk P w K mg base CX0 (n + 5) f fd p_gather_cells (spGa a n)
  | 0 => by
    refine F.ok sc_gather_cells (fun vs H Q E h => ?_) (fun cdv A outer s H vs Q E hr h => ?_)
    · obtain ⟨g, G, i, l, x, y, L, it0, rfl, _, _, h0, _⟩ := h
      exact absurd h0 (Nat.not_lt_zero _)
    · obtain ⟨g, G, i, l, x, y, L, it0, rfl, _, _, h0, _⟩ := h
      exact absurd h0 (Nat.not_lt_zero _)
  | n + 1 => by
    have C_gather_cells : Cal P w K mg base CX0 (n + 5) "gather_cells" p_gather_cells (spGa a n) := ⟨f, fd, ok_ga F T hm Bi M_Grove_state_of n, hm, F.kp, Bi⟩
    refine F.ok sc_gather_cells (fun vs H Q E h => ?_) (fun cdv A outer s H vs Q E hr h => ?_)
    · obtain ⟨g, G, i, l, x, y, L, it0, rfl, _⟩ := h
      rfl
    · obtain ⟨g, G, i, l, x, y, L, it0, rfl, fu, hl, ln, hL, nL, cn, k⟩ := h
      obtain ⟨q0, eq0, l0⟩ := id hl
      have l48 : l ≤ 48 := by have := (fu.ok.lev eq0).2; lia
      obtain ⟨r0, e0⟩ := fu.g0
      have nLg : ∀ z ∈ gAll g, z ∉ [L] := fun z hz m => nL (by rw [List.mem_singleton] at m; rw [← m]; exact hz)
      refine ⟨_, (@pss_cons _ _ _ _ _ (@ps_set _ _ (5) _ _ _ _ sc_gather_cells.nd rfl (Or.inl rfl) (@pe_ix _ _ _ _ _ _ _ (@ix_list _) (@pe_fld _ _ _ _ _ (pv 0) rfl) (pv 1) (fun _ _ => rfl)) rfl (by first | exact .inl rfl | exact .inr rfl | assumption)) (@pss_cons _ _ _ _ _ (@ps_if _ _ _ _ _ _ _ _ (@pt_cmpR _ _ _ _ _ _ _ _ (@op_eq _) (pv 1) (@pe_ix _ _ _ _ _ _ _ (@ix_list _) (@pe_fld _ _ _ _ _ (pv 0) rfl) (pv 5) (fun _ _ => rfl)) (nomark _)) (@pss_one _ _ _ (@ps_retN _ _)) (@pss_nil _)) (@pss_cons _ _ _ _ _ (@ps_if _ _ _ _ _ _ _ _ (@pt_cmpR _ _ _ _ _ _ _ _ (@op_eq _) (pv 5) (@pe_int _ _ _ _) (nomark _)) (@pss_cons _ _ _ _ _ (@ps_expr _ _ _ _ (@pe_bm _ _ _ _ _ _ _ _ _ _ _ _ PySem.F.plainAttrs_list PySem.F.slot_list_append PySem.F.type_list_append (@mt_append _) (pv 4) (@pa_tup _ _ _ _ _ _ _ (@pa_cons _ _ _ _ _ (pv 2) (@pa_cons _ _ _ _ _ (pv 3) (@pa_cons _ _ _ _ _ (@pe_calm _ _ _ _ _ _ _ _ _ _ _ _ _ _ _ _ (pv 0) M_Grove_state_of (rm hr) pass0 (@pa_cons _ _ _ _ _ (pv 1) (@pa_nil _) rfl) rfl rfl rfl) (@pa_nil _) rfl) rfl) rfl) (@pa_nil _)) rfl rfl rfl rfl rfl) rfl) (@pss_one _ _ _ (@ps_retN _ _))) (@pss_nil _)) (@pss_cons _ _ _ _ _ (@ps_set _ _ (6) _ _ _ _ sc_gather_cells.nd rfl (Or.inl rfl) (@pe_op _ _ _ _ _ _ _ _ (@op_shl _) (@pe_int _ _ _ _) (@pe_op _ _ _ _ _ _ _ _ (@op_sub _) (pv 5) (@pe_int _ _ _ _))) rfl (by first | exact .inl rfl | exact .inr rfl | assumption)) (@pss_one _ _ _ (@ps_for _ _ _ _ _ _ _ _ PassesOwn.never rfl (@pi_enum _ _ _ _ _ _ _ _ true rfl T.b_enumerate (@pa_cons _ _ _ _ _ (@pe_ix _ _ _ _ _ _ _ (@ix_list _) (@pe_fld _ _ _ _ _ (pv 0) rfl) (pv 1) (fun _ _ => rfl)) (@pa_nil _) rfl) rfl) (@pg_tup _ _ _ _ _ _ rfl (@pgs_cons _ _ _ _ _ (@pg_name _ _ (7) _ sc_gather_cells.nd rfl (Or.inl rfl) (by first | exact .inl rfl | exact .inr rfl | assumption)) (@pgs_cons _ _ _ _ _ (@pg_name _ _ (8) _ sc_gather_cells.nd rfl (Or.inl rfl) (by first | exact .inl rfl | exact .inr rfl | assumption)) (@pgs_nil _) rfl) rfl) rfl rfl) (@pss_one _ _ _ (@ps_expr _ _ _ _ (@pe_cal _ _ _ _ _ _ _ _ _ _ _ _ C_gather_cells (rm hr) rfl pass0 (@pa_cons _ _ _ _ _ (pv 0) (@pa_cons _ _ _ _ _ (pv 8) (@pa_op _ _ _ _ _ _ _ _ _ _ (@op_add _) (pv 2) (@pe_op _ _ _ _ _ _ _ _ (@op_mul _) (pv 6) (@pe_op _ _ _ _ _ _ _ _ (@op_mod _) (pv 7) (@pe_int _ _ _ _))) (@pa_op _ _ _ _ _ _ _ _ _ _ (@op_add _) (pv 3) (@pe_op _ _ _ _ _ _ _ _ (@op_mul _) (pv 6) (@pe_op _ _ _ _ _ _ _ _ (@op_fdiv _) (pv 7) (@pe_int _ _ _ _))) (@pa_cons _ _ _ _ _ (pv 4) (@pa_nil _) rfl))) rfl) rfl) (by decide) rfl rfl) rfl)) (by intro _ ; rfl))))))), ?_⟩
      try dsimp only [cxK]
      refine ⟨_, rfl, g.p, _, g.dx, _, _, rfl, fu.at'.hp, T.cl_Grove, T.na_Grove_levels, fl6_lv g, _, rfl, g.lv, _, (i : Int), .int q0.lev, rfl, rfl, SqL.of fu.at'.lv, atI_nat (by rw [List.getElem?_map, eq0]; rfl), ?_⟩
      refine ⟨_, rfl, _, rfl, g.p, _, g.dx, _, _, rfl, fu.at'.hp, T.cl_Grove, T.na_Grove_bares, fl6_br g, _, rfl, g.br, _, q0.lev, .int (bareN l : Int), rfl, rfl, SqL.of fu.br, by rw [l0]; exact atI_nat (bareL_at' (by lia)), rfl, _, rfl, ?_⟩
      by_cases z : i = bareN l
      · rw [decide_eq_true (by rw [z])]
        refine iteT (k [] H (Fx.refl _ _) (by rw [List.append_nil]; exact hL) (fun q hq => nomatch hq) ?_)
        refine (List.eq_nil_iff_forall_not_mem.mpr fun r hr => ?_).symm
        obtain ⟨u, v, hu, hv, ne, _⟩ := (mem_cells fu.ok hl).mp hr
        rw [z] at ne
        exact ne (cell_bare e0 fu.ok l48 hu hv)
      rw [decide_eq_false (by intro e; injection e with e; exact z (by lia))]
      refine iteF ⟨_, rfl, rfl, _, rfl, ?_⟩
      cases l with
      | zero =>
        rw [decide_eq_true (by rw [l0]; rfl)]
        have i0 : i ≠ 0 := fun q => z (by rw [q]; rfl)
        have c0 := cntF_nn G 0 i
        refine iteT ⟨_, rfl, .inl ⟨rfl, _, SqL.of hL⟩, _, rfl, _, rfl, _, rfl, g.p, g.dx, _, rfl, fu.at'.hp, no_stateOf g, _, rfl, g, G, i, q0, rfl, fu.at', eq0, l0, (by show 3 ≤ sizeLine; decide), fun t ht => ?_⟩
        have s1 := same_up (o := .tup [.int x, .int y, .int i]) ht
        have hL1 := s1 _ _ hL
        refine ⟨L, _, .ref t, rfl, rfl, hL1, lt_ln (by rw [List.length_map]; lia), k [⟨t, x, y, [(i : Int)]⟩] _ ((Same.fx s1).trans (fx_up hL1 (fun z => z))) ?_ (fun q hq => ?_) ?_⟩
        · rw [List.map_append]
          exact upd_same
        · rw [List.mem_singleton.mp hq, upd_ne (ne_of upd_same hL1 (by intro z; cases z))]
          exact upd_same
        · show _ = if i = 0 then [] else [[y, x, (i : Int)]]
          rw [if_neg i0]
          rfl
      | succ m =>
        rw [decide_eq_false (by rw [l0]; intro z; injection z with z; lia)]
        obtain ⟨q, c0, c1, c2, c3, nd⟩ := node_of fu.ok hl
        have eq : q0 = q := Option.some.inj (eq0.symm.trans nd.g)
        subst eq
        obtain ⟨ts, t, h3, et, ht⟩ := part_at fu.at' nd
        have lpos := pow2_nn m
        have lt64 := pow2_lt (l := m) (by lia)
        refine iteF ⟨_, rfl, _, _, rfl, rfl, _, _, rfl, rfl, ⟨by lia, by lia, by decide⟩, ?_⟩
        rw [show (fun (i j : Int) => V.int (i * 2 ^ j.toNat)) 1 (q0.lev - 1) = V.int (2 ^ m) from congrArg V.int (by show (1 : Int) * 2 ^ (q0.lev - 1).toNat = 2 ^ m; rw [show (q0.lev - 1).toNat = m by lia]; lia)]
        refine ⟨_, rfl, g.p, _, g.dx, _, _, rfl, fu.at'.hp, T.cl_Grove, T.na_Grove_parts, fl6_pt g, _, rfl, g.pt, _, (i : Int), .ref t, rfl, rfl, SqL.of h3, atI_nat et, t, rfl, ⟨_, SqT.of ht⟩, ?_⟩
        have whole := cells_node nd x y
        have lenW := len_cells fu.ok (x := x) (y := y) hl
        rw [whole] at lenW
        refine for_enum (b := true) (xs := [.int (c0 : Int), .int (c1 : Int), .int (c2 : Int), .int (c3 : Int)]) (fun j σ H3 => ∃ (items : List It3) (u7 u8 : Option V), σ = [some (.ref g.p), some (.int i), some (.int x), some (.int y), some (.ref L), some (.int q0.lev), some (.int (2 ^ m)), u7, u8] ∧ Fx [L] H H3 ∧ H3 L = some (.lst ((it0 ++ items).map fun q => V.ref q.a)) ∧ (∀ q ∈ items, H3 q.a = some (.tup (q.ns.map V.int))) ∧ items.map rowI = (List.range j).flatMap (qCells G m (f4 c0 c1 c2 c3) x y)) ⟨[], none, none, rfl, Fx.refl _ _, (by rw [List.append_nil]; exact hL), (fun q hq => nomatch hq), rfl⟩ (fun j σ H3 _ z => SqT.of (by obtain ⟨_, _, _, _, fx, _⟩ := z; exact fx.tup ht)) ?_ ?_
        · rintro j v σ H3 T' ev ⟨items, u7, u8, rfl, fx3, hL3, hi3, ei⟩ nT
          have hj : j < 4 := (List.getElem?_eq_some_iff.mp ev).1
          have ev' : v = .int (f4 c0 c1 c2 c3 j : Int) := by
            match j, hj, ev with
            | 0, _, ev => cases ev; rfl
            | 1, _, ev => cases ev; rfl
            | 2, _, ev => cases ev; rfl
            | 3, _, ev => cases ev; rfl
          subst ev'
          have s4 := same_up (o := .tup [.int j, .int (f4 c0 c1 c2 c3 j)]) nT
          refine gpair upd_same ?_
          generalize upd H3 T' (.tup [.int j, .int (f4 c0 c1 c2 c3 j)]) = H4 at s4 ⊢
          have fx4 := fx3.trans (Same.fx s4)
          have fu4 := fu.fx fx4 nLg
          have lj := (nd.nat hj).2
          have next : (List.range (j + 1)).flatMap (qCells G m (f4 c0 c1 c2 c3) x y) = (List.range j).flatMap (qCells G m (f4 c0 c1 c2 c3) x y) ++ cellsL G m (f4 c0 c1 c2 c3 j) (x + ((j % 2 : Nat) : Int) * 2 ^ m) (y + ((j / 2 : Nat) : Int) * 2 ^ m) := by
            rw [List.range_succ, List.flatMap_append]
            simp only [List.flatMap_cons, List.flatMap_nil, List.append_nil]
            rfl
          have bd := len_pre (f := qCells G m (f4 c0 c1 c2 c3) x y) (j := j + 1) hj
          rw [next, List.length_append, ← ei, List.length_map] at bd
          have lc := len_cells fu.ok (x := x + ((j % 2 : Nat) : Int) * 2 ^ m) (y := y + ((j / 2 : Nat) : Int) * 2 ^ m) lj
          have ex : x + 2 ^ m * ((j : Int) % 2) = x + ((j % 2 : Nat) : Int) * 2 ^ m := by rw [Int.mul_comm]; rfl
          have ey : y + 2 ^ m * ((j : Int) / 2) = y + ((j / 2 : Nat) : Int) * 2 ^ m := by rw [Int.mul_comm]; rfl
          refine ⟨_, rfl, _, rfl, _, rfl, _, rfl, _, rfl, _, _, rfl, rfl, (by show (0 : Int) < 2; decide), _, _, rfl, rfl, .inl ⟨by lia, by lia⟩, _, _, rfl, rfl, ?_⟩
          refine ⟨_, rfl, _, rfl, _, rfl, _, _, rfl, rfl, ⟨by decide, by decide⟩, _, _, rfl, rfl, .inl ⟨by lia, by lia⟩, _, _, rfl, rfl, _, rfl, ?_⟩
          refine ⟨g, G, f4 c0 c1 c2 c3 j, m, x + 2 ^ m * ((j : Int) % 2), y + 2 ^ m * ((j : Int) / 2), L, it0 ++ items, rfl, fu4, lj, by lia, s4 _ _ hL3, nL, by rw [List.length_append]; lia, fun items5 H5 fx5 hL5 hi5 ei5 => ?_⟩
          refine ⟨items ++ items5, _, _, rfl, fx4.trans fx5, by rw [← List.append_assoc]; exact hL5, fun q hq => ?_, ?_⟩
          · rcases List.mem_append.mp hq with hq | hq
            · exact fx5.tup (s4 _ _ (hi3 q hq))
            · exact hi5 q hq
          · rw [ex, ey] at ei5
            rw [next, List.map_append, ei, ei5]
        · rintro σ H3 ⟨items, u7, u8, rfl, fx3, hL3, hi3, ei⟩
          exact k items H3 fx3 hL3 hi3 (by rw [ei, whole]; rfl)
theorem up_rows {out : List It3} (h : RowsBy out) (nd : (out.map fun q => (q.x, q.y)).Nodup) : (out.map rowI).Pairwise (fun p q => lexI q p = false) := by
  rw [List.nodup_iff_pairwise_ne, List.pairwise_map] at nd
  rw [List.pairwise_map]
  refine (h.and nd).imp fun {p q} ⟨h1, h2⟩ => ?_
  show (if q.y = p.y then (if q.x = p.x then lexI q.r p.r else decide (q.x < p.x)) else decide (q.y < p.y)) = false
  have h1 : (if q.y = p.y then (if q.x = p.x then lexI [] [] else decide (q.x < p.x)) else decide (q.y < p.y)) = false := h1
  by_cases e1 : q.y = p.y
  · rw [if_pos e1] at h1 ⊢
    by_cases e2 : q.x = p.x
    · exact absurd (by rw [e1, e2]) h2
    · rw [if_neg e2] at h1 ⊢
      exact h1
  · rw [if_neg e1] at h1 ⊢
    exact h1
theorem Fx.fresh {l : List Addr} {H H1 H2 : Hp} {x : Addr} (s : Same H H1) (f : Fx (x :: l) H1 H2) (n : H x = none) : Fx l H H2 := fun b o e z => f b o (s _ _ e) fun m => by
  rcases List.mem_cons.mp m with rfl | m
  · rw [n] at e
    cases e
  · exact z m
def frL (g : GA) : List Addr := [g.am, g.bx]
inductive SpCo (a : Ad) (vs : List V) (H : Hp) (Q : VK) : Prop
  | mk (g : GA) (G : Gv) (f n : Nat) (_ : vs = [.ref g.p, .int f]) (_ : Full a H g G) (_ : LevAt G f ((n + 1 : Nat) : Int)) (_ : n < 48) (_ : G.length < 9000000) (_ : cntF G (n + 1) f ≤ 4096) (_ : ∀ (L : Addr) (out : List It3) (H' : Hp), Fx (frL g) H H' → Full a H' g G → H L = none → H' L = some (.lst (out.map fun q => V.ref q.a)) → (∀ q ∈ out, H' q.a = some (.tup (q.ns.map V.int))) → (out.map rowI).Perm (cellsL G (n + 1) f (-(2 ^ n)) (-(2 ^ n))) → RowsBy out → Q (.ref L) H') : SpCo a vs H Q
def spCo (a : Ad) : Sp := fun vs H Q _ => SpCo a vs H Q
theorem ok_co {f : Addr} {fd : FuncData} (F : Fun K "cells_of" "cells_of" s_cells_of f fd) (T : Top K mg a) (M_Grove_living : CalM P w K mg base CX0 51 a.c_Grove "living" p_Grove_living (spLiv a)) (C_reach_of : Cal P w K mg base CX0 4 "reach_of" p_reach_of (spReach a)) (C_gather_cells : Cal P w K mg base CX0 55 "gather_cells" p_gather_cells (spGa a 50)) (C_by_rows : Cal P w K mg base CX0 1 "by_rows" p_by_rows spRow) : FnOk P w K mg base CX0 56 f fd p_cells_of (spCo a) := by
  refine F.ok sc_cells_of (fun vs H Q E h => ?_) (fun cdv A outer s H vs Q E hr h => ?_)
  · obtain ⟨g, G, f, n, rfl, _⟩ := h
    rfl
  · obtain ⟨g, G, f, n, rfl, fu, lf, n48, few, cn, k⟩ := h
    refine ⟨_, (@pss_cons _ _ _ _ _ (@ps_if _ _ _ _ _ _ _ _ (@pt_cmpR _ _ _ _ _ _ _ _ (@op_gt _) (@pe_calm _ _ _ _ _ _ _ _ _ _ _ _ _ _ _ _ (pv 0) M_Grove_living (rm hr) pass0 (@pa_cons _ _ _ _ _ (pv 1) (@pa_nil _) rfl) rfl rfl rfl) (@pe_gint _ _ _ _ rfl T.k_MOST_CELLS (by decide)) (nomark _)) (@pss_one _ _ _ (@ps_never _ _)) (@pss_nil _)) (@pss_cons _ _ _ _ _ (@ps_set _ _ (2) _ _ _ _ sc_cells_of.nd rfl (Or.inl rfl) (@pe_cal _ _ _ _ _ _ _ _ _ _ _ _ C_reach_of (rm hr) rfl pass0 (@pa_cons _ _ _ _ _ (pv 0) (@pa_cons _ _ _ _ _ (pv 1) (@pa_nil _) rfl) rfl) (by decide) rfl rfl) rfl (by first | exact .inl rfl | exact .inr rfl | assumption)) (@pss_cons _ _ _ _ _ (@ps_set _ _ (3) _ _ _ _ sc_cells_of.nd rfl (Or.inl rfl) (@pe_lst _ _ _ _ (@pa_nil _)) rfl (by first | exact .inl rfl | exact .inr rfl | assumption)) (@pss_cons _ _ _ _ _ (@ps_expr _ _ _ _ (@pe_cal _ _ _ _ _ _ _ _ _ _ _ _ C_gather_cells (rm hr) rfl pass0 (@pa_cons _ _ _ _ _ (pv 0) (@pa_cons _ _ _ _ _ (pv 1) (@pa_cons _ _ _ _ _ (@pe_un _ _ _ _ _ _ (@un_neg _) (pv 2)) (@pa_cons _ _ _ _ _ (@pe_un _ _ _ _ _ _ (@un_neg _) (pv 2)) (@pa_cons _ _ _ _ _ (pv 3) (@pa_nil _) rfl) rfl) rfl) rfl) rfl) (by decide) rfl rfl) rfl) (@pss_one _ _ _ (@ps_ret _ _ _ _ (@pe_sortedA _ _ _ _ _ _ _ _ _ _ C_by_rows (rm hr) rfl T.b_sorted rfl (@pa_cons _ _ _ _ _ (pv 3) (@pa_nil _) rfl) (by decide) rfl rfl))))))), ?_⟩
    try dsimp only [cxK]
    refine ⟨_, rfl, g.p, g.dx, _, rfl, fu.at'.hp, no_living g, _, rfl, g, G, f, n + 1, rfl, fu, lf, few, fun H1 fr1 fu1 => ?_⟩
    refine ⟨_, _, rfl, rfl, _, rfl, ?_⟩
    rw [decide_eq_false (by lia)]
    refine iteF ⟨_, rfl, _, rfl, g, G, f, n, rfl, fu1.at', lf, n48, (by show 0 ≤ sizeLine; decide), fun L hL => ?_⟩
    have s2 := same_up (o := .lst []) hL
    have hL2 : upd H1 L (.lst []) L = some (.lst (([] : List It3).map fun q => V.ref q.a)) := upd_same
    generalize upd H1 L (.lst []) = H2 at s2 hL2 ⊢
    have fu2 := fu1.same s2
    have nL : L ∉ gAll g := fun z => by
      obtain ⟨o, e⟩ := fu1.nw.s L z
      rw [hL] at e
      cases e
    have x1 := FrQ.fx fr1 fu
    refine ⟨_, rfl, _, rfl, _, rfl, _, rfl, _, rfl, _, rfl, _, rfl, g, G, f, n + 1, -(2 ^ n), -(2 ^ n), L, [], rfl, fu2, lf, by lia, hL2, nL, (by show (0 : Int) + _ ≤ 5000; lia), fun items H3 fx3 hL3 hi3 ei => ?_⟩
    have x3 : Fx (frL g) H1 H3 := Fx.fresh s2 (fx3.mono (by simp)) hL
    have fu3 := fu2.fx fx3 fun z hz m => nL (by rw [List.mem_singleton] at m; rw [← m]; exact hz)
    have li : items.length ≤ 4096 := by
      have := len_cells fu.ok (x := -(2 ^ n)) (y := -(2 ^ n)) lf
      rw [← ei, List.length_map] at this
      lia
    refine ⟨_, rfl, L, items, rfl, SqL.of (by rw [List.nil_append] at hL3; exact hL3), by lia, hi3, fun L' out H4 s4 nL' pm ru => ?_⟩
    have s5 := same_up (o := .lst (out.map fun q => V.ref q.a)) nL'
    have s45 : Same H3 (upd H4 L' (.lst (out.map fun q => V.ref q.a))) := Same.trans s4 s5
    refine k L' out _ ((x1.trans x3).trans (Same.fx s45)) (fu3.same s45) ?_ upd_same (fun q hq => s45 _ _ (hi3 q (pm.mem_iff.mp hq))) (by rw [← ei]; exact pm.map _) ru
    cases e : H L' with
    | none => rfl
    | some o =>
      exfalso
      by_cases m : L' ∈ gAll g
      · obtain ⟨o2, e2⟩ := fu3.nw.s L' m
        have := s4 _ _ e2
        rw [nL'] at this
        cases this
      · have := s4 _ _ ((x1.trans x3).get (fun z => m (by simp [frL, gAll] at *; lia)) e)
        rw [nL'] at this
        cases this
end
end J

namespace J
open PySem L2
theorem meetH {T : St → Hp → Prop} {C : Prop} (P : St → Hp → Prop) (h : (∀ σ H, P σ H → T σ H) → C) (k : ∀ σ H, P σ H → T σ H) : C := h k
section
variable {P : Program} {w : World} {K : PySem.W.Frag} {mg : Str → Option Value} {base : Heap} {a : Ad}
inductive SpBits (vs : List V) (H : Hp) (Q : VK) : Prop
  | mk (c : Int) (_ : vs = [.int c]) (_ : ∀ b : Nat, 1 ≤ b → b ≤ 40 → Q (.int (b : Int)) H) : SpBits vs H Q
def spBits : Sp := fun vs H Q _ => SpBits vs H Q
theorem ok_bits {f : Addr} {fd : FuncData} (F : Fun K "_law_bits" "_law_bits" s__law_bits f fd) (T : Top K mg a) : FnOk P w K mg base CX0 1 f fd p__law_bits spBits := by
  refine F.ok sc__law_bits (fun vs H Q E h => ?_) (fun cdv A outer s H vs Q E hr h => ?_)
  · obtain ⟨c, rfl, _⟩ := h
    rfl
  · obtain ⟨c, rfl, q⟩ := h
    refine ⟨_, (@pss_cons _ _ _ _ _ (@ps_if _ _ _ _ _ _ _ _ (@pt_cmpR _ _ _ _ _ _ _ _ (@op_eq _) (@pe_op _ _ _ _ _ _ _ _ (@op_mod _) (pv 0) (@pe_int _ _ _ _)) (@pe_int _ _ _ _) (nomark _)) (@pss_one _ _ _ (@ps_ret _ _ _ _ (@pe_int _ _ _ _))) (@pss_nil _)) (@pss_cons _ _ _ _ _ (@ps_if _ _ _ _ _ _ _ _ (@pt_cmpR _ _ _ _ _ _ _ _ (@op_eq _) (@pe_op _ _ _ _ _ _ _ _ (@op_mod _) (pv 0) (@pe_int _ _ _ _)) (@pe_int _ _ _ _) (nomark _)) (@pss_one _ _ _ (@ps_ret _ _ _ _ (@pe_op _ _ _ _ _ _ _ _ (@op_add _) (@pe_int _ _ _ _) (@pe_op _ _ _ _ _ _ _ _ (@op_mod _) (@pe_op _ _ _ _ _ _ _ _ (@op_fdiv _) (pv 0) (@pe_int _ _ _ _)) (@pe_int _ _ _ _))))) (@pss_nil _)) (@pss_one _ _ _ (@ps_ret _ _ _ _ (@pe_op _ _ _ _ _ _ _ _ (@op_add _) (@pe_int _ _ _ _) (@pe_op _ _ _ _ _ _ _ _ (@op_mod _) (@pe_op _ _ _ _ _ _ _ _ (@op_fdiv _) (pv 0) (@pe_int _ _ _ _)) (@pe_int _ _ _ _))))))), ?_⟩
    try dsimp only [cxK]
    have nat : ∀ {v : Int}, 1 ≤ v → v ≤ 40 → Q (.int v) H := fun {v} h0 h1 => by
      obtain ⟨n, rfl⟩ := Int.eq_ofNat_of_zero_le (show 0 ≤ v by lia)
      exact q n (by lia) (by lia)
    refine ⟨_, rfl, _, _, rfl, rfl, (by show (0 : Int) < 8; decide), rfl, _, rfl, ?_⟩
    refine ite2 (fun _ => nat (v := 40) (by decide) (by decide)) (fun _ => ?_)
    refine ⟨_, rfl, _, _, rfl, rfl, (by show (0 : Int) < 8; decide), rfl, _, rfl, ?_⟩
    refine ite2 (fun _ => ?_) (fun _ => ?_)
    · exact ⟨_, rfl, _, _, rfl, rfl, ⟨by decide, by decide⟩, _, _, rfl, rfl, (by show (0 : Int) < 40; decide), _, _, rfl, rfl, nat (by show 1 ≤ 1 + c / 8 % 40; lia) (by show 1 + c / 8 % 40 ≤ 40; lia)⟩
    · exact ⟨_, rfl, _, _, rfl, rfl, ⟨by decide, by decide⟩, _, _, rfl, rfl, (by show (0 : Int) < 12; decide), _, _, rfl, rfl, nat (by show 1 ≤ 1 + c / 8 % 12; lia) (by show 1 + c / 8 % 12 ≤ 40; lia)⟩
theorem pow2_le {b : Nat} (h : b ≤ 40) : (2 : Int) ^ b ≤ 2 ^ 40 := by
  have := Nat.pow_le_pow_right (show 0 < 2 by decide) h
  exact_mod_cast this
theorem pow2_le39 {b : Nat} (h : b ≤ 39) : (2 : Int) ^ b ≤ 2 ^ 39 := by
  have := Nat.pow_le_pow_right (show 0 < 2 by decide) h
  exact_mod_cast this
inductive SpSpot (vs : List V) (H : Hp) (Q : VK) : Prop
  | mk (c : Int) (b : Nat) (_ : vs = [.int c, .int (b : Int)]) (_ : 1 ≤ b) (_ : b ≤ 40) (_ : ∀ (p : Int) (H' : Hp), -(2 ^ 40) ≤ p → p < 2 ^ 40 → Same H H' → Q (.int p) H') : SpSpot vs H Q
def spSpot : Sp := fun vs H Q _ => SpSpot vs H Q
theorem ok_spot {f : Addr} {fd : FuncData} (F : Fun K "_law_spot" "_law_spot" s__law_spot f fd) (T : Top K mg a) : FnOk P w K mg base CX0 1 f fd p__law_spot spSpot := by
  refine F.ok sc__law_spot (fun vs H Q E h => ?_) (fun cdv A outer s H vs Q E hr h => ?_)
  · obtain ⟨c, b, rfl, _⟩ := h
    rfl
  · obtain ⟨c, b, rfl, b1, b40, q⟩ := h
    refine ⟨_, (@pss_cons _ _ _ _ _ (@ps_set _ _ (2) _ _ _ _ sc__law_spot.nd rfl (Or.inl rfl) (@pe_op _ _ _ _ _ _ _ _ (@op_mod _) (pv 0) (@pe_int _ _ _ _)) rfl (by first | exact .inl rfl | exact .inr rfl | assumption)) (@pss_cons _ _ _ _ _ (@ps_set _ _ (3) _ _ _ _ sc__law_spot.nd rfl (Or.inl rfl) (@pe_op _ _ _ _ _ _ _ _ (@op_fdiv _) (pv 0) (@pe_int _ _ _ _)) rfl (by first | exact .inl rfl | exact .inr rfl | assumption)) (@pss_cons _ _ _ _ _ (@ps_set _ _ (4) _ _ _ _ sc__law_spot.nd rfl (Or.inl rfl) (@pe_op _ _ _ _ _ _ _ _ (@op_shl _) (@pe_int _ _ _ _) (pv 1)) rfl (by first | exact .inl rfl | exact .inr rfl | assumption)) (@pss_cons _ _ _ _ _ (@ps_if _ _ _ _ _ _ _ _ (@pt_cmpR _ _ _ _ _ _ _ _ (@op_eq _) (pv 2) (@pe_int _ _ _ _) (nomark _)) (@pss_one _ _ _ (@ps_ret _ _ _ _ (@pe_op _ _ _ _ _ _ _ _ (@op_sub _) (@pe_op _ _ _ _ _ _ _ _ (@op_mod _) (pv 3) (@pe_op _ _ _ _ _ _ _ _ (@op_mul _) (@pe_int _ _ _ _) (pv 4))) (pv 4)))) (@pss_nil _)) (@pss_cons _ _ _ _ _ (@ps_if _ _ _ _ _ _ _ _ (@pt_cmpR _ _ _ _ _ _ _ _ (@op_eq _) (pv 2) (@pe_int _ _ _ _) (nomark _)) (@pss_one _ _ _ (@ps_ret _ _ _ _ (@pe_op _ _ _ _ _ _ _ _ (@op_sub _) (@pe_op _ _ _ _ _ _ _ _ (@op_add _) (@pe_op _ _ _ _ _ _ _ _ (@op_mul _) (@pe_op _ _ _ _ _ _ _ _ (@op_sub _) (@pe_int _ _ _ _) (@pe_op _ _ _ _ _ _ _ _ (@op_mul _) (@pe_int _ _ _ _) (@pe_op _ _ _ _ _ _ _ _ (@op_mod _) (pv 3) (@pe_int _ _ _ _)))) (@pe_op _ _ _ _ _ _ _ _ (@op_shl _) (@pe_int _ _ _ _) (@pe_op _ _ _ _ _ _ _ _ (@op_mod _) (@pe_op _ _ _ _ _ _ _ _ (@op_fdiv _) (pv 3) (@pe_int _ _ _ _)) (pv 1)))) (@pe_op _ _ _ _ _ _ _ _ (@op_mod _) (@pe_op _ _ _ _ _ _ _ _ (@op_fdiv _) (pv 3) (@pe_int _ _ _ _)) (@pe_int _ _ _ _))) (@pe_int _ _ _ _)))) (@pss_nil _)) (@pss_cons _ _ _ _ _ (@ps_if _ _ _ _ _ _ _ _ (@pt_cmpR _ _ _ _ _ _ _ _ (@op_eq _) (pv 2) (@pe_int _ _ _ _) (nomark _)) (@pss_one _ _ _ (@ps_ret _ _ _ _ (@pe_ix _ _ _ _ _ _ _ (@ix_list _) (@pe_lst _ _ _ _ (@pa_op _ _ _ _ _ _ _ _ _ _ (@op_sub _) (@pe_int _ _ _ _) (pv 4) (@pa_op _ _ _ _ _ _ _ _ _ _ (@op_sub _) (pv 4) (@pe_int _ _ _ _) (@pa_cons _ _ _ _ _ (@pe_un _ _ _ _ _ _ (@un_neg _) (@pe_int _ _ _ _)) (@pa_int _ _ _ _ _ _ (@pa_nil _)) rfl)))) (@pe_op _ _ _ _ _ _ _ _ (@op_mod _) (pv 3) (@pe_int _ _ _ _)) (fun _ _ => rfl)))) (@pss_nil _)) (@pss_one _ _ _ (@ps_ret _ _ _ _ (@pe_op _ _ _ _ _ _ _ _ (@op_sub _) (@pe_op _ _ _ _ _ _ _ _ (@op_mod _) (pv 3) (@pe_int _ _ _ _)) (@pe_int _ _ _ _)))))))))), ?_⟩
    try dsimp only [cxK]
    have p := pow2_nn b
    have pl := pow2_le b40
    have e40 : (2 : Int) ^ 40 = 1099511627776 := by decide
    have e39 : (2 : Int) ^ 39 = 549755813888 := by decide
    have e2 : (1 : Int) * 2 ^ ((b : Int)).toNat = 2 ^ b := by rw [Int.toNat_natCast]; lia
    refine ⟨_, rfl, _, _, rfl, rfl, (by show (0 : Int) < 7; decide), ?_⟩
    refine ⟨_, rfl, _, _, rfl, rfl, ⟨by decide, by decide⟩, ?_⟩
    refine ⟨_, rfl, _, _, rfl, rfl, ⟨by lia, by lia, by decide⟩, ?_⟩
    rw [show (fun (i j : Int) => V.int (i * 2 ^ j.toNat)) 1 (b : Int) = V.int (2 ^ b) from congrArg V.int e2]
    have low : ∀ {z : Int}, ∃ k : Nat, k ≤ 39 ∧ z % (b : Int) = (k : Int) := fun {z} => by
      have h0 := Int.emod_nonneg z (show (b : Int) ≠ 0 by lia)
      have h1 := Int.emod_lt_of_pos z (show (0 : Int) < b by lia)
      obtain ⟨k, hk⟩ := Int.eq_ofNat_of_zero_le h0
      exact ⟨k, by lia, hk⟩
    obtain ⟨kk, k39, ek⟩ := low (z := c / 7 / 2)
    have pk := pow2_le39 k39
    have pkp := pow2_nn kk
    have e3 : (1 : Int) * 2 ^ ((c / 7 / 2 % (b : Int))).toNat = 2 ^ kk := by rw [ek, Int.toNat_natCast]; lia
    refine ⟨_, rfl, rfl, _, rfl, ite2 (fun _ => ?_) (fun _ => ?_)⟩
    · have m1 := Int.emod_nonneg (c / 7) (show 2 * (2 : Int) ^ b ≠ 0 by lia)
      have m2 := Int.emod_lt_of_pos (c / 7) (show (0 : Int) < 2 * 2 ^ b by lia)
      exact ⟨_, rfl, _, rfl, _, _, rfl, rfl, .inl ⟨by decide, by decide⟩, _, _, rfl, rfl, (by show (0 : Int) < 2 * 2 ^ b; lia), _, rfl, _, _, rfl, rfl, q _ H (by show -(2 ^ 40) ≤ c / 7 % (2 * 2 ^ b) - 2 ^ b; lia) (by show c / 7 % (2 * 2 ^ b) - 2 ^ b < 2 ^ 40; lia) (Same.refl H)⟩
    refine ⟨_, rfl, rfl, _, rfl, ite2 (fun _ => ?_) (fun _ => ?_)⟩
    · refine ⟨_, rfl, _, _, rfl, rfl, (by show (0 : Int) < 2; decide), _, _, rfl, rfl, .inl ⟨by decide, by decide⟩, _, _, rfl, rfl, _, rfl, _, _, rfl, rfl, ⟨by decide, by decide⟩, _, rfl, _, _, rfl, rfl, (by show (0 : Int) < b; lia), _, _, rfl, rfl, ⟨by show 0 ≤ c / 7 / 2 % (b : Int); lia, by show c / 7 / 2 % (b : Int) ≤ 1000000; lia, by decide⟩, _, _, rfl, rfl, ?_⟩
      refine ⟨.inl ⟨by show -(2 ^ 64) < 1 - 2 * (c / 7 % 2); lia, by show 1 - 2 * (c / 7 % 2) < 2 ^ 64; lia⟩, _, rfl, _, _, rfl, rfl, ⟨by decide, by decide⟩, _, _, rfl, rfl, (by show (0 : Int) < 3; decide), _, _, rfl, rfl, _, _, rfl, rfl, ?_⟩
      have two : c / 7 % 2 = 0 ∨ c / 7 % 2 = 1 := by lia
      have bd : -(2 ^ 40) ≤ (1 - 2 * (c / 7 % 2)) * (1 * 2 ^ ((c / 7 / 2 % (b : Int))).toNat) + c / 7 / 80 % 3 - 1 ∧ (1 - 2 * (c / 7 % 2)) * (1 * 2 ^ ((c / 7 / 2 % (b : Int))).toNat) + c / 7 / 80 % 3 - 1 < 2 ^ 40 := by
        rw [e3]
        rcases two with z | z <;> rw [z] <;> constructor <;> lia
      exact q _ H bd.1 bd.2 (Same.refl H)
    refine ⟨_, rfl, rfl, _, rfl, ite2 (fun _ => ?_) (fun _ => ?_)⟩
    · refine ⟨_, rfl, _, _, rfl, rfl, _, rfl, _, _, rfl, rfl, _, rfl, (by show 4 ≤ sizeLine; decide), fun L hL => ?_⟩
      obtain ⟨m, hm⟩ := Int.eq_ofNat_of_zero_le (show 0 ≤ c / 7 % 4 by lia)
      have s1 := same_up (o := .lst [.int (0 - 2 ^ b), .int (2 ^ b - 1), .int (-1), .int 0]) hL
      have at4 : ∃ v : Int, [V.int (0 - 2 ^ b), V.int (2 ^ b - 1), V.int (-1), V.int 0][m]? = some (.int v) ∧ -(2 ^ 40) ≤ v ∧ v < 2 ^ 40 := by
        have : m < 4 := by lia
        match m, this with
        | 0, _ => exact ⟨_, rfl, by lia, by lia⟩
        | 1, _ => exact ⟨_, rfl, by lia, by lia⟩
        | 2, _ => exact ⟨_, rfl, by lia, by lia⟩
        | 3, _ => exact ⟨_, rfl, by lia, by lia⟩
      obtain ⟨v, ev, v1, v2⟩ := at4
      exact ⟨_, rfl, _, _, rfl, rfl, (by show (0 : Int) < 4; decide), L, _, c / 7 % 4, .int v, rfl, rfl, SqL.of upd_same, by rw [hm]; exact atI_nat ev, q v _ v1 v2 s1⟩
    · exact ⟨_, rfl, _, _, rfl, rfl, (by show (0 : Int) < 6; decide), _, _, rfl, rfl, q _ H (by show -(2 ^ 40) ≤ c / 7 % 6 - 3; lia) (by show c / 7 % 6 - 3 < 2 ^ 40; lia) (Same.refl H)⟩
def rJ (U : Int) (L : Nat) : Int := if U < (L : Int) then U else (L : Int)
structure RngOk (U : Int) (L : Nat) : Prop where
  sm : Builtin.Range.small 4 (rJ U L) 3 = true
  sz : Builtin.Range.rangeSize 4 (rJ U L) 3 = (((Builtin.Range.rangeSize 4 (rJ U L) 3).toNat : Nat) : Int)
  ab : (rJ U L - 4).natAbs < 1073741824
  le : (Builtin.Range.rangeSize 4 (rJ U L) 3).toNat ≤ 20
theorem rng24 : ∀ L : Nat, L < 64 → (Builtin.Range.small 4 (rJ 64 L) 3 = true ∧ Builtin.Range.rangeSize 4 (rJ 64 L) 3 = (((Builtin.Range.rangeSize 4 (rJ 64 L) 3).toNat : Nat) : Int) ∧ (rJ 64 L - 4).natAbs < 1073741824 ∧ (Builtin.Range.rangeSize 4 (rJ 64 L) 3).toNat ≤ 20) ∧ (Builtin.Range.small 4 (rJ 28 L) 3 = true ∧ Builtin.Range.rangeSize 4 (rJ 28 L) 3 = (((Builtin.Range.rangeSize 4 (rJ 28 L) 3).toNat : Nat) : Int) ∧ (rJ 28 L - 4).natAbs < 1073741824 ∧ (Builtin.Range.rangeSize 4 (rJ 28 L) 3).toNat ≤ 20) := by decide +kernel
theorem rng_of {c : Prop} [Decidable c] {L : Nat} (h : L < 64) : RngOk (64 - 36 * (if decide c = true then 1 else 0)) L := by
  obtain ⟨⟨a1, a2, a3, a4⟩, b1, b2, b3, b4⟩ := rng24 L h
  split
  · exact ⟨b1, b2, b3, b4⟩
  · exact ⟨a1, a2, a3, a4⟩
structure Drn (H : Hp) (L : Addr) (ts : List Addr) (cs : List Cl) (n : Nat) : Prop where
  hL : H L = some (.lst (ts.map V.ref))
  pr : Paired (ClAt H) ts cs
  ok : ∀ c ∈ cs, ClOk c
  len : cs.length ≤ n
theorem Drn.tl {H : Hp} {L : Addr} {ts : List Addr} {cs : List Cl} {n : Nat} (h : Drn H L ts cs n) : ts.length = cs.length := Paired.length h.pr
theorem Drn.same {H H' : Hp} {L : Addr} {ts : List Addr} {cs : List Cl} {n : Nat} (h : Drn H L ts cs n) (s : Same H H') : Drn H' L ts cs n := ⟨s _ _ h.hL, PairedM.imp (fun t c z => s _ _ z) h.pr, h.ok, h.len⟩
theorem Drn.add {H : Hp} {L t : Addr} {ts : List Addr} {cs : List Cl} {n : Nat} {c : Cl} (h : Drn H L ts cs n) (ht : ClAt H t c) (ok : ClOk c) : Drn (upd H L (.lst (ts.map V.ref ++ [.ref t]))) L (ts ++ [t]) (cs ++ [c]) (n + 1) := by
  have tp : ∀ {b : Addr} {ys : List V}, H b = some (.tup ys) → upd H L (.lst (ts.map V.ref ++ [.ref t])) b = some (.tup ys) := fun {b ys} e => by rw [upd_ne (ne_of e h.hL (by intro z; cases z))]; exact e
  refine ⟨by rw [upd_same, List.map_append]; rfl, Paired.snoc (PairedM.imp (fun b c z => tp z) h.pr) (show ClAt _ t c from tp ht), fun d hd => ?_, by rw [List.length_append]; have := h.len; show cs.length + 1 ≤ n + 1; lia⟩
  rcases List.mem_append.mp hd with hd | hd
  · exact h.ok d hd
  · rw [List.mem_singleton.mp hd]
    exact ok
theorem Drn.mono {H : Hp} {L : Addr} {ts : List Addr} {cs : List Cl} {n m : Nat} (h : Drn H L ts cs n) (l : n ≤ m) : Drn H L ts cs m := ⟨h.hL, h.pr, h.ok, Nat.le_trans h.len l⟩
theorem up_same {H H1 : Hp} {L : Addr} {o : HO} (n : H L = none) (s : Same H H1) : Same H (upd H1 L o) := fun b u e => by
  rw [upd_ne (ne_of_none e n)]
  exact s _ _ e
inductive SpCb (K : PySem.W.Frag) (vs : List V) (H : Hp) (Q : VK) : Prop
  | mk (l : Addr) (ns : List Int) (_ : vs = [.ref l]) (_ : SqL K H l (ns.map V.int)) (_ : ns.length < 64) (_ : ∀ (L : Addr) (ts : List Addr) (cs : List Cl) (H' : Hp), Same H H' → H L = none → Drn H' L ts cs 84 → Q (.ref L) H') : SpCb K vs H Q
def spCb (K : PySem.W.Frag) : Sp := fun vs H Q _ => SpCb K vs H Q
theorem ok_cb {f : Addr} {fd : FuncData} (F : Fun K "_law_cells_by" "_law_cells_by" s__law_cells_by f fd) (T : Top K mg a) (C__law_at : Cal P w K mg base CX0 1 "_law_at" p__law_at (spAt K)) (C__law_bits : Cal P w K mg base CX0 1 "_law_bits" p__law_bits spBits) (C__law_spot : Cal P w K mg base CX0 1 "_law_spot" p__law_spot spSpot) : FnOk P w K mg base CX0 2 f fd p__law_cells_by (spCb K) := by
  refine F.ok sc__law_cells_by (fun vs H Q E h => ?_) (fun cdv A outer s H vs Q E hr h => ?_)
  · obtain ⟨l, ns, rfl, _⟩ := h
    rfl
  · obtain ⟨l, ns, rfl, hS, ln, q⟩ := h
    refine ⟨_, (@pss_cons _ _ _ _ _ (@ps_set _ _ (1) _ _ _ _ sc__law_cells_by.nd rfl (Or.inl rfl) (@pe_lst _ _ _ _ (@pa_nil _)) rfl (by first | exact .inl rfl | exact .inr rfl | assumption)) (@pss_cons _ _ _ _ _ (@ps_set _ _ (2) _ _ _ _ sc__law_cells_by.nd rfl (Or.inl rfl) (@pe_ix _ _ _ _ _ _ _ (@ix_tup _) (@pe_tup _ _ _ _ _ (@pa_int _ _ _ _ _ _ (@pa_int _ _ _ _ _ _ (@pa_int _ _ _ _ _ _ (@pa_int _ _ _ _ _ _ (@pa_int _ _ _ _ _ _ (@pa_int _ _ _ _ _ _ (@pa_int _ _ _ _ _ _ (@pa_int _ _ _ _ _ _ (@pa_nil _)))))))))) (@pe_op _ _ _ _ _ _ _ _ (@op_mod _) (@pe_op _ _ _ _ _ _ _ _ (@op_fdiv _) (@pe_cal _ _ _ _ _ _ _ _ _ _ _ _ C__law_at (rm hr) rfl pass0 (@pa_cons _ _ _ _ _ (pv 0) (@pa_int _ _ _ _ _ _ (@pa_nil _)) rfl) (by decide) rfl rfl) (@pe_int _ _ _ _)) (@pe_int _ _ _ _)) (fun _ _ => rfl)) rfl (by first | exact .inl rfl | exact .inr rfl | assumption)) (@pss_cons _ _ _ _ _ (@ps_for _ _ _ _ _ _ _ _ PassesOwn.never rfl (@pi_range2 _ _ _ _ _ _ _ rfl T.b_range (@pa_op _ _ _ _ _ _ _ _ _ _ (@op_sub _) (@pe_int _ _ _ _) (pv 2) (@pa_cons _ _ _ _ _ (pv 2) (@pa_nil _) rfl)) rfl rfl) (@pg_name _ _ (3) _ sc__law_cells_by.nd rfl (Or.inl rfl) (by first | exact .inl rfl | exact .inr rfl | assumption)) (@pss_one _ _ _ (@ps_for _ _ _ _ _ _ _ _ PassesOwn.never rfl (@pi_range2 _ _ _ _ _ _ _ rfl T.b_range (@pa_op _ _ _ _ _ _ _ _ _ _ (@op_sub _) (@pe_int _ _ _ _) (pv 2) (@pa_cons _ _ _ _ _ (pv 2) (@pa_nil _) rfl)) rfl rfl) (@pg_name _ _ (4) _ sc__law_cells_by.nd rfl (Or.inl rfl) (by first | exact .inl rfl | exact .inr rfl | assumption)) (@pss_one _ _ _ (@ps_expr _ _ _ _ (@pe_bm _ _ _ _ _ _ _ _ _ _ _ _ PySem.F.plainAttrs_list PySem.F.slot_list_append PySem.F.type_list_append (@mt_append _) (pv 1) (@pa_tup _ _ _ _ _ _ _ (@pa_cons _ _ _ _ _ (pv 4) (@pa_cons _ _ _ _ _ (pv 3) (@pa_op _ _ _ _ _ _ _ _ _ _ (@op_add _) (@pe_int _ _ _ _) (@pe_op _ _ _ _ _ _ _ _ (@op_mod _) (@pe_op _ _ _ _ _ _ _ _ (@op_add _) (@pe_op _ _ _ _ _ _ _ _ (@op_fdiv _) (@pe_cal _ _ _ _ _ _ _ _ _ _ _ _ C__law_at (rm hr) rfl pass0 (@pa_cons _ _ _ _ _ (pv 0) (@pa_int _ _ _ _ _ _ (@pa_nil _)) rfl) (by decide) rfl rfl) (@pe_int _ _ _ _)) (@pe_op _ _ _ _ _ _ _ _ (@op_mul _) (pv 4) (@pe_op _ _ _ _ _ _ _ _ (@op_mod _) (@pe_cal _ _ _ _ _ _ _ _ _ _ _ _ C__law_at (rm hr) rfl pass0 (@pa_cons _ _ _ _ _ (pv 0) (@pa_int _ _ _ _ _ _ (@pa_nil _)) rfl) (by decide) rfl rfl) (@pe_int _ _ _ _)))) (@pe_int _ _ _ _)) (@pa_nil _)) rfl) rfl) (@pa_nil _)) rfl rfl rfl rfl rfl) rfl)) (by intro _ ; rfl))) (by intro _ ; rfl)) (@pss_cons _ _ _ _ _ (@ps_set _ _ (5) _ _ _ _ sc__law_cells_by.nd rfl (Or.inl rfl) (@pe_cal _ _ _ _ _ _ _ _ _ _ _ _ C__law_bits (rm hr) rfl pass0 (@pa_cons _ _ _ _ _ (@pe_cal _ _ _ _ _ _ _ _ _ _ _ _ C__law_at (rm hr) rfl pass0 (@pa_cons _ _ _ _ _ (pv 0) (@pa_int _ _ _ _ _ _ (@pa_nil _)) rfl) (by decide) rfl rfl) (@pa_nil _) rfl) (by decide) rfl rfl) rfl (by first | exact .inl rfl | exact .inr rfl | assumption)) (@pss_cons _ _ _ _ _ (@ps_for _ _ _ _ _ _ _ _ PassesOwn.never rfl (@pi_range3 _ _ _ _ _ _ _ _ rfl T.b_range (@pa_int _ _ _ _ _ _ (@pa_cons _ _ _ _ _ (@pe_callB _ _ _ _ _ _ _ _ _ (@call_min2 _ rfl) rfl T.b_min PyProof.Rows.boot_min (@pa_cons _ _ _ _ _ (@pe_callB _ _ _ _ _ _ _ _ _ (@call_len_seq _) rfl T.b_len PySem.boot_len (@pa_cons _ _ _ _ _ (pv 0) (@pa_nil _) rfl) (by decide) (by decide) rfl rfl) (@pa_op _ _ _ _ _ _ _ _ _ _ (@op_sub _) (@pe_int _ _ _ _) (@pe_op _ _ _ _ _ _ _ _ (@op_mul _) (@pe_int _ _ _ _) (@pe_callTy _ _ _ _ _ _ _ _ _ (@call_int1 _) rfl T.b_int PyProof.Rows.boot_int (@pa_cons _ _ _ _ _ (@pe_cmpR _ _ _ _ _ _ _ _ (@op_gt _) (pv 5) (@pe_int _ _ _ _) (nomark _)) (@pa_nil _) rfl) (by decide) (by decide) rfl rfl)) (@pa_nil _)) rfl) (by decide) (by decide) rfl rfl) (@pa_int _ _ _ _ _ _ (@pa_nil _)) rfl)) rfl rfl) (@pg_name _ _ (6) _ sc__law_cells_by.nd rfl (Or.inl rfl) (by first | exact .inl rfl | exact .inr rfl | assumption)) (@pss_cons _ _ _ _ _ (@ps_set _ _ (4) _ _ _ _ sc__law_cells_by.nd rfl (Or.inl rfl) (@pe_cal _ _ _ _ _ _ _ _ _ _ _ _ C__law_spot (rm hr) rfl pass0 (@pa_cons _ _ _ _ _ (@pe_cal _ _ _ _ _ _ _ _ _ _ _ _ C__law_at (rm hr) rfl pass0 (@pa_cons _ _ _ _ _ (pv 0) (@pa_cons _ _ _ _ _ (pv 6) (@pa_nil _) rfl) rfl) (by decide) rfl rfl) (@pa_cons _ _ _ _ _ (pv 5) (@pa_nil _) rfl) rfl) (by decide) rfl rfl) rfl (by first | exact .inl rfl | exact .inr rfl | assumption)) (@pss_cons _ _ _ _ _ (@ps_set _ _ (3) _ _ _ _ sc__law_cells_by.nd rfl (Or.inl rfl) (@pe_cal _ _ _ _ _ _ _ _ _ _ _ _ C__law_spot (rm hr) rfl pass0 (@pa_cons _ _ _ _ _ (@pe_cal _ _ _ _ _ _ _ _ _ _ _ _ C__law_at (rm hr) rfl pass0 (@pa_cons _ _ _ _ _ (pv 0) (@pa_op _ _ _ _ _ _ _ _ _ _ (@op_add _) (pv 6) (@pe_int _ _ _ _) (@pa_nil _)) rfl) (by decide) rfl rfl) (@pa_cons _ _ _ _ _ (pv 5) (@pa_nil _) rfl) rfl) (by decide) rfl rfl) rfl (by first | exact .inl rfl | exact .inr rfl | assumption)) (@pss_cons _ _ _ _ _ (@ps_set _ _ (7) _ _ _ _ sc__law_cells_by.nd rfl (Or.inl rfl) (@pe_op _ _ _ _ _ _ _ _ (@op_mod _) (@pe_op _ _ _ _ _ _ _ _ (@op_fdiv _) (@pe_cal _ _ _ _ _ _ _ _ _ _ _ _ C__law_at (rm hr) rfl pass0 (@pa_cons _ _ _ _ _ (pv 0) (@pa_op _ _ _ _ _ _ _ _ _ _ (@op_add _) (pv 6) (@pe_int _ _ _ _) (@pa_nil _)) rfl) (by decide) rfl rfl) (@pe_int _ _ _ _)) (@pe_int _ _ _ _)) rfl (by first | exact .inl rfl | exact .inr rfl | assumption)) (@pss_cons _ _ _ _ _ (@ps_if _ _ _ _ _ _ _ _ (@PW.pt _ _ _ (@pw_and _ _ _ _ _ _ _ (@pt_cmpR _ _ _ _ _ _ _ _ (@op_eq _) (@pe_op _ _ _ _ _ _ _ _ (@op_mod _) (@pe_cal _ _ _ _ _ _ _ _ _ _ _ _ C__law_at (rm hr) rfl pass0 (@pa_cons _ _ _ _ _ (pv 0) (@pa_op _ _ _ _ _ _ _ _ _ _ (@op_add _) (pv 6) (@pe_int _ _ _ _) (@pa_nil _)) rfl) (by decide) rfl rfl) (@pe_int _ _ _ _)) (@pe_int _ _ _ _) (nomark _)) (@pw_and1 _ _ _ _ (@pt_cmpR _ _ _ _ _ _ _ _ (@op_gt _) (@pe_callB _ _ _ _ _ _ _ _ _ (@call_len_seq _) rfl T.b_len PySem.boot_len (@pa_cons _ _ _ _ _ (pv 1) (@pa_nil _) rfl) (by decide) (by decide) rfl rfl) (@pe_int _ _ _ _) (nomark _))))) (@pss_cons _ _ _ _ _ (@ps_set _ _ (4) _ _ _ _ sc__law_cells_by.nd rfl (Or.inl rfl) (@pe_ix _ _ _ _ _ _ _ (@ix_tup _) (@pe_ix _ _ _ _ _ _ _ (@ix_list _) (pv 1) (@pe_op _ _ _ _ _ _ _ _ (@op_mod _) (@pe_cal _ _ _ _ _ _ _ _ _ _ _ _ C__law_at (rm hr) rfl pass0 (@pa_cons _ _ _ _ _ (pv 0) (@pa_cons _ _ _ _ _ (pv 6) (@pa_nil _) rfl) rfl) (by decide) rfl rfl) (@pe_callB _ _ _ _ _ _ _ _ _ (@call_len_seq _) rfl T.b_len PySem.boot_len (@pa_cons _ _ _ _ _ (pv 1) (@pa_nil _) rfl) (by decide) (by decide) rfl rfl)) (fun _ _ => rfl)) (@pe_int _ _ _ _) (fun _ _ => rfl)) rfl (by first | exact .inl rfl | exact .inr rfl | assumption)) (@pss_one _ _ _ (@ps_set _ _ (3) _ _ _ _ sc__law_cells_by.nd rfl (Or.inl rfl) (@pe_ix _ _ _ _ _ _ _ (@ix_tup _) (@pe_ix _ _ _ _ _ _ _ (@ix_list _) (pv 1) (@pe_op _ _ _ _ _ _ _ _ (@op_mod _) (@pe_cal _ _ _ _ _ _ _ _ _ _ _ _ C__law_at (rm hr) rfl pass0 (@pa_cons _ _ _ _ _ (pv 0) (@pa_cons _ _ _ _ _ (pv 6) (@pa_nil _) rfl) rfl) (by decide) rfl rfl) (@pe_callB _ _ _ _ _ _ _ _ _ (@call_len_seq _) rfl T.b_len PySem.boot_len (@pa_cons _ _ _ _ _ (pv 1) (@pa_nil _) rfl) (by decide) (by decide) rfl rfl)) (fun _ _ => rfl)) (@pe_int _ _ _ _) (fun _ _ => rfl)) rfl (by first | exact .inl rfl | exact .inr rfl | assumption)))) (@pss_nil _)) (@pss_one _ _ _ (@ps_expr _ _ _ _ (@pe_bm _ _ _ _ _ _ _ _ _ _ _ _ PySem.F.plainAttrs_list PySem.F.slot_list_append PySem.F.type_list_append (@mt_append _) (pv 1) (@pa_tup _ _ _ _ _ _ _ (@pa_cons _ _ _ _ _ (pv 4) (@pa_cons _ _ _ _ _ (pv 3) (@pa_cons _ _ _ _ _ (pv 7) (@pa_nil _) rfl) rfl) rfl) (@pa_nil _)) rfl rfl rfl rfl rfl) rfl)))))) (by intro _ ; rfl)) (@pss_one _ _ _ (@ps_ret _ _ _ _ (pv 1)))))))), ?_⟩
    try dsimp only [cxK]
    refine ⟨(by show 0 ≤ sizeLine; decide), fun L hL => ?_⟩
    have s1 := same_up (o := .lst []) hL
    have d1 : Drn (upd H L (.lst [])) L [] [] 0 := ⟨upd_same, .nil, (fun c hc => nomatch hc), Nat.le_refl _⟩
    generalize upd H L (.lst []) = H1 at s1 d1 ⊢
    refine ⟨(by show 8 ≤ sizeLine; decide), fun U hU => ?_⟩
    have s2 := same_up (o := .tup [.int 0, .int 0, .int 1, .int 0, .int 2, .int 0, .int 4, .int 0]) hU
    have hU2 : upd H1 U (.tup [.int 0, .int 0, .int 1, .int 0, .int 2, .int 0, .int 4, .int 0]) U = some (.tup [.int 0, .int 0, .int 1, .int 0, .int 2, .int 0, .int 4, .int 0]) := upd_same
    generalize upd H1 U (.tup [.int 0, .int 0, .int 1, .int 0, .int 2, .int 0, .int 4, .int 0]) = H2 at s2 hU2 ⊢
    have d2 := d1.same s2
    have sm2 := s1.trans s2
    have hS2 := sm2.seq hS
    obtain ⟨m8, e8, l8⟩ := idx (n := 8) (by decide) (atN ns 0 / 5)
    have e8 : atN ns 0 / 5 % 8 = (m8 : Int) := e8
    obtain ⟨h, h4, hh⟩ : ∃ h : Nat, h ≤ 4 ∧ [V.int 0, V.int 0, V.int 1, V.int 0, V.int 2, V.int 0, V.int 4, V.int 0][m8]? = some (.int (h : Int)) := by
      match m8, l8 with
      | 0, _ => exact ⟨0, by decide, rfl⟩
      | 1, _ => exact ⟨0, by decide, rfl⟩
      | 2, _ => exact ⟨1, by decide, rfl⟩
      | 3, _ => exact ⟨0, by decide, rfl⟩
      | 4, _ => exact ⟨2, by decide, rfl⟩
      | 5, _ => exact ⟨0, by decide, rfl⟩
      | 6, _ => exact ⟨4, by decide, rfl⟩
      | 7, _ => exact ⟨0, by decide, rfl⟩
    refine ⟨_, rfl, l, ns, 0, rfl, hS2, by decide, _, _, rfl, rfl, ⟨by decide, by decide⟩, _, _, rfl, rfl, (by show (0 : Int) < 8; decide), U, _, (m8 : Int), .int (h : Int), rfl, congrArg V.int e8, SqT.of hU2, atI_nat hh, ?_⟩
    refine ⟨_, rfl, _, _, rfl, rfl, _, rfl, ?_⟩
    refine ⟨0 - (h : Int), (h : Int), rfl, ⟨by lia, by lia, by lia, by lia⟩, ?_⟩
    rw [show ((h : Int) - (0 - (h : Int))).toNat = 2 * h by lia]
    refine for_range (n := 2 * h) (fun i σ H3 => ∃ (ts : List Addr) (cs : List Cl) (u3 u4 : Option V), σ = [some (.ref l), some (.ref L), some (.int (h : Int)), u3, u4, none, none, none] ∧ Same H H3 ∧ Drn H3 L ts cs (8 * i)) ⟨[], [], none, none, rfl, sm2, d2⟩ ?_ ?_
    · rintro i σ H3 hi ⟨ts, cs, u3, u4, rfl, sm3, d3⟩
      refine ⟨_, rfl, _, _, rfl, rfl, _, rfl, 0 - (h : Int), (h : Int), rfl, ⟨by lia, by lia, by lia, by lia⟩, ?_⟩
      rw [show ((h : Int) - (0 - (h : Int))).toNat = 2 * h by lia]
      refine for_range (n := 2 * h) (fun j σ H4 => ∃ (ts : List Addr) (cs : List Cl) (u4 : Option V), σ = [some (.ref l), some (.ref L), some (.int (h : Int)), some (.int (0 - (h : Int) + (i : Int))), u4, none, none, none] ∧ Same H H4 ∧ Drn H4 L ts cs (8 * i + j)) ⟨ts, cs, u4, rfl, sm3, d3⟩ ?_ ?_
      · rintro j σ H4 hj ⟨ts, cs, u4, rfl, sm4, d4⟩
        have hS4 := sm4.seq hS
        refine ⟨_, rfl, .inl ⟨rfl, _, SqL.of d4.hL⟩, _, rfl, _, rfl, _, rfl, l, ns, 1, rfl, hS4, by decide, _, _, rfl, rfl, ⟨by decide, by decide⟩, _, rfl, _, rfl, l, ns, 2, rfl, hS4, by decide, _, _, rfl, rfl, (by show (0 : Int) < 3; decide), _, _, rfl, rfl, .inl ⟨by lia, by lia⟩, _, _, rfl, rfl, _, _, rfl, rfl, (by show (0 : Int) < 7; decide), _, _, rfl, rfl, (by show 3 ≤ sizeLine; decide), fun t ht => ?_⟩
        obtain ⟨st, hst, st7⟩ := idx (n := 7) (by decide) (atN ns 1 / 3 + (0 - (h : Int) + (j : Int)) * (atN ns 2 % 3))
        have hst : (atN ns 1 / 3 + (0 - (h : Int) + (j : Int)) * (atN ns 2 % 3)) % 7 = (st : Int) := hst
        rw [show (fun (i j : Int) => V.int (i + j)) 1 ((atN ns 1 / 3 + (0 - (h : Int) + (j : Int)) * (atN ns 2 % 3)) % 7) = V.int ((st + 1 : Nat) : Int) from congrArg V.int (by show 1 + (atN ns 1 / 3 + (0 - (h : Int) + (j : Int)) * (atN ns 2 % 3)) % 7 = _; lia)]
        have s5 := same_up (o := .tup [.int (0 - (h : Int) + (j : Int)), .int (0 - (h : Int) + (i : Int)), .int ((st + 1 : Nat) : Int)]) ht
        have ht5 : ClAt (upd H4 t (.tup [.int (0 - (h : Int) + (j : Int)), .int (0 - (h : Int) + (i : Int)), .int ((st + 1 : Nat) : Int)])) t ⟨0 - (h : Int) + (j : Int), 0 - (h : Int) + (i : Int), st + 1⟩ := upd_same
        generalize upd H4 t (.tup [.int (0 - (h : Int) + (j : Int)), .int (0 - (h : Int) + (i : Int)), .int ((st + 1 : Nat) : Int)]) = H5 at s5 ht5 ⊢
        have d5 := d4.same s5
        have dl := d5.len
        have dt := d5.tl
        exact ⟨L, _, .ref t, rfl, rfl, d5.hL, lt_ln (by rw [List.length_map]; lia), ts ++ [t], cs ++ [⟨0 - (h : Int) + (j : Int), 0 - (h : Int) + (i : Int), st + 1⟩], _, rfl, up_same hL (sm4.trans s5), d5.add ht5 ⟨⟨by dsimp only; lia, by dsimp only; lia, by dsimp only; lia, by dsimp only; lia⟩, by show st + 1 < 8; lia⟩⟩
      · rintro σ H4 ⟨ts, cs, u4, rfl, sm4, d4⟩
        exact ⟨ts, cs, _, _, rfl, sm4, d4.mono (by lia)⟩
    · rintro σ H3 ⟨ts, cs, u3, u4, rfl, sm3, d3⟩
      have d3 := d3.mono (show 8 * (2 * h) ≤ 64 by lia)
      have hS3 := sm3.seq hS
      refine ⟨_, rfl, l, ns, 3, rfl, hS3, by decide, _, rfl, fun b b1 b40 => ?_⟩
      refine ⟨_, rfl, l, _, rfl, .inl hS3, _, rfl, _, _, rfl, rfl, .inr ⟨_, rfl, _, _, rfl, rfl, .inl ⟨by decide, by decide⟩, _, _, rfl, rfl, _, _, rfl, ?_⟩⟩
      have RG := rng_of (c := (15 : Int) < (b : Int)) (L := ns.length) ln
      rw [List.length_map]
      refine ⟨4, rJ (64 - 36 * (if decide ((15 : Int) < (b : Int)) = true then 1 else 0)) ns.length, 3, _, rfl, by decide, RG.ab, by decide, RG.sm, RG.sz, ?_⟩
      have cnt := RG.le
      generalize (Builtin.Range.rangeSize 4 (rJ (64 - 36 * (if decide ((15 : Int) < (b : Int)) = true then 1 else 0)) ns.length) 3).toNat = cn at cnt ⊢
      clear RG
      refine for_range3 (fun i σ H4 => ∃ (ts : List Addr) (cs : List Cl) (u3 u4 u6 u7 : Option V), σ = [some (.ref l), some (.ref L), some (.int (h : Int)), u3, u4, some (.int b), u6, u7] ∧ Same H H4 ∧ Drn H4 L ts cs (64 + i)) ⟨ts, cs, _, _, _, _, rfl, sm3, d3⟩ ?_ ?_
      · rintro i σ H4 hi ⟨ts, cs, u3, u4, u6, u7, rfl, sm4, d4⟩
        have hS4 := sm4.seq hS
        refine ⟨_, rfl, _, rfl, l, ns, 4 + (i : Int) * 3, rfl, hS4, by lia, _, rfl, _, b, rfl, b1, b40, fun px H5 px0 px1 s5 => ?_⟩
        have hS5 := s5.seq hS4
        refine ⟨_, rfl, _, rfl, _, _, rfl, rfl, l, ns, 4 + (i : Int) * 3 + 1, rfl, hS5, by lia, _, rfl, _, b, rfl, b1, b40, fun py H6 py0 py1 s6 => ?_⟩
        have hS6 := s6.seq hS5
        have sm6 := (sm4.trans s5).trans s6
        have d6 := (d4.same s5).same s6
        refine ⟨_, rfl, _, rfl, _, _, rfl, rfl, l, ns, 4 + (i : Int) * 3 + 2, rfl, hS6, by lia, _, _, rfl, rfl, ⟨by decide, by decide⟩, _, _, rfl, rfl, (by show (0 : Int) < 8; decide), ?_⟩
        obtain ⟨st, hst, st8⟩ := idx (n := 8) (by decide) (atN ns (4 + (i : Int) * 3 + 2) / 2)
        have hst : atN ns (4 + (i : Int) * 3 + 2) / 2 % 8 = (st : Int) := hst
        rw [show (fun (i j : Int) => V.int (i % j)) ((fun (i j : Int) => i / j) (atN ns (4 + (i : Int) * 3 + 2)) 2) 8 = V.int (st : Int) from congrArg V.int hst]
        clear d4 sm4 s5 s6 hS4 hS5
        apply meetH (fun σ H7 => H6 = H7 ∧ ∃ x y : Int, Lies x y 1 1 (2 ^ 40) ∧ σ = [some (.ref l), some (.ref L), some (.int (h : Int)), some (.int y), some (.int x), some (.int b), some (.int (4 + (i : Int) * 3)), some (.int st)])
        · intro rest
          have r0 := rest _ H6 ⟨rfl, px, py, ⟨by lia, by lia, by lia, by lia⟩, rfl⟩
          refine ⟨_, rfl, _, rfl, _, _, rfl, rfl, l, ns, 4 + (i : Int) * 3 + 2, rfl, hS6, by lia, _, _, rfl, rfl, (by show (0 : Int) < 4; decide), rfl, _, rfl, ite2 (fun _ => ⟨_, rfl, L, _, rfl, .inl (SqL.of d6.hL), _, _, rfl, rfl, _, rfl, ite2 (fun hc => ?_) (fun _ => r0)⟩) (fun _ => iteF r0)⟩
          have hc := of_decide_eq_true hc
          rw [List.length_map] at hc
          have t0 : 0 < ts.length := by lia
          obtain ⟨j, ej, lj⟩ := idx t0 (atN ns (4 + (i : Int) * 3))
          have et := List.getElem?_eq_getElem lj
          generalize ts[j] = t at et
          obtain ⟨c, ec, hc'⟩ := PairedM.getL d6.pr et
          have hc' : H6 t = some (.tup [.int c.x, .int c.y, .int c.s]) := hc'
          have ix : atI (ts.map V.ref) (atN ns (4 + (i : Int) * 3) % (((ts.map V.ref).length : Nat) : Int)) = some (.ref t) := by
            rw [List.length_map, ej]
            exact atI_nat (by rw [List.getElem?_map, et]; rfl)
          have lz : (0 : Int) < (((ts.map V.ref).length : Nat) : Int) := by rw [List.length_map]; lia
          refine ⟨_, rfl, _, rfl, _, rfl, l, ns, 4 + (i : Int) * 3, rfl, hS6, by lia, _, rfl, L, _, rfl, .inl (SqL.of d6.hL), _, _, rfl, rfl, lz, L, _, _, .ref t, rfl, rfl, SqL.of d6.hL, ix, t, _, 0, .int c.x, rfl, rfl, SqT.of hc', atI_nat (j := 0) rfl, ?_⟩
          refine ⟨_, rfl, _, rfl, _, rfl, l, ns, 4 + (i : Int) * 3, rfl, hS6, by lia, _, rfl, L, _, rfl, .inl (SqL.of d6.hL), _, _, rfl, rfl, lz, L, _, _, .ref t, rfl, rfl, SqL.of d6.hL, ix, t, _, 1, .int c.y, rfl, rfl, SqT.of hc', atI_nat (j := 1) rfl, ?_⟩
          exact rest _ _ ⟨rfl, c.x, c.y, (d6.ok c (List.mem_of_getElem? ec)).li, rfl⟩
        rintro σ H7 ⟨rfl, x, y, lie, rfl⟩
        refine ⟨_, rfl, .inl ⟨rfl, _, SqL.of d6.hL⟩, _, rfl, _, rfl, _, rfl, (by show 3 ≤ sizeLine; decide), fun t ht => ?_⟩
        have s7 := same_up (o := .tup [.int x, .int y, .int st]) ht
        have ht7 : ClAt (upd H6 t (.tup [.int x, .int y, .int st])) t ⟨x, y, st⟩ := upd_same
        generalize upd H6 t (.tup [.int x, .int y, .int st]) = H7 at s7 ht7 ⊢
        have d7 := d6.same s7
        have dl := d7.len
        have dt := d7.tl
        exact ⟨L, _, .ref t, rfl, rfl, d7.hL, lt_ln (by rw [List.length_map]; lia), ts ++ [t], cs ++ [⟨x, y, st⟩], _, _, _, _, rfl, up_same hL (sm6.trans s7), d7.add ht7 ⟨lie, st8⟩⟩
      · rintro σ H4 ⟨ts, cs, u3, u4, u6, u7, rfl, sm4, d4⟩
        exact ⟨_, rfl, q L ts cs H4 sm4 hL (d4.mono (by lia))⟩
end
end J

namespace J
open PySem L2
def ByC (es : List Cl) : Prop := es.Pairwise fun p q => lexI [q.y, q.x] [p.y, p.x] = false
def liveC (ds : List Cl) : List Cl := (ds.filter fun c => decide (0 < c.s)).map swC
theorem live_snoc {ds : List Cl} {j : Nat} {c : Cl} (e : ds[j]? = some c) : liveC (ds.take (j + 1)) = if 0 < c.s then liveC (ds.take j) ++ [swC c] else liveC (ds.take j) := by
  unfold liveC
  rw [List.take_add_one, e]
  show (((ds.take j ++ [c]).filter fun c => decide (0 < c.s)).map swC) = _
  rw [List.filter_append, List.map_append]
  by_cases z : 0 < c.s
  · rw [if_pos z, List.filter_cons_of_pos (by simpa using z)]
    rfl
  · rw [if_neg z, List.filter_cons_of_neg (by simpa using z)]
    simp
theorem live_ok {ds ds2 cs : List Cl} (h : Dz ds (cs.map swC)) (pm : ds2.Perm ds) : DsOk (liveC ds2) (stC cs) := by
  have nd2 : (ds2.map fun c => (c.x, c.y)).Nodup := (pm.map _).nodup_iff.mpr h.nd
  refine ⟨?_, fun c => ?_⟩
  · unfold liveC
    rw [List.map_map, List.nodup_iff_pairwise_ne, List.pairwise_map]
    rw [List.nodup_iff_pairwise_ne, List.pairwise_map] at nd2
    refine (nd2.filter _).imp fun {c d} ne e => ne ?_
    have e : (c.y, c.x) = (d.y, d.x) := e
    injection e with e1 e2
    rw [e1, e2]
  · unfold liveC
    rw [List.mem_map]
    constructor
    · rintro ⟨d, hd, rfl⟩
      obtain ⟨h1, h2⟩ := List.mem_filter.mp hd
      have h2 := of_decide_eq_true h2
      have h3 := (h.mem d).mp (pm.mem_iff.mp h1)
      rw [stO_sw] at h3
      refine ⟨h2, ?_⟩
      show stC cs d.y d.x = d.s
      rw [stO_get, h3]
      rfl
    · rintro ⟨h1, h2⟩
      rw [stO_get] at h2
      have h3 : stO cs c.x c.y = some c.s := by
        cases e : stO cs c.x c.y with
        | none =>
          rw [e] at h2
          have h2 : 0 = c.s := h2
          lia
        | some v =>
          rw [e] at h2
          have h2 : v = c.s := h2
          rw [h2]
      refine ⟨swC c, List.mem_filter.mpr ⟨pm.mem_iff.mpr ((h.mem (swC c)).mpr ?_), decide_eq_true h1⟩, rfl⟩
      show stO (cs.map swC) c.y c.x = some c.s
      rw [stO_sw]
      exact h3
theorem live_by {ds2 : List Cl} (h : (ds2.map fun c => [c.x, c.y]).Pairwise fun p q => lexI q p = false) : ByC (liveC ds2) := by
  unfold ByC liveC
  rw [List.pairwise_map] at h ⊢
  exact h.filter _
theorem live_len {ds2 : List Cl} : (liveC ds2).length ≤ ds2.length := by
  unfold liveC
  rw [List.length_map]
  exact List.length_filter_le _ _
section
variable {P : Program} {w : World} {K : PySem.W.Frag} {mg : Str → Option Value} {base : Heap} {a : Ad}
inductive SpDue (vs : List V) (H : Hp) (Q : VK) : Prop
  | mk (L : Addr) (ts : List Addr) (cs : List Cl) (_ : vs = [.ref L]) (_ : Drn H L ts cs 84) (_ : ∀ (M : Addr) (us : List Addr) (es : List Cl) (H' : Hp), Same H H' → H M = none → Drn H' M us es 84 → DsOk es (stC cs.reverse) → ByC es → Q (.ref M) H') : SpDue vs H Q
def spDue : Sp := fun vs H Q _ => SpDue vs H Q
theorem ok_due {f : Addr} {fd : FuncData} (F : Fun K "_law_due" "_law_due" s__law_due f fd) (T : Top K mg a) : FnOk P w K mg base CX0 1 f fd p__law_due spDue := by
  refine F.ok sc__law_due (fun vs H Q E h => ?_) (fun cdv A outer s H vs Q E hr h => ?_)
  · obtain ⟨L, ts, cs, rfl, _⟩ := h
    rfl
  · obtain ⟨L, ts, cs, rfl, d0, k⟩ := h
    refine ⟨_, (@pss_cons _ _ _ _ _ (@ps_set _ _ (1) _ _ _ _ sc__law_due.nd rfl (Or.inr rfl) (@pe_dnewT _ _) rfl (by first | exact .inl rfl | exact .inr rfl | assumption)) (@pss_cons _ _ _ _ _ (@ps_for _ _ _ _ _ _ _ _ PassesOwn.never rfl (@pi_list _ _ _ _ (pv 0)) (@pg_tup _ _ _ _ _ _ rfl (@pgs_cons _ _ _ _ _ (@pg_name _ _ (2) _ sc__law_due.nd rfl (Or.inl rfl) (by first | exact .inl rfl | exact .inr rfl | assumption)) (@pgs_cons _ _ _ _ _ (@pg_name _ _ (3) _ sc__law_due.nd rfl (Or.inl rfl) (by first | exact .inl rfl | exact .inr rfl | assumption)) (@pgs_cons _ _ _ _ _ (@pg_name _ _ (4) _ sc__law_due.nd rfl (Or.inl rfl) (by first | exact .inl rfl | exact .inr rfl | assumption)) (@pgs_nil _) rfl) rfl) rfl) rfl rfl) (@pss_one _ _ _ (@ps_dput _ _ _ _ _ _ _ _ _ (hu_of hr) (pv 1) (@pe_tup _ _ _ _ _ (@pa_cons _ _ _ _ _ (pv 3) (@pa_cons _ _ _ _ _ (pv 2) (@pa_nil _) rfl) rfl)) (pv 4) rfl)) (by intro _ ; rfl)) (@pss_one _ _ _ (@ps_ret _ _ _ _ (@pe_comp _ _ _ _ _ _ _ _ _ _ _ _ _ _ rfl (@CScope.of _ ((defScope s__law_due)) (n__law_due) _ (["_law_place", "_law_due_here"]) (1) ([1]) rfl rfl (by decide +kernel)) (@pi_list _ _ _ _ (@pe_callB _ _ _ _ _ _ _ _ _ (@call_sortedKA _ rfl) rfl T.b_sorted PyProof.Rows.boot_sorted (@pa_cons _ _ _ _ _ (@pe_dkeys _ _ _ _ _ (pv 1) ⟨rfl, rfl, rfl, rfl⟩) (@pa_nil _) rfl) (by decide) (by decide) rfl rfl)) (fun _ _ _ => (@pgc_name _ _ _ _ _ _ _ _ (0) (by decide +kernel) rfl rfl)) (fun _ _ _ => (@pts_one _ _ _ (@pt_cmpR _ _ _ _ _ _ _ _ (@op_gt _) (@pe_dget _ _ _ _ _ _ (hu_of hr) (pv 1) (pv 0) (fun _ _ => rfl)) (@pe_int _ _ _ _) (nomark _)))) (fun _ _ _ => (@pe_tup _ _ _ _ _ (@pa_cons _ _ _ _ _ (@pe_ix _ _ _ _ _ _ _ (@ixc_tup _ (K) rfl) (pv 0) (@pe_int _ _ _ _) (fun _ _ => rfl)) (@pa_cons _ _ _ _ _ (@pe_ix _ _ _ _ _ _ _ (@ixc_tup _ (K) rfl) (pv 0) (@pe_int _ _ _ _) (fun _ _ => rfl)) (@pa_cons _ _ _ _ _ (@pe_dget _ _ _ _ _ _ (hu_of hr) (pv 1) (pv 0) (fun _ _ => rfl)) (@pa_nil _) rfl) rfl) rfl))) (by intro _ ; rfl)))))), ?_⟩
    try dsimp only [cxK]
    refine fun D hD => ?_
    have s1 := same_up (o := .dT []) hD
    have e1 : upd H D (.dT []) D = some (.dT (kvC [])) := upd_same
    generalize upd H D (.dT []) = H1 at s1 e1 ⊢
    have d1 := d0.same s1
    have tl := d0.tl
    have c84 := d0.len
    refine ⟨_, rfl, L, rfl, ⟨_, SqL.of d1.hL⟩, ?_⟩
    refine for_list (xs := ts.map V.ref) (fun j σ H3 => ∃ (ds : List Cl) (u2 u3 u4 : Option V), σ = [some (.ref L), some (.ref D), u2, u3, u4] ∧ Same H H3 ∧ H3 D = some (.dT (kvC ds)) ∧ Dz ds ((cs.take j).reverse.map swC)) ⟨[], none, none, none, rfl, s1, e1, Dz.nil⟩ (fun j σ H3 _ z => by obtain ⟨_, _, _, _, _, sm, _⟩ := z; exact SqL.of (sm _ _ d0.hL)) ?_ ?_
    · rintro j v σ H3 ev ⟨ds, u2, u3, u4, rfl, sm3, hD3, dz⟩
      rw [List.getElem?_map] at ev
      obtain ⟨t, et, rfl⟩ := Option.map_eq_some_iff.mp ev
      obtain ⟨c, ec, hc⟩ := PairedM.getL d0.pr et
      have hc3 : H3 t = some (.tup [.int c.x, .int c.y, .int c.s]) := sm3 _ _ hc
      refine gtriple hc3 ?_
      have dl := dz.len
      rw [List.length_map, List.length_reverse, List.length_take] at dl
      have tk : (cs.take (j + 1)).reverse.map swC = swC c :: (cs.take j).reverse.map swC := by
        rw [List.take_add_one, ec]
        simp
      refine ⟨_, rfl, _, rfl, _, rfl, _, rfl, (by show 2 ≤ sizeLine; decide), fun t4 ht4 => ?_⟩
      have s4 := same_up (o := .tup [.int c.y, .int c.x]) ht4
      have e4 : upd H3 t4 (.tup [.int c.y, .int c.x]) t4 = some (.tup [.int (swC c).x, .int (swC c).y]) := upd_same
      show ∃ _, _
      generalize upd H3 t4 (.tup [.int c.y, .int c.x]) = H4 at s4 e4 ⊢
      have hD4 := s4 _ _ hD3
      refine ⟨D, _, rfl, dput (c := swC c) hD4 e4 (by lia), putC ds (swC c), _, _, _, rfl, up_same hD (sm3.trans s4), upd_same, ?_⟩
      rw [tk]
      exact dz.put
    · rintro σ H3 ⟨ds, u2, u3, u4, rfl, sm3, hD3, dz⟩
      rw [List.length_map, tl, List.take_length] at dz
      have dl := dz.len
      rw [List.length_map, List.length_reverse] at dl
      refine ⟨_, rfl, D, _, rfl, .inl hD3, fun v hvv => ?_⟩
      have s4 := same_up (o := .ext (keysV v D)) hvv
      have e4 : upd H3 v (.ext (keysV v D)) v = some (.ext (keysV v D)) := upd_same
      show ∃ _, _
      generalize upd H3 v (.ext (keysV v D)) = H4 at s4 e4 ⊢
      refine ⟨v, D, ds.map (fun c => ([c.x, c.y], V.int (c.s : Int))), rfl, e4, .inl ?_, by rw [List.length_map]; lia, fun q hq => ?_, fun L5 ot hL5 pm ht ru => ⟨L5, rfl, ⟨_, SqL.of upd_same⟩, ?_⟩⟩
      · rw [List.map_map]
        exact s4 _ _ hD3
      · obtain ⟨c, _, rfl⟩ := List.mem_map.mp hq
        exact fun z => by cases z
      have s5 := same_up (o := .lst (ot.map fun q => V.ref q.1)) hL5
      have e5 : upd H4 L5 (.lst (ot.map fun q => V.ref q.1)) L5 = some (.lst (ot.map fun q => V.ref q.1)) := upd_same
      generalize upd H4 L5 (.lst (ot.map fun q => V.ref q.1)) = H5 at s5 e5 ⊢
      have pm : (ot.map (·.2)).Perm (ds.map fun c => [c.x, c.y]) := by rw [List.map_map] at pm; exact pm
      obtain ⟨ds2, p2, k2⟩ := perm_lift pm _ rfl
      have sm5 := (sm3.trans s4).trans s5
      have hD5 := s5 _ _ (s4 _ _ hD3)
      have lo : ot.length = ds2.length := by
        have := congrArg List.length k2
        rw [List.length_map, List.length_map] at this
        exact this.symm
      have l2 := p2.length_eq
      refine blk_list (xs := ot.map fun q => V.ref q.1) (fun j acc H6 => Same H5 H6 ∧ ∃ us : List Addr, acc = us.map V.ref ∧ Paired (ClAt H6) us (liveC (ds2.take j))) ⟨Same.refl _, [], rfl, .nil⟩ (fun j acc H6 _ z => SqL.of (z.1 _ _ e5)) ?_ ?_
      · rintro j v2 acc H6 ev ⟨s6, us, rfl, pu⟩
        rw [List.getElem?_map] at ev
        obtain ⟨q, eq, rfl⟩ := Option.map_eq_some_iff.mp ev
        have mq := List.mem_of_getElem? eq
        have lj := (List.getElem?_eq_some_iff.mp eq).1
        obtain ⟨c, ec⟩ : ∃ c, ds2[j]? = some c := ⟨_, List.getElem?_eq_getElem (by lia)⟩
        have kq : [c.x, c.y] = q.2 := by
          have : (ds2.map fun c => [c.x, c.y])[j]? = (ot.map (·.2))[j]? := by rw [k2]
          rw [List.getElem?_map, List.getElem?_map, ec, eq] at this
          exact Option.some.inj this
        have hq6 : H6 q.1 = some (.tup [.int c.x, .int c.y]) := by
          have := s6 _ _ (s5 _ _ (ht q mq))
          rw [← kq] at this
          exact this
        have hc : c ∈ ds := p2.mem_iff.mp (List.mem_of_getElem? ec)
        have hD6 := s6 _ _ hD5
        have lu : us.length ≤ j := by
          have h1 : us.length = _ := Paired.length pu
          have h2 := live_len (ds2 := ds2.take j)
          rw [List.length_take] at h2
          lia
        have sn := live_snoc ec
        refine ⟨⟨[some (.ref q.1)], rfl, rfl⟩, by rw [List.length_map]; exact lt_ln (by lia), _, rfl, _, rfl, D, .int c.s, rfl, DGet.tv (k := kOf [c.x, c.y]) hD6 hq6 (kvC_val dz.nd hc), _, _, rfl, rfl, _, rfl, ite2 (fun hp => ?_) (fun hp => ?_)⟩
        · have hp := of_decide_eq_true hp
          rw [if_pos (by lia)] at sn
          refine ⟨_, rfl, q.1, _, 1, .int c.y, rfl, rfl, SqT.of hq6, atI_nat (j := 1) rfl, _, rfl, q.1, _, 0, .int c.x, rfl, rfl, SqT.of hq6, atI_nat (j := 0) rfl, _, rfl, _, rfl, D, .int c.s, rfl, DGet.tv (k := kOf [c.x, c.y]) hD6 hq6 (kvC_val dz.nd hc), (by show 3 ≤ sizeLine; decide), fun t7 ht7 => ?_⟩
          have s7 := same_up (o := .tup [.int c.y, .int c.x, .int c.s]) ht7
          refine ⟨s6.trans s7, us ++ [t7], by rw [List.map_append]; rfl, ?_⟩
          rw [sn]
          exact Paired.snoc (PairedM.imp (fun t d z => s7 _ _ z) pu) (show ClAt _ t7 (swC c) from upd_same)
        · have hp : ¬ ((0 : Int) < (c.s : Int)) := fun z => hp (decide_eq_true z)
          rw [if_neg (by lia)] at sn
          refine ⟨s6, us, rfl, ?_⟩
          rw [sn]
          exact pu
      · rintro acc H6 ⟨s6, us, rfl, pu⟩ M hM
        rw [List.length_map, lo, List.take_length] at pu
        have s7 := same_up (o := .lst (us.map V.ref)) hM
        have ll := live_len (ds2 := ds2)
        have dk := live_ok (ds2 := ds2) (cs := cs.reverse) (by rw [List.map_reverse] at dz ⊢; exact dz) p2
        refine k M us (liveC ds2) _ ((sm5.trans s6).trans s7) (Same.noneOf (sm5.trans s6) hM) ⟨upd_same, PairedM.imp (fun t d z => s7 _ _ z) pu, fun c hc => ?_, by lia⟩ dk (live_by ?_)
        · obtain ⟨h1, h2⟩ := (dk.mem c).mp hc
          obtain ⟨d, hd, e1, e2, e3⟩ : ∃ d ∈ cs, d.x = c.x ∧ d.y = c.y ∧ d.s = c.s := by
            have key : ∀ {l : List Cl}, stC l c.x c.y ≠ 0 → ∃ d ∈ l, d.x = c.x ∧ d.y = c.y ∧ d.s = stC l c.x c.y := by
              intro l
              induction l with
              | nil => intro z; exact absurd rfl z
              | cons b l ih =>
                intro z
                have e : stC (b :: l) c.x c.y = if c.x = b.x ∧ c.y = b.y then b.s else stC l c.x c.y := rfl
                by_cases y : c.x = b.x ∧ c.y = b.y
                · rw [if_pos y] at e
                  exact ⟨b, List.mem_cons_self .., y.1.symm, y.2.symm, e.symm⟩
                · rw [if_neg y] at e
                  rw [e] at z ⊢
                  obtain ⟨d, hd, h⟩ := ih z
                  exact ⟨d, List.mem_cons_of_mem _ hd, h⟩
            obtain ⟨d, hd, q1, q2, q3⟩ := key (l := cs.reverse) (by lia)
            exact ⟨d, List.mem_reverse.mp hd, q1, q2, by rw [q3, h2]⟩
          have := d0.ok d hd
          exact ⟨by rw [← e1, ← e2]; exact this.li, by rw [← e3]; exact this.s⟩
        · rw [k2]
          exact List.pairwise_map.mpr ru
theorem kit_ll (K : PySem.W.Frag) : PySem.W.kitOne K (.type "list") (.type "list") = some true := by kernel_rfl
inductive SpTold (vs : List V) (H : Hp) (Q : VK) : Prop
  | mk (L M : Addr) (ts us : List Addr) (es : List Cl) (n : Nat) (_ : vs = [.ref L, .ref M]) (_ : H L = some (.lst (ts.map V.ref))) (_ : Paired (ClAt H) ts es) (_ : Drn H M us es n) (_ : ∀ H', Same H H' → Q (.bl true) H') : SpTold vs H Q
def spTold : Sp := fun vs H Q _ => SpTold vs H Q
theorem ok_told {f : Addr} {fd : FuncData} (F : Fun K "_law_told" "_law_told" s__law_told f fd) (T : Top K mg a) : FnOk P w K mg base CX0 1 f fd p__law_told spTold := by
  refine F.ok sc__law_told (fun vs H Q E h => ?_) (fun cdv A outer s H vs Q E hr h => ?_)
  · obtain ⟨L, M, ts, us, es, n, rfl, _⟩ := h
    rfl
  · obtain ⟨L, M, ts, us, es, n, rfl, hL, pr, d, k⟩ := h
    refine ⟨_, (@pss_cons _ _ _ _ _ (@ps_if _ _ _ _ _ _ _ _ (@PW.pt _ _ _ (@pw_or _ _ _ _ _ _ _ (@pt_not _ _ _ _ (@pt_val _ _ _ (@pe_callB _ _ _ _ _ _ _ _ _ (@call_isi _) rfl T.b_isinstance PyProof.Rows.boot_isinstance (@pa_cons _ _ _ _ _ (pv 0) (@pa_cons _ _ _ _ _ (@pe_bltn _ _ ((.ty "list")) _ _ rfl T.b_list PyProof.Rows.boot_list rfl (by decide) (by decide)) (@pa_nil _) rfl) rfl) (by decide) (by decide) rfl rfl) (by intro _ ; rfl))) (@pw_or1 _ _ _ _ (@pt_cmpR _ _ _ _ _ _ _ _ (@op_ne _) (@pe_callB _ _ _ _ _ _ _ _ _ (@call_len_seq _) rfl T.b_len PySem.boot_len (@pa_cons _ _ _ _ _ (pv 0) (@pa_nil _) rfl) (by decide) (by decide) rfl rfl) (@pe_callB _ _ _ _ _ _ _ _ _ (@call_len_seq _) rfl T.b_len PySem.boot_len (@pa_cons _ _ _ _ _ (pv 1) (@pa_nil _) rfl) (by decide) (by decide) rfl rfl) (nomark _))))) (@pss_one _ _ _ (@ps_ret _ _ _ _ (@pe_bl _ _ _ _))) (@pss_nil _)) (@pss_cons _ _ _ _ _ (@ps_for _ _ _ _ _ _ _ _ PassesOwn.never rfl (@pi_zip _ _ _ _ _ _ _ _ _ false false rfl T.b_zip (@pa_cons _ _ _ _ _ (pv 0) (@pa_cons _ _ _ _ _ (pv 1) (@pa_nil _) rfl) rfl) rfl rfl) (@pg_tup _ _ _ _ _ _ rfl (@pgs_cons _ _ _ _ _ (@pg_name _ _ (2) _ sc__law_told.nd rfl (Or.inl rfl) (by first | exact .inl rfl | exact .inr rfl | assumption)) (@pgs_cons _ _ _ _ _ (@pg_name _ _ (3) _ sc__law_told.nd rfl (Or.inl rfl) (by first | exact .inl rfl | exact .inr rfl | assumption)) (@pgs_nil _) rfl) rfl) rfl rfl) (@pss_cons _ _ _ _ _ (@ps_if _ _ _ _ _ _ _ _ (@PW.pt _ _ _ (@pw_or _ _ _ _ _ _ _ (@pt_not _ _ _ _ (@pt_val _ _ _ (@pe_callB _ _ _ _ _ _ _ _ _ (@call_isi _) rfl T.b_isinstance PyProof.Rows.boot_isinstance (@pa_cons _ _ _ _ _ (pv 2) (@pa_cons _ _ _ _ _ (@pe_bltn _ _ ((.ty "tuple")) _ _ rfl T.b_tuple PyProof.Rows.boot_tuple rfl (by decide) (by decide)) (@pa_nil _) rfl) rfl) (by decide) (by decide) rfl rfl) (by intro _ ; rfl))) (@pw_or1 _ _ _ _ (@pt_cmpR _ _ _ _ _ _ _ _ (@op_ne _) (@pe_callB _ _ _ _ _ _ _ _ _ (@call_len_seq _) rfl T.b_len PySem.boot_len (@pa_cons _ _ _ _ _ (pv 2) (@pa_nil _) rfl) (by decide) (by decide) rfl rfl) (@pe_int _ _ _ _) (nomark _))))) (@pss_one _ _ _ (@ps_ret _ _ _ _ (@pe_bl _ _ _ _))) (@pss_nil _)) (@pss_one _ _ _ (@ps_for _ _ _ _ _ _ _ _ PassesOwn.never rfl (@pi_range1 _ _ _ _ _ _ rfl T.b_range (@pa_int _ _ _ _ _ _ (@pa_nil _)) rfl) (@pg_name _ _ (4) _ sc__law_told.nd rfl (Or.inl rfl) (by first | exact .inl rfl | exact .inr rfl | assumption)) (@pss_one _ _ _ (@ps_if _ _ _ _ _ _ _ _ (@PW.pt _ _ _ (@pw_or _ _ _ _ _ _ _ (@pt_not _ _ _ _ (@pt_val _ _ _ (@pe_callB _ _ _ _ _ _ _ _ _ (@call_isi _) rfl T.b_isinstance PyProof.Rows.boot_isinstance (@pa_cons _ _ _ _ _ (@pe_ix _ _ _ _ _ _ _ (@ix_tup _) (pv 2) (pv 4) (fun _ _ => rfl)) (@pa_cons _ _ _ _ _ (@pe_bltn _ _ ((.ty "int")) _ _ rfl T.b_int PyProof.Rows.boot_int rfl (by decide) (by decide)) (@pa_nil _) rfl) rfl) (by decide) (by decide) rfl rfl) (by intro _ ; rfl))) (@pw_or _ _ _ _ _ _ _ (@pt_val _ _ _ (@pe_callB _ _ _ _ _ _ _ _ _ (@call_isi _) rfl T.b_isinstance PyProof.Rows.boot_isinstance (@pa_cons _ _ _ _ _ (@pe_ix _ _ _ _ _ _ _ (@ix_tup _) (pv 2) (pv 4) (fun _ _ => rfl)) (@pa_cons _ _ _ _ _ (@pe_bltn _ _ ((.ty "bool")) _ _ rfl T.b_bool PyProof.Rows.boot_bool rfl (by decide) (by decide)) (@pa_nil _) rfl) rfl) (by decide) (by decide) rfl rfl) (by intro _ ; rfl)) (@pw_or1 _ _ _ _ (@pt_cmpR _ _ _ _ _ _ _ _ (@op_ne _) (@pe_ix _ _ _ _ _ _ _ (@ix_tup _) (pv 2) (pv 4) (fun _ _ => rfl)) (@pe_ix _ _ _ _ _ _ _ (@ix_tup _) (pv 3) (pv 4) (fun _ _ => rfl)) (nomark _)))))) (@pss_one _ _ _ (@ps_ret _ _ _ _ (@pe_bl _ _ _ _))) (@pss_nil _))) (by intro _ ; rfl)))) (by intro _ ; rfl)) (@pss_one _ _ _ (@ps_ret _ _ _ _ (@pe_bl _ _ _ _))))), ?_⟩
    try dsimp only [cxK]
    have lt : ts.length = es.length := Paired.length pr
    have lu := d.tl
    refine ⟨_, rfl, _, _, _, .type "list", true, rfl, rfl, .of (.lst hL), kit_ll K, true, rfl, iteF ⟨_, rfl, L, _, rfl, .inl (SqL.of hL), _, rfl, M, _, rfl, .inl (SqL.of d.hL), rfl, _, rfl, ?_⟩⟩
    rw [List.length_map, List.length_map, lt, lu]
    refine iteNS rfl ⟨_, rfl, _, rfl, L, M, rfl, ⟨_, SqL.of hL⟩, ⟨_, SqL.of d.hL⟩, ?_⟩
    refine for_zip (xs := ts.map V.ref) (ys := us.map V.ref) (fun i σ H2 => Same H H2 ∧ ∃ u2 u3 u4 : Option V, σ = [some (.ref L), some (.ref M), u2, u3, u4]) ⟨Same.refl H, none, none, none, rfl⟩ (fun i σ H2 z => ⟨SqL.of (z.1 _ _ hL), SqL.of (z.1 _ _ d.hL)⟩) ?_ ?_
    · rintro i x y σ H2 T' hx hy ⟨sm, u2, u3, u4, rfl⟩ nT
      rw [List.getElem?_map] at hx hy
      obtain ⟨t, et, rfl⟩ := Option.map_eq_some_iff.mp hx
      obtain ⟨u, eu, rfl⟩ := Option.map_eq_some_iff.mp hy
      obtain ⟨c, ec, ht⟩ := PairedM.getL pr et
      obtain ⟨c', ec', hu⟩ := PairedM.getL d.pr eu
      rw [ec] at ec'
      cases ec'
      have s3 := sm.trans (same_up (o := .tup [.ref t, .ref u]) nT)
      refine gpair upd_same ?_
      generalize upd H2 T' (.tup [.ref t, .ref u]) = H3 at s3 ⊢
      have ht3 : H3 t = some (.tup [.int c.x, .int c.y, .int c.s]) := s3 _ _ ht
      have hu3 : H3 u = some (.tup [.int c.x, .int c.y, .int c.s]) := s3 _ _ hu
      refine ⟨_, rfl, _, _, _, .type "tuple", true, rfl, rfl, .of (.tup ht3), kit_t K, true, rfl, iteF ⟨_, rfl, t, _, rfl, .inr (SqT.of ht3), rfl, _, rfl, iteNS rfl ?_⟩⟩
      refine ⟨3, rfl, by decide, by decide, ?_⟩
      refine for_range (n := 3) (fun j σ H4 => H3 = H4 ∧ ∃ u4 : Option V, σ = [some (.ref L), some (.ref M), some (.ref t), some (.ref u), u4]) ⟨rfl, _, rfl⟩ ?_ ?_
      · rintro j σ H4 hj ⟨rfl, u4, rfl⟩
        obtain ⟨v, ev⟩ : ∃ v : Int, [V.int c.x, V.int c.y, V.int (c.s : Int)][j]? = some (.int v) := by
          match j, hj with
          | 0, _ => exact ⟨_, rfl⟩
          | 1, _ => exact ⟨_, rfl⟩
          | 2, _ => exact ⟨_, rfl⟩
        have ix : atI [V.int c.x, V.int c.y, V.int (c.s : Int)] (0 + (j : Int)) = some (.int v) := by rw [Int.zero_add]; exact atI_nat ev
        refine ⟨_, rfl, _, rfl, t, _, 0 + (j : Int), .int v, rfl, rfl, SqT.of ht3, ix, _, _, _, .type "int", true, rfl, rfl, .of (.int _), (kit_w K).1, true, rfl, iteF ?_⟩
        refine ⟨_, rfl, _, rfl, t, _, 0 + (j : Int), .int v, rfl, rfl, SqT.of ht3, ix, _, _, _, .type "int", false, rfl, rfl, .of (.int _), (kit_w K).2, false, rfl, iteF ?_⟩
        refine ⟨_, rfl, _, rfl, t, _, 0 + (j : Int), .int v, rfl, rfl, SqT.of ht3, ix, _, rfl, _, rfl, u, _, 0 + (j : Int), .int v, rfl, rfl, SqT.of hu3, ix, rfl, _, rfl, ?_⟩
        exact iteNS rfl ⟨rfl, _, rfl⟩
      · rintro σ H4 ⟨rfl, u4, rfl⟩
        exact ⟨s3, _, _, _, rfl⟩
    · rintro σ H2 ⟨sm, u2, u3, u4, rfl⟩
      exact k H2 sm
end
end J

namespace J
open PySem L2
def frA (g : GA) : List Addr := [g.lv, g.pt, g.nm, g.am, g.bx]
theorem Drn.fx {H H' : Hp} {L : Addr} {ts : List Addr} {cs : List Cl} {n : Nat} {l : List Addr} (h : Drn H L ts cs n) (x : Fx l H H') (no : L ∉ l) : Drn H' L ts cs n := ⟨x.get no h.hL, PairedM.imp (fun t c z => x.tup z) h.pr, h.ok, h.len⟩
theorem cl_rows {H : Hp} : ∀ {out : List It3} {es : List Cl}, out.map rowI = es.map rowC → (∀ q ∈ out, H q.a = some (.tup (q.ns.map V.int))) → Paired (ClAt H) (out.map (·.a)) es
  | [], [], _, _ => .nil
  | [], _ :: _, e, _ => by cases e
  | _ :: _, [], e, _ => by cases e
  | q :: out, c :: es, e, h => by
    rw [List.map_cons, List.map_cons] at e
    injection e with e1 e2
    refine .cons ?_ (cl_rows e2 fun p hp => h p (List.mem_cons_of_mem _ hp))
    have hq := h q (List.mem_cons_self ..)
    have e1 : q.y :: q.x :: q.r = [c.y, c.x, (c.s : Int)] := e1
    injection e1 with y1 e1
    injection e1 with x1 r1
    have : q.ns = [c.x, c.y, (c.s : Int)] := by
      show q.x :: q.y :: q.r = _
      rw [y1, x1, r1]
    rw [this] at hq
    exact hq
def itC (c : Cl) : It3 := ⟨0, c.x, c.y, [(c.s : Int)]⟩
theorem by_rows {es : List Cl} (h : ByC es) (nd : (es.map fun c => (c.x, c.y)).Nodup) : (es.map rowC).Pairwise (fun p q => lexI q p = false) := by
  have := up_rows (out := es.map itC) (List.pairwise_map.mpr h) (by rw [List.map_map]; exact nd)
  rw [List.map_map] at this
  exact this
section
variable {P : Program} {w : World} {K : PySem.W.Frag} {mg : Str → Option Value} {base : Heap} {a : Ad}
theorem fld_dr {g : GA} {G : Gv} {H : Hp} {Q : VK} {L : Addr} {ts : List Addr} {cs : List Cl} (fu : Full a H g G) (d : Drn H L ts cs 84) (ap : Ap g L) (few : G.length < 6000000) (k : ∀ (r : Nat) (G' : Gv) (H' : Hp), Fx (frA g) H H' → Full a H' g G' → Goes G G' 40000 → Vf G' r (stC cs.reverse) → Q (.int r) H') : SpFld a [.ref g.p, .ref L] H Q := by
  have lc := d.len
  refine ⟨g, G, L, ts, cs, rfl, fu, d.hL, ap.1, ap.2.1, d.pr, d.ok, by lia, fun f1 n1 G13 H13 fr13 fu13 go13 n140 lf13 fl13 => ?_⟩
  obtain ⟨r13, e13⟩ := fu13.g0
  obtain ⟨tr13, ef13⟩ := fld_cells e13 fu13.ok fl13 (fun c hc => (d.ok c (List.mem_reverse.mp hc)).s)
  exact k f1 G13 H13 ((fr13.fx fu.at').mono (by simp [frA])) fu13 (go13.mono (by lia)) ⟨n1, n140, lf13, tr13, ef13⟩
theorem co_at {g : GA} {G : Gv} {H : Hp} {Q : VK} {f : Nat} {es : List Cl} {φ : Int → Int → Nat} (fu : Full a H g G) (v : Vf G f φ) (dk : DsOk es φ) (bc : ByC es) (l84 : es.length ≤ 84) (few : G.length < 9000000) (k : ∀ (L : Addr) (ts : List Addr) (H' : Hp), Fx (frA g) H H' → Full a H' g G → H L = none → H' L = some (.lst (ts.map V.ref)) → Paired (ClAt H') ts es → Q (.ref L) H') : SpCo a [.ref g.p, .int f] H Q := by
  obtain ⟨n, n40, lf, tr, e⟩ := v.ex
  have o : Of G n f es := ⟨dk.nd, fun c => by rw [e]; exact dk.mem c⟩
  refine ⟨g, G, f, n, rfl, fu, lf, by lia, few, by rw [o.cnt fu.ok lf]; lia, fun L out H' x fu' nL hL ho pm ru => ?_⟩
  have pm2 := pm.trans (o.perm fu.ok lf)
  have nd : (out.map fun q => (q.x, q.y)).Nodup := by
    have p3 := pm2.map fun r => (r.getD 1 0, r.getD 0 0)
    rw [List.map_map, List.map_map] at p3
    exact p3.nodup_iff.mpr dk.nd
  have eq := rows_one (up_rows ru nd) (by_rows bc dk.nd) pm2
  refine k L (out.map (·.a)) H' (x.mono (by simp [frL, frA])) fu' nL ?_ (cl_rows eq ho)
  rw [List.map_map]
  exact hL
theorem ok_law {f : Addr} {fd : FuncData} (F : Fun K "law" "law" s_law f fd) (T : Top K mg a) (C_Grove : CalC P w K mg base CX0 2 "Grove" a.c_Grove p_Grove_init (spGInit a)) (C__law_cells_by : Cal P w K mg base CX0 2 "_law_cells_by" p__law_cells_by (spCb K)) (C__law_due : Cal P w K mg base CX0 1 "_law_due" p__law_due spDue) (C_field_of : Cal P w K mg base CX0 56 "field_of" p_field_of (spFld a)) (C_cells_of : Cal P w K mg base CX0 56 "cells_of" p_cells_of (spCo a)) (C__law_told : Cal P w K mg base CX0 1 "_law_told" p__law_told spTold) (M_Grove_solid : CalM P w K mg base CX0 4 a.c_Grove "solid" p_Grove_solid (spSolid a)) : FnOk P w K mg base CX0 57 f fd p_law (spLaw K) := by
  refine F.ok sc_law (fun vs H Q E h => ?_) (fun cdv A outer s H vs Q E hr h => ?_)
  · obtain ⟨l, ns, rfl, _⟩ := h
    rfl
  · obtain ⟨l, ns, rfl, hS, hlen, kq⟩ := h
    refine ⟨_, (@pss_cons _ _ _ _ _ (@ps_set _ _ (1) _ _ _ _ sc_law.nd rfl (Or.inl rfl) (@pe_calC0 _ _ _ _ _ _ _ _ _ _ C_Grove (rm hr) rfl pass0 (by decide)) rfl (by first | exact .inl rfl | exact .inr rfl | assumption)) (@pss_cons _ _ _ _ _ (@ps_set _ _ (2) _ _ _ _ sc_law.nd rfl (Or.inl rfl) (@pe_cal _ _ _ _ _ _ _ _ _ _ _ _ C__law_cells_by (rm hr) rfl pass0 (@pa_cons _ _ _ _ _ (pv 0) (@pa_nil _) rfl) (by decide) rfl rfl) rfl (by first | exact .inl rfl | exact .inr rfl | assumption)) (@pss_cons _ _ _ _ _ (@ps_set _ _ (3) _ _ _ _ sc_law.nd rfl (Or.inl rfl) (@pe_cal _ _ _ _ _ _ _ _ _ _ _ _ C__law_due (rm hr) rfl pass0 (@pa_cons _ _ _ _ _ (pv 2) (@pa_nil _) rfl) (by decide) rfl rfl) rfl (by first | exact .inl rfl | exact .inr rfl | assumption)) (@pss_cons _ _ _ _ _ (@ps_set _ _ (4) _ _ _ _ sc_law.nd rfl (Or.inl rfl) (@pe_cal _ _ _ _ _ _ _ _ _ _ _ _ C_field_of (rm hr) rfl pass0 (@pa_cons _ _ _ _ _ (pv 1) (@pa_cons _ _ _ _ _ (@pe_callTy _ _ _ _ _ _ _ _ _ (@call_list_of _) rfl T.b_list PyProof.Rows.boot_list (@pa_cons _ _ _ _ _ (pv 2) (@pa_nil _) rfl) (by decide) (by decide) rfl rfl) (@pa_nil _) rfl) rfl) (by decide) rfl rfl) rfl (by first | exact .inl rfl | exact .inr rfl | assumption)) (@pss_cons _ _ _ _ _ (@ps_set _ _ (5) _ _ _ _ sc_law.nd rfl (Or.inl rfl) (@pe_cal _ _ _ _ _ _ _ _ _ _ _ _ C_cells_of (rm hr) rfl pass0 (@pa_cons _ _ _ _ _ (pv 1) (@pa_cons _ _ _ _ _ (pv 4) (@pa_nil _) rfl) rfl) (by decide) rfl rfl) rfl (by first | exact .inl rfl | exact .inr rfl | assumption)) (@pss_cons _ _ _ _ _ (@ps_if _ _ _ _ _ _ _ _ (@pt_not _ _ _ _ (@pt_val _ _ _ (@pe_cal _ _ _ _ _ _ _ _ _ _ _ _ C__law_told (rm hr) rfl pass0 (@pa_cons _ _ _ _ _ (pv 5) (@pa_cons _ _ _ _ _ (pv 3) (@pa_nil _) rfl) rfl) (by decide) rfl rfl) (by intro _ ; rfl))) (@pss_one _ _ _ (@ps_ret _ _ _ _ (@pe_bl _ _ _ _))) (@pss_nil _)) (@pss_cons _ _ _ _ _ (@ps_expr _ _ _ _ (@pe_bm _ _ _ _ _ _ _ _ _ _ _ _ PySem.F.plainAttrs_list PySem.F.slot_list_append PySem.F.type_list_append (@mt_append _) (pv 5) (@pa_tup _ _ _ _ _ _ _ (@pa_int _ _ _ _ _ _ (@pa_int _ _ _ _ _ _ (@pa_int _ _ _ _ _ _ (@pa_nil _)))) (@pa_nil _)) rfl rfl rfl rfl rfl) rfl) (@pss_cons _ _ _ _ _ (@ps_expr _ _ _ _ (@pe_bm0 _ _ _ _ _ _ _ _ _ PySem.F.plainAttrs_list PySem.F.slot_list_reverse PySem.F.type_list_reverse (@mt_reverse _) (pv 5) rfl rfl) rfl) (@pss_cons _ _ _ _ _ (@ps_if _ _ _ _ _ _ _ _ (@PW.pt _ _ _ (@pw_or _ _ _ _ _ _ _ (@pt_not _ _ _ _ (@pt_val _ _ _ (@pe_cal _ _ _ _ _ _ _ _ _ _ _ _ C__law_told (rm hr) rfl pass0 (@pa_cons _ _ _ _ _ (@pe_cal _ _ _ _ _ _ _ _ _ _ _ _ C_cells_of (rm hr) rfl pass0 (@pa_cons _ _ _ _ _ (pv 1) (@pa_cons _ _ _ _ _ (pv 4) (@pa_nil _) rfl) rfl) (by decide) rfl rfl) (@pa_cons _ _ _ _ _ (pv 3) (@pa_nil _) rfl) rfl) (by decide) rfl rfl) (by intro _ ; rfl))) (@pw_or1 _ _ _ _ (@pt_cmpR _ _ _ _ _ _ _ _ (@op_ne _) (@pe_cal _ _ _ _ _ _ _ _ _ _ _ _ C_field_of (rm hr) rfl pass0 (@pa_cons _ _ _ _ _ (pv 1) (@pa_cons _ _ _ _ _ (@pe_callTy _ _ _ _ _ _ _ _ _ (@call_list_of _) rfl T.b_list PyProof.Rows.boot_list (@pa_cons _ _ _ _ _ (pv 3) (@pa_nil _) rfl) (by decide) (by decide) rfl rfl) (@pa_nil _) rfl) rfl) (by decide) rfl rfl) (pv 4) (nomark _))))) (@pss_one _ _ _ (@ps_ret _ _ _ _ (@pe_bl _ _ _ _))) (@pss_nil _)) (@pss_cons _ _ _ _ _ (@ps_set _ _ (6) _ _ _ _ sc_law.nd rfl (Or.inl rfl) (@pe_calC0 _ _ _ _ _ _ _ _ _ _ C_Grove (rm hr) rfl pass0 (by decide)) rfl (by first | exact .inl rfl | exact .inr rfl | assumption)) (@pss_cons _ _ _ _ _ (@ps_expr _ _ _ _ (@pe_calm _ _ _ _ _ _ _ _ _ _ _ _ _ _ _ _ (pv 6) M_Grove_solid (rm hr) pass0 (@pa_int _ _ _ _ _ _ (@pa_int _ _ _ _ _ _ (@pa_nil _))) rfl rfl rfl) rfl) (@pss_one _ _ _ (@ps_ret _ _ _ _ (@pe_cal _ _ _ _ _ _ _ _ _ _ _ _ C__law_told (rm hr) rfl pass0 (@pa_cons _ _ _ _ _ (@pe_cal _ _ _ _ _ _ _ _ _ _ _ _ C_cells_of (rm hr) rfl pass0 (@pa_cons _ _ _ _ _ (pv 6) (@pa_cons _ _ _ _ _ (@pe_cal _ _ _ _ _ _ _ _ _ _ _ _ C_field_of (rm hr) rfl pass0 (@pa_cons _ _ _ _ _ (pv 6) (@pa_cons _ _ _ _ _ (@pe_callTy _ _ _ _ _ _ _ _ _ (@call_list_of _) rfl T.b_list PyProof.Rows.boot_list (@pa_cons _ _ _ _ _ (pv 3) (@pa_nil _) rfl) (by decide) (by decide) rfl rfl) (@pa_nil _) rfl) rfl) (by decide) rfl rfl) (@pa_nil _) rfl) rfl) (by decide) rfl rfl) (@pa_cons _ _ _ _ _ (pv 3) (@pa_nil _) rfl) rfl) (by decide) rfl rfl)))))))))))))), ?_⟩
    try dsimp only [cxK]
    intro x dx nx ndx nex
    refine ⟨x, dx, rfl, upd_same, fun g H1 gp N => ⟨rfl, ?_⟩⟩
    have s1 : Same H H1 := fun b o e => N.kp b o (by rw [upd_ne (ne_of_none e nx), upd_ne (ne_of_none e ndx)]; exact e) (gp ▸ ne_of_none e nx)
    subst gp
    have fu := Full.new N
    clear N
    have hS1 := s1.seq hS
    refine ⟨_, rfl, l, ns, rfl, hS1, by lia, fun C tc cs H2 s2 nC d2 => ?_⟩
    refine ⟨_, rfl, C, tc, cs, rfl, d2, fun M us es H3 s3 nM d3 dk bc => ?_⟩
    have fu3 := fu.same (s2.trans s3)
    have d2 := d2.same s3
    have nMg : M ∉ gAll g := fun z => by
      obtain ⟨o, e⟩ := (fu.same s2).nw.s M z
      rw [nM] at e
      cases e
    have nMf : M ∉ frA g := fun z => nMg (by simp [gAll, frA] at *; lia)
    have l84 := d3.len
    have g0l : G0.length < 1000 := by rw [g0_len]; decide
    -- the field
    refine ⟨_, rfl, _, rfl, C, _, rfl, .inl (SqL.of d2.hL), fun C2 hC2 => ?_⟩
    have s4 := same_up (o := .lst (tc.map V.ref)) hC2
    have d4 : Drn (upd H3 C2 (.lst (tc.map V.ref))) C2 tc cs 84 := ⟨upd_same, PairedM.imp (fun t c z => s4 _ _ z) d2.pr, d2.ok, d2.len⟩
    have ap4 := Ap.new fu3.at' hC2
    generalize upd H3 C2 (.lst (tc.map V.ref)) = H4 at s4 d4 ⊢
    have fu4 := fu3.same s4
    have m4 := d3.same s4
    refine fld_dr fu4 d4 ap4 (by lia) fun r G5 H5 x5 fu5 go5 v5 => ?_
    have g5 := go5.few
    have m5 := m4.fx x5 nMf
    -- its cells
    refine ⟨_, rfl, _, rfl, co_at fu5 v5 dk bc l84 (by lia) fun L6 t6 H6 x6 fu6 nL6 hL6 p6 => ?_⟩
    have m6 := m5.fx x6 nMf
    have nLM : M ≠ L6 := fun z => by
      rw [← z, m5.hL] at nL6
      cases nL6
    have nL6g : L6 ∉ gAll g := fun z => by
      obtain ⟨o, e⟩ := fu5.nw.s L6 z
      rw [nL6] at e
      cases e
    refine ⟨_, rfl, _, rfl, L6, M, t6, us, es, 84, rfl, hL6, p6, m6, fun H7 s7 => ⟨true, rfl, iteF ?_⟩⟩
    have fu7 := fu6.same s7
    have m7 := m6.same s7
    have hL7 := s7 _ _ hL6
    have l6 : t6.length = es.length := Paired.length p6
    refine ⟨_, rfl, .inl ⟨rfl, _, SqL.of hL7⟩, (by show 3 ≤ sizeLine; decide), fun t8 ht8 => ?_⟩
    have s8 := same_up (o := .tup [.int 0, .int 0, .int 1]) ht8
    generalize upd H7 t8 (.tup [.int 0, .int 0, .int 1]) = H8 at s8 ⊢
    have hL8 := s8 _ _ hL7
    refine ⟨L6, _, .ref t8, rfl, rfl, hL8, lt_ln (by rw [List.length_map]; lia), ?_⟩
    have x9 := fx_up (o' := .lst (t6.map V.ref ++ [.ref t8])) hL8 (fun z => z)
    have hL9 : upd H8 L6 (.lst (t6.map V.ref ++ [.ref t8])) L6 = some (.lst (t6.map V.ref ++ [.ref t8])) := upd_same
    show (tSeq _ _) _ _ (upd H8 L6 (.lst (t6.map V.ref ++ [.ref t8])))
    generalize upd H8 L6 (.lst (t6.map V.ref ++ [.ref t8])) = H9 at x9 hL9 ⊢
    refine ⟨_, rfl, .inl ⟨rfl, _, SqL.of hL9⟩, L6, _, rfl, rfl, hL9, ?_⟩
    have x10 := fx_up (o' := .lst (t6.map V.ref ++ [V.ref t8]).reverse) hL9 (fun z => z)
    show (tSeq _ _) _ _ (upd H9 L6 (.lst (t6.map V.ref ++ [V.ref t8]).reverse))
    generalize upd H9 L6 (.lst (t6.map V.ref ++ [V.ref t8]).reverse) = H10 at x10 ⊢
    have xA : Fx [L6] H7 H10 := ((Same.fx s8).trans x9).trans x10
    have fu10 := fu7.fx xA fun y hy z => nL6g (by rw [List.mem_singleton] at z; rw [← z]; exact hy)
    have m10 := m7.fx xA (by simp [nLM])
    clear x9 x10 xA s8 hL8 hL9 hL7 fu7 m7 s7
    -- again
    refine ⟨_, rfl, _, rfl, co_at fu10 v5 dk bc l84 (by lia) fun L11 t11 H11 x11 fu11 nL11 hL11 p11 => ?_⟩
    have m11 := m10.fx x11 nMf
    refine ⟨_, rfl, L11, M, t11, us, es, 84, rfl, hL11, p11, m11, fun H12 s12 => ⟨true, rfl, iteF ?_⟩⟩
    have fu12 := fu11.same s12
    have m12 := m11.same s12
    refine ⟨_, rfl, _, rfl, M, _, rfl, .inl (SqL.of m12.hL), fun M2 hM2 => ?_⟩
    have s13 := same_up (o := .lst (us.map V.ref)) hM2
    have d13 : Drn (upd H12 M2 (.lst (us.map V.ref))) M2 us es 84 := ⟨upd_same, PairedM.imp (fun t c z => s13 _ _ z) m12.pr, m12.ok, m12.len⟩
    have ap13 := Ap.new fu12.at' hM2
    generalize upd H12 M2 (.lst (us.map V.ref)) = H13 at s13 d13 ⊢
    have fu13 := fu12.same s13
    have m13 := m12.same s13
    refine fld_dr fu13 d13 ap13 (by lia) fun r14 G14 H14 x14 fu14 go14 v14 => ?_
    have m14 := m13.fx x14 nMf
    have er : r14 = r := Vf.eq (Classical.choose_spec fu14.g0) fu14.ok v14 (v5.app fu13.ok go14) fun u v => stC_ds dk u v
    subst er
    refine ⟨_, rfl, rfl, _, rfl, iteNS rfl ?_⟩
    -- another grove
    intro x2 dx2 nx2 ndx2 nex2
    refine ⟨x2, dx2, rfl, upd_same, fun g2 H15 gp2 N2 => ⟨rfl, ?_⟩⟩
    have s15 : Same H14 H15 := fun b o e => N2.kp b o (by rw [upd_ne (ne_of_none e nx2), upd_ne (ne_of_none e ndx2)]; exact e) (gp2 ▸ ne_of_none e nx2)
    subst gp2
    have fu15 := Full.new N2
    have ng2 := N2.none
    clear N2
    have m15 := m14.same s15
    have nM2 : M ∉ frA g2 := fun z => by
      have := ng2 M (by simp [gAll, frA] at *; lia)
      rw [m14.hL] at this
      cases this
    refine ⟨_, rfl, g2.p, g2.dx, _, rfl, fu15.at'.hp, no_solid g2, g2, G0, 2, 3, rfl, fu15.at', fu15.ok, by decide, by decide, by lia, fun i16 G16 H16 fr16 hg16 go16 so16 => ?_⟩
    have fu16 := fu15.fr fr16 hg16 go16
    have m16 := m15.fx ((fr16.fx fu15.at').mono (by simp [frA])) nM2
    have g16 := go16.few
    refine ⟨_, rfl, _, rfl, _, rfl, M, _, rfl, .inl (SqL.of m16.hL), fun M3 hM3 => ?_⟩
    have s17 := same_up (o := .lst (us.map V.ref)) hM3
    have d17 : Drn (upd H16 M3 (.lst (us.map V.ref))) M3 us es 84 := ⟨upd_same, PairedM.imp (fun t c z => s17 _ _ z) m16.pr, m16.ok, m16.len⟩
    have ap17 := Ap.new fu16.at' hM3
    generalize upd H16 M3 (.lst (us.map V.ref)) = H17 at s17 d17 ⊢
    have fu17 := fu16.same s17
    have m17 := m16.same s17
    refine fld_dr fu17 d17 ap17 (by lia) fun r18 G18 H18 x18 fu18 go18 v18 => ?_
    have m18 := m17.fx x18 nM2
    have g18 := go18.few
    have dk18 : DsOk es (stC es.reverse) := ⟨dk.nd, fun c => by rw [stC_ds dk]; exact dk.mem c⟩
    refine co_at fu18 v18 dk18 bc l84 (by lia) fun L19 t19 H19 x19 fu19 nL19 hL19 p19 => ?_
    have m19 := m18.fx x19 nM2
    exact ⟨_, rfl, L19, M, t19, us, es, 84, rfl, hL19, p19, m19, fun H20 s20 => kq _⟩
end
end J

namespace J
open PySem L2
theorem ar1 {α : Type} : ∀ us : List α, us.length = 1 → ∃ a0, us = [a0]
  | [a0], _ => ⟨a0, rfl⟩
theorem ar2 {α : Type} : ∀ us : List α, us.length = 2 → ∃ a0 a1, us = [a0, a1]
  | [a0, a1], _ => ⟨a0, a1, rfl⟩
theorem ar3 {α : Type} : ∀ us : List α, us.length = 3 → ∃ a0 a1 a2, us = [a0, a1, a2]
  | [a0, a1, a2], _ => ⟨a0, a1, a2, rfl⟩
theorem ar5 {α : Type} : ∀ us : List α, us.length = 5 → ∃ a0 a1 a2 a3 a4, us = [a0, a1, a2, a3, a4]
  | [a0, a1, a2, a3, a4], _ => ⟨a0, a1, a2, a3, a4, rfl⟩
theorem fin {l : PySem.W.OpenLaw} {w : World} {K : PySem.W.Frag} {h : Heap} {mg : Str → Option Value} {fa : Addr} (X : K.In h) (G : h.Ns mainGlobals mg) (hfa : mg "law" = some (.ref fa))
    {c_Grove : Addr} {f0 : Addr} {od0 an0 : Option Addr} {sl0 : Array (Option Value)} {oc0 kV0 dc0 pm0 cd0 ct0 : Value} {f1 : Addr} {od1 an1 : Option Addr} {sl1 : Array (Option Value)} {oc1 kV1 dc1 pm1 cd1 ct1 : Value} {f2 : Addr} {od2 an2 : Option Addr} {sl2 : Array (Option Value)} {oc2 kV2 dc2 pm2 cd2 ct2 : Value} {f3 : Addr} {od3 an3 : Option Addr} {sl3 : Array (Option Value)} {oc3 kV3 dc3 pm3 cd3 ct3 : Value} {f4 : Addr} {od4 an4 : Option Addr} {sl4 : Array (Option Value)} {oc4 kV4 dc4 pm4 cd4 ct4 : Value} {f5 : Addr} {od5 an5 : Option Addr} {sl5 : Array (Option Value)} {oc5 kV5 dc5 pm5 cd5 ct5 : Value} {f6 : Addr} {od6 an6 : Option Addr} {sl6 : Array (Option Value)} {oc6 kV6 dc6 pm6 cd6 ct6 : Value} {f7 : Addr} {od7 an7 : Option Addr} {sl7 : Array (Option Value)} {oc7 kV7 dc7 pm7 cd7 ct7 : Value} {f8 : Addr} {od8 an8 : Option Addr} {sl8 : Array (Option Value)} {oc8 kV8 dc8 pm8 cd8 ct8 : Value} {f9 : Addr} {od9 an9 : Option Addr} {sl9 : Array (Option Value)} {oc9 kV9 dc9 pm9 cd9 ct9 : Value} {f10 : Addr} {od10 an10 : Option Addr} {sl10 : Array (Option Value)} {oc10 kV10 dc10 pm10 cd10 ct10 : Value} {f11 : Addr} {od11 an11 : Option Addr} {sl11 : Array (Option Value)} {oc11 kV11 dc11 pm11 cd11 ct11 : Value} {f12 : Addr} {od12 an12 : Option Addr} {sl12 : Array (Option Value)} {oc12 kV12 dc12 pm12 cd12 ct12 : Value} {f13 : Addr} {od13 an13 : Option Addr} {sl13 : Array (Option Value)} {oc13 kV13 dc13 pm13 cd13 ct13 : Value} {f14 : Addr} {od14 an14 : Option Addr} {sl14 : Array (Option Value)} {oc14 kV14 dc14 pm14 cd14 ct14 : Value} {f15 : Addr} {od15 an15 : Option Addr} {sl15 : Array (Option Value)} {oc15 kV15 dc15 pm15 cd15 ct15 : Value} {f16 : Addr} {od16 an16 : Option Addr} {sl16 : Array (Option Value)} {oc16 kV16 dc16 pm16 cd16 ct16 : Value} {f17 : Addr} {od17 an17 : Option Addr} {sl17 : Array (Option Value)} {oc17 kV17 dc17 pm17 cd17 ct17 : Value} {f18 : Addr} {od18 an18 : Option Addr} {sl18 : Array (Option Value)} {oc18 kV18 dc18 pm18 cd18 ct18 : Value} {f19 : Addr} {od19 an19 : Option Addr} {sl19 : Array (Option Value)} {oc19 kV19 dc19 pm19 cd19 ct19 : Value} {f20 : Addr} {od20 an20 : Option Addr} {sl20 : Array (Option Value)} {oc20 kV20 dc20 pm20 cd20 ct20 : Value} {f21 : Addr} {od21 an21 : Option Addr} {sl21 : Array (Option Value)} {oc21 kV21 dc21 pm21 cd21 ct21 : Value} {f22 : Addr} {od22 an22 : Option Addr} {sl22 : Array (Option Value)} {oc22 kV22 dc22 pm22 cd22 ct22 : Value} {f23 : Addr} {od23 an23 : Option Addr} {sl23 : Array (Option Value)} {oc23 kV23 dc23 pm23 cd23 ct23 : Value} {f24 : Addr} {od24 an24 : Option Addr} {sl24 : Array (Option Value)} {oc24 kV24 dc24 pm24 cd24 ct24 : Value} {f25 : Addr} {od25 an25 : Option Addr} {sl25 : Array (Option Value)} {oc25 kV25 dc25 pm25 cd25 ct25 : Value} {f26 : Addr} {od26 an26 : Option Addr} {sl26 : Array (Option Value)} {oc26 kV26 dc26 pm26 cd26 ct26 : Value} {f27 : Addr} {od27 an27 : Option Addr} {sl27 : Array (Option Value)} {oc27 kV27 dc27 pm27 cd27 ct27 : Value} {f28 : Addr} {od28 an28 : Option Addr} {sl28 : Array (Option Value)} {oc28 kV28 dc28 pm28 cd28 ct28 : Value} {f29 : Addr} {od29 an29 : Option Addr} {sl29 : Array (Option Value)} {oc29 kV29 dc29 pm29 cd29 ct29 : Value} {f30 : Addr} {od30 an30 : Option Addr} {sl30 : Array (Option Value)} {oc30 kV30 dc30 pm30 cd30 ct30 : Value} {f31 : Addr} {od31 an31 : Option Addr} {sl31 : Array (Option Value)} {oc31 kV31 dc31 pm31 cd31 ct31 : Value} {f32 : Addr} {od32 an32 : Option Addr} {sl32 : Array (Option Value)} {oc32 kV32 dc32 pm32 cd32 ct32 : Value} {t_STATES : Tok} {t_TOP_LEVEL : Tok} {t_LIMIT : Tok} {t_LEAST_LEVEL : Tok} {t_MOST_CELLS : Tok}
    (n_c_Grove : PySem.W.nsIn K mainGlobals "Grove" = some (some (.ref c_Grove)))
    (pg_Grove : PySem.W.plainGet K c_Grove Str.empty = true)
    (hd_Grove : PySem.W.hasDictIn K c_Grove = true)
    (po_Grove : PySem.W.plainOver K c_Grove = true)
    (sa_Grove : PySem.W.findIn K (.ref c_Grove) "__setattr__" = some (some (.builtin "object.__setattr__")))
    (mk_Grove : PySem.W.makesIn K c_Grove = true)
    (kc_Grove : PySem.W.keepIn K (.ref c_Grove) = true)
    (na_Grove_levels : PySem.W.findIn K (.ref c_Grove) "levels" = some none)
    (na_Grove_parts : PySem.W.findIn K (.ref c_Grove) "parts" = some none)
    (na_Grove_numbers : PySem.W.findIn K (.ref c_Grove) "numbers" = some none)
    (na_Grove_bares : PySem.W.findIn K (.ref c_Grove) "bares" = some none)
    (na_Grove_amounts : PySem.W.findIn K (.ref c_Grove) "amounts" = some none)
    (na_Grove_boxes : PySem.W.findIn K (.ref c_Grove) "boxes" = some none)
    (a0 : PySem.W.nsIn K mainGlobals "is_whole" = some (some (.ref f0)))
    (l0 : K.lookup f0 = some ⟨oc0, od0, .func (PySem.W.fnOf "is_whole" "is_whole" (defArgs s_is_whole) (defBody s_is_whole) (defScope s_is_whole) .none kV0 dc0 pm0 an0 cd0 ct0), sl0⟩)
    (c0 : PySem.W.codeIn K cd0 "is_whole" = true)
    (k0 : PySem.W.keepIn K (.ref f0) = true)
    (a1 : PySem.W.nsIn K mainGlobals "is_state" = some (some (.ref f1)))
    (l1 : K.lookup f1 = some ⟨oc1, od1, .func (PySem.W.fnOf "is_state" "is_state" (defArgs s_is_state) (defBody s_is_state) (defScope s_is_state) .none kV1 dc1 pm1 an1 cd1 ct1), sl1⟩)
    (c1 : PySem.W.codeIn K cd1 "is_state" = true)
    (k1 : PySem.W.keepIn K (.ref f1) = true)
    (a2 : PySem.W.nsIn K mainGlobals "lies_within" = some (some (.ref f2)))
    (l2 : K.lookup f2 = some ⟨oc2, od2, .func (PySem.W.fnOf "lies_within" "lies_within" (defArgs s_lies_within) (defBody s_lies_within) (defScope s_lies_within) .none kV2 dc2 pm2 an2 cd2 ct2), sl2⟩)
    (c2 : PySem.W.codeIn K cd2 "lies_within" = true)
    (k2 : PySem.W.keepIn K (.ref f2) = true)
    (a3 : PySem.W.nsIn K mainGlobals "reach_of" = some (some (.ref f3)))
    (l3 : K.lookup f3 = some ⟨oc3, od3, .func (PySem.W.fnOf "reach_of" "reach_of" (defArgs s_reach_of) (defBody s_reach_of) (defScope s_reach_of) .none kV3 dc3 pm3 an3 cd3 ct3), sl3⟩)
    (c3 : PySem.W.codeIn K cd3 "reach_of" = true)
    (k3 : PySem.W.keepIn K (.ref f3) = true)
    (a4 : PySem.W.nsIn K mainGlobals "bare_field" = some (some (.ref f4)))
    (l4 : K.lookup f4 = some ⟨oc4, od4, .func (PySem.W.fnOf "bare_field" "bare_field" (defArgs s_bare_field) (defBody s_bare_field) (defScope s_bare_field) .none kV4 dc4 pm4 an4 cd4 ct4), sl4⟩)
    (c4 : PySem.W.codeIn K cd4 "bare_field" = true)
    (k4 : PySem.W.keepIn K (.ref f4) = true)
    (a5 : PySem.W.nsIn K mainGlobals "widened" = some (some (.ref f5)))
    (l5 : K.lookup f5 = some ⟨oc5, od5, .func (PySem.W.fnOf "widened" "widened" (defArgs s_widened) (defBody s_widened) (defScope s_widened) .none kV5 dc5 pm5 an5 cd5 ct5), sl5⟩)
    (c5 : PySem.W.codeIn K cd5 "widened" = true)
    (k5 : PySem.W.keepIn K (.ref f5) = true)
    (a6 : PySem.W.nsIn K mainGlobals "trimmed" = some (some (.ref f6)))
    (l6 : K.lookup f6 = some ⟨oc6, od6, .func (PySem.W.fnOf "trimmed" "trimmed" (defArgs s_trimmed) (defBody s_trimmed) (defScope s_trimmed) .none kV6 dc6 pm6 an6 cd6 ct6), sl6⟩)
    (c6 : PySem.W.codeIn K cd6 "trimmed" = true)
    (k6 : PySem.W.keepIn K (.ref f6) = true)
    (a7 : PySem.W.nsIn K mainGlobals "middle_of" = some (some (.ref f7)))
    (l7 : K.lookup f7 = some ⟨oc7, od7, .func (PySem.W.fnOf "middle_of" "middle_of" (defArgs s_middle_of) (defBody s_middle_of) (defScope s_middle_of) .none kV7 dc7 pm7 an7 cd7 ct7), sl7⟩)
    (c7 : PySem.W.codeIn K cd7 "middle_of" = true)
    (k7 : PySem.W.keepIn K (.ref f7) = true)
    (a8 : PySem.W.nsIn K mainGlobals "is_bare_around" = some (some (.ref f8)))
    (l8 : K.lookup f8 = some ⟨oc8, od8, .func (PySem.W.fnOf "is_bare_around" "is_bare_around" (defArgs s_is_bare_around) (defBody s_is_bare_around) (defScope s_is_bare_around) .none kV8 dc8 pm8 an8 cd8 ct8), sl8⟩)
    (c8 : PySem.W.codeIn K cd8 "is_bare_around" = true)
    (k8 : PySem.W.keepIn K (.ref f8) = true)
    (a9 : PySem.W.nsIn K mainGlobals "widened_over" = some (some (.ref f9)))
    (l9 : K.lookup f9 = some ⟨oc9, od9, .func (PySem.W.fnOf "widened_over" "widened_over" (defArgs s_widened_over) (defBody s_widened_over) (defScope s_widened_over) .none kV9 dc9 pm9 an9 cd9 ct9), sl9⟩)
    (c9 : PySem.W.codeIn K cd9 "widened_over" = true)
    (k9 : PySem.W.keepIn K (.ref f9) = true)
    (a10 : PySem.W.nsIn K mainGlobals "planted" = some (some (.ref f10)))
    (l10 : K.lookup f10 = some ⟨oc10, od10, .func (PySem.W.fnOf "planted" "planted" (defArgs s_planted) (defBody s_planted) (defScope s_planted) .none kV10 dc10 pm10 an10 cd10 ct10), sl10⟩)
    (c10 : PySem.W.codeIn K cd10 "planted" = true)
    (k10 : PySem.W.keepIn K (.ref f10) = true)
    (a11 : PySem.W.nsIn K mainGlobals "replaced" = some (some (.ref f11)))
    (l11 : K.lookup f11 = some ⟨oc11, od11, .func (PySem.W.fnOf "replaced" "replaced" (defArgs s_replaced) (defBody s_replaced) (defScope s_replaced) .none kV11 dc11 pm11 an11 cd11 ct11), sl11⟩)
    (c11 : PySem.W.codeIn K cd11 "replaced" = true)
    (k11 : PySem.W.keepIn K (.ref f11) = true)
    (a12 : PySem.W.nsIn K mainGlobals "field_of" = some (some (.ref f12)))
    (l12 : K.lookup f12 = some ⟨oc12, od12, .func (PySem.W.fnOf "field_of" "field_of" (defArgs s_field_of) (defBody s_field_of) (defScope s_field_of) .none kV12 dc12 pm12 an12 cd12 ct12), sl12⟩)
    (c12 : PySem.W.codeIn K cd12 "field_of" = true)
    (k12 : PySem.W.keepIn K (.ref f12) = true)
    (a13 : PySem.W.nsIn K mainGlobals "by_rows" = some (some (.ref f13)))
    (l13 : K.lookup f13 = some ⟨oc13, od13, .func (PySem.W.fnOf "by_rows" "by_rows" (defArgs s_by_rows) (defBody s_by_rows) (defScope s_by_rows) .none kV13 dc13 pm13 an13 cd13 ct13), sl13⟩)
    (c13 : PySem.W.codeIn K cd13 "by_rows" = true)
    (k13 : PySem.W.keepIn K (.ref f13) = true)
    (a14 : PySem.W.nsIn K mainGlobals "cells_of" = some (some (.ref f14)))
    (l14 : K.lookup f14 = some ⟨oc14, od14, .func (PySem.W.fnOf "cells_of" "cells_of" (defArgs s_cells_of) (defBody s_cells_of) (defScope s_cells_of) .none kV14 dc14 pm14 an14 cd14 ct14), sl14⟩)
    (c14 : PySem.W.codeIn K cd14 "cells_of" = true)
    (k14 : PySem.W.keepIn K (.ref f14) = true)
    (a15 : PySem.W.nsIn K mainGlobals "gather_cells" = some (some (.ref f15)))
    (l15 : K.lookup f15 = some ⟨oc15, od15, .func (PySem.W.fnOf "gather_cells" "gather_cells" (defArgs s_gather_cells) (defBody s_gather_cells) (defScope s_gather_cells) .none kV15 dc15 pm15 an15 cd15 ct15), sl15⟩)
    (c15 : PySem.W.codeIn K cd15 "gather_cells" = true)
    (k15 : PySem.W.keepIn K (.ref f15) = true)
    (a16 : PySem.W.nsIn K mainGlobals "_law_at" = some (some (.ref f16)))
    (l16 : K.lookup f16 = some ⟨oc16, od16, .func (PySem.W.fnOf "_law_at" "_law_at" (defArgs s__law_at) (defBody s__law_at) (defScope s__law_at) .none kV16 dc16 pm16 an16 cd16 ct16), sl16⟩)
    (c16 : PySem.W.codeIn K cd16 "_law_at" = true)
    (k16 : PySem.W.keepIn K (.ref f16) = true)
    (a17 : PySem.W.nsIn K mainGlobals "_law_bits" = some (some (.ref f17)))
    (l17 : K.lookup f17 = some ⟨oc17, od17, .func (PySem.W.fnOf "_law_bits" "_law_bits" (defArgs s__law_bits) (defBody s__law_bits) (defScope s__law_bits) .none kV17 dc17 pm17 an17 cd17 ct17), sl17⟩)
    (c17 : PySem.W.codeIn K cd17 "_law_bits" = true)
    (k17 : PySem.W.keepIn K (.ref f17) = true)
    (a18 : PySem.W.nsIn K mainGlobals "_law_spot" = some (some (.ref f18)))
    (l18 : K.lookup f18 = some ⟨oc18, od18, .func (PySem.W.fnOf "_law_spot" "_law_spot" (defArgs s__law_spot) (defBody s__law_spot) (defScope s__law_spot) .none kV18 dc18 pm18 an18 cd18 ct18), sl18⟩)
    (c18 : PySem.W.codeIn K cd18 "_law_spot" = true)
    (k18 : PySem.W.keepIn K (.ref f18) = true)
    (a19 : PySem.W.nsIn K mainGlobals "_law_cells_by" = some (some (.ref f19)))
    (l19 : K.lookup f19 = some ⟨oc19, od19, .func (PySem.W.fnOf "_law_cells_by" "_law_cells_by" (defArgs s__law_cells_by) (defBody s__law_cells_by) (defScope s__law_cells_by) .none kV19 dc19 pm19 an19 cd19 ct19), sl19⟩)
    (c19 : PySem.W.codeIn K cd19 "_law_cells_by" = true)
    (k19 : PySem.W.keepIn K (.ref f19) = true)
    (a20 : PySem.W.nsIn K mainGlobals "_law_due" = some (some (.ref f20)))
    (l20 : K.lookup f20 = some ⟨oc20, od20, .func (PySem.W.fnOf "_law_due" "_law_due" (defArgs s__law_due) (defBody s__law_due) (defScope s__law_due) .none kV20 dc20 pm20 an20 cd20 ct20), sl20⟩)
    (c20 : PySem.W.codeIn K cd20 "_law_due" = true)
    (k20 : PySem.W.keepIn K (.ref f20) = true)
    (a21 : PySem.W.nsIn K mainGlobals "_law_told" = some (some (.ref f21)))
    (l21 : K.lookup f21 = some ⟨oc21, od21, .func (PySem.W.fnOf "_law_told" "_law_told" (defArgs s__law_told) (defBody s__law_told) (defScope s__law_told) .none kV21 dc21 pm21 an21 cd21 ct21), sl21⟩)
    (c21 : PySem.W.codeIn K cd21 "_law_told" = true)
    (k21 : PySem.W.keepIn K (.ref f21) = true)
    (a22 : PySem.W.nsIn K mainGlobals "law" = some (some (.ref f22)))
    (l22 : K.lookup f22 = some ⟨oc22, od22, .func (PySem.W.fnOf "law" "law" (defArgs s_law) (defBody s_law) (defScope s_law) .none kV22 dc22 pm22 an22 cd22 ct22), sl22⟩)
    (c22 : PySem.W.codeIn K cd22 "law" = true)
    (k22 : PySem.W.keepIn K (.ref f22) = true)
    (a23 : PySem.W.findIn K (.ref c_Grove) "__init__" = some (some (.ref f23)))
    (i23 : PySem.W.isFn K (.ref f23) = true)
    (l23 : K.lookup f23 = some ⟨oc23, od23, .func (PySem.W.fnOf "__init__" "Grove.__init__" (defArgs s_Grove_init) (defBody s_Grove_init) (defScope s_Grove_init) .none kV23 dc23 pm23 an23 cd23 ct23), sl23⟩)
    (c23 : PySem.W.codeIn K cd23 "Grove.__init__" = true)
    (k23 : PySem.W.keepIn K (.ref f23) = true)
    (a24 : PySem.W.findIn K (.ref c_Grove) "kept" = some (some (.ref f24)))
    (i24 : PySem.W.isFn K (.ref f24) = true)
    (l24 : K.lookup f24 = some ⟨oc24, od24, .func (PySem.W.fnOf "kept" "Grove.kept" (defArgs s_Grove_kept) (defBody s_Grove_kept) (defScope s_Grove_kept) .none kV24 dc24 pm24 an24 cd24 ct24), sl24⟩)
    (c24 : PySem.W.codeIn K cd24 "Grove.kept" = true)
    (k24 : PySem.W.keepIn K (.ref f24) = true)
    (a25 : PySem.W.findIn K (.ref c_Grove) "linked" = some (some (.ref f25)))
    (i25 : PySem.W.isFn K (.ref f25) = true)
    (l25 : K.lookup f25 = some ⟨oc25, od25, .func (PySem.W.fnOf "linked" "Grove.linked" (defArgs s_Grove_linked) (defBody s_Grove_linked) (defScope s_Grove_linked) .none kV25 dc25 pm25 an25 cd25 ct25), sl25⟩)
    (c25 : PySem.W.codeIn K cd25 "Grove.linked" = true)
    (k25 : PySem.W.keepIn K (.ref f25) = true)
    (a26 : PySem.W.findIn K (.ref c_Grove) "check_square" = some (some (.ref f26)))
    (i26 : PySem.W.isFn K (.ref f26) = true)
    (l26 : K.lookup f26 = some ⟨oc26, od26, .func (PySem.W.fnOf "check_square" "Grove.check_square" (defArgs s_Grove_check_square) (defBody s_Grove_check_square) (defScope s_Grove_check_square) .none kV26 dc26 pm26 an26 cd26 ct26), sl26⟩)
    (c26 : PySem.W.codeIn K cd26 "Grove.check_square" = true)
    (k26 : PySem.W.keepIn K (.ref f26) = true)
    (a27 : PySem.W.findIn K (.ref c_Grove) "leaf" = some (some (.ref f27)))
    (i27 : PySem.W.isFn K (.ref f27) = true)
    (l27 : K.lookup f27 = some ⟨oc27, od27, .func (PySem.W.fnOf "leaf" "Grove.leaf" (defArgs s_Grove_leaf) (defBody s_Grove_leaf) (defScope s_Grove_leaf) .none kV27 dc27 pm27 an27 cd27 ct27), sl27⟩)
    (c27 : PySem.W.codeIn K cd27 "Grove.leaf" = true)
    (k27 : PySem.W.keepIn K (.ref f27) = true)
    (a28 : PySem.W.findIn K (.ref c_Grove) "solid" = some (some (.ref f28)))
    (i28 : PySem.W.isFn K (.ref f28) = true)
    (l28 : K.lookup f28 = some ⟨oc28, od28, .func (PySem.W.fnOf "solid" "Grove.solid" (defArgs s_Grove_solid) (defBody s_Grove_solid) (defScope s_Grove_solid) .none kV28 dc28 pm28 an28 cd28 ct28), sl28⟩)
    (c28 : PySem.W.codeIn K cd28 "Grove.solid" = true)
    (k28 : PySem.W.keepIn K (.ref f28) = true)
    (a29 : PySem.W.findIn K (.ref c_Grove) "level_of" = some (some (.ref f29)))
    (i29 : PySem.W.isFn K (.ref f29) = true)
    (l29 : K.lookup f29 = some ⟨oc29, od29, .func (PySem.W.fnOf "level_of" "Grove.level_of" (defArgs s_Grove_level_of) (defBody s_Grove_level_of) (defScope s_Grove_level_of) .none kV29 dc29 pm29 an29 cd29 ct29), sl29⟩)
    (c29 : PySem.W.codeIn K cd29 "Grove.level_of" = true)
    (k29 : PySem.W.keepIn K (.ref f29) = true)
    (a30 : PySem.W.findIn K (.ref c_Grove) "state_of" = some (some (.ref f30)))
    (i30 : PySem.W.isFn K (.ref f30) = true)
    (l30 : K.lookup f30 = some ⟨oc30, od30, .func (PySem.W.fnOf "state_of" "Grove.state_of" (defArgs s_Grove_state_of) (defBody s_Grove_state_of) (defScope s_Grove_state_of) .none kV30 dc30 pm30 an30 cd30 ct30), sl30⟩)
    (c30 : PySem.W.codeIn K cd30 "Grove.state_of" = true)
    (k30 : PySem.W.keepIn K (.ref f30) = true)
    (a31 : PySem.W.findIn K (.ref c_Grove) "living" = some (some (.ref f31)))
    (i31 : PySem.W.isFn K (.ref f31) = true)
    (l31 : K.lookup f31 = some ⟨oc31, od31, .func (PySem.W.fnOf "living" "Grove.living" (defArgs s_Grove_living) (defBody s_Grove_living) (defScope s_Grove_living) .none kV31 dc31 pm31 an31 cd31 ct31), sl31⟩)
    (c31 : PySem.W.codeIn K cd31 "Grove.living" = true)
    (k31 : PySem.W.keepIn K (.ref f31) = true)
    (a32 : PySem.W.findIn K (.ref c_Grove) "counted" = some (some (.ref f32)))
    (i32 : PySem.W.isFn K (.ref f32) = true)
    (l32 : K.lookup f32 = some ⟨oc32, od32, .func (PySem.W.fnOf "counted" "Grove.counted" (defArgs s_Grove_counted) (defBody s_Grove_counted) (defScope s_Grove_counted) .none kV32 dc32 pm32 an32 cd32 ct32), sl32⟩)
    (c32 : PySem.W.codeIn K cd32 "Grove.counted" = true)
    (k32 : PySem.W.keepIn K (.ref f32) = true)
    (z_bool : PySem.W.nsIn K mainGlobals "bool" = some none)
    (z_enumerate : PySem.W.nsIn K mainGlobals "enumerate" = some none)
    (z_int : PySem.W.nsIn K mainGlobals "int" = some none)
    (z_isinstance : PySem.W.nsIn K mainGlobals "isinstance" = some none)
    (z_len : PySem.W.nsIn K mainGlobals "len" = some none)
    (z_list : PySem.W.nsIn K mainGlobals "list" = some none)
    (z_min : PySem.W.nsIn K mainGlobals "min" = some none)
    (z_range : PySem.W.nsIn K mainGlobals "range" = some none)
    (z_sorted : PySem.W.nsIn K mainGlobals "sorted" = some none)
    (z_sum : PySem.W.nsIn K mainGlobals "sum" = some none)
    (z_tuple : PySem.W.nsIn K mainGlobals "tuple" = some none)
    (z_zip : PySem.W.nsIn K mainGlobals "zip" = some none)
    (g_STATES : PySem.W.nsIn K mainGlobals "STATES" = some (some (.int 8 t_STATES)))
    (g_TOP_LEVEL : PySem.W.nsIn K mainGlobals "TOP_LEVEL" = some (some (.int 48 t_TOP_LEVEL)))
    (g_LIMIT : PySem.W.nsIn K mainGlobals "LIMIT" = some (some (.int 1099511627776 t_LIMIT)))
    (g_LEAST_LEVEL : PySem.W.nsIn K mainGlobals "LEAST_LEVEL" = some (some (.int 1 t_LEAST_LEVEL)))
    (g_MOST_CELLS : PySem.W.nsIn K mainGlobals "MOST_CELLS" = some (some (.int 4096 t_MOST_CELLS)))
    : ∃ fd : FuncData, (∀ (s : Shared) (v : Value), BindsTo s fd ⟨[v], []⟩ [("_law_script", v)]) ∧ ∀ base : Heap, K.In base → base.Ns mainGlobals mg → FnOk l.prog w K mg base CX0 57 fa fd ["_law_script"] (spLaw K) := by
  have e := hfa.symm.trans (PySem.W.mg_of X G a22)
  cases e
  have no : ∀ {x : Str}, PySem.W.nsIn K mainGlobals x = some none → mg x = none := fun z => PySem.W.mg_none_of X G z
  have T : Top K mg (⟨c_Grove⟩ : Ad) := ⟨no z_bool, no z_enumerate, no z_int, no z_isinstance, no z_len, no z_list, no z_min, no z_range, no z_sorted, no z_sum, no z_tuple, no z_zip, ⟨t_STATES, PySem.W.mg_of X G g_STATES⟩, ⟨t_TOP_LEVEL, PySem.W.mg_of X G g_TOP_LEVEL⟩, ⟨t_LIMIT, PySem.W.mg_of X G g_LIMIT⟩, ⟨t_LEAST_LEVEL, PySem.W.mg_of X G g_LEAST_LEVEL⟩, ⟨t_MOST_CELLS, PySem.W.mg_of X G g_MOST_CELLS⟩, PySem.W.mg_of X G n_c_Grove, ⟨pg_Grove, hd_Grove, po_Grove, sa_Grove⟩, na_Grove_levels, na_Grove_parts, na_Grove_numbers, na_Grove_bares, na_Grove_amounts, na_Grove_boxes⟩
  have F_is_whole := fun_mk (x := "is_whole") (qual := "is_whole") (st := s_is_whole) l0 c0 k0
  have b_is_whole := F_is_whole.binds (ps := p_is_whole) fun _ _ _ _ _ _ us hl => by obtain ⟨x0, rfl⟩ := ar1 us hl; exact rfl
  have m_is_whole := PySem.W.mg_of X G a0
  have F_is_state := fun_mk (x := "is_state") (qual := "is_state") (st := s_is_state) l1 c1 k1
  have b_is_state := F_is_state.binds (ps := p_is_state) fun _ _ _ _ _ _ us hl => by obtain ⟨x0, rfl⟩ := ar1 us hl; exact rfl
  have m_is_state := PySem.W.mg_of X G a1
  have F_lies_within := fun_mk (x := "lies_within") (qual := "lies_within") (st := s_lies_within) l2 c2 k2
  have b_lies_within := F_lies_within.binds (ps := p_lies_within) fun _ _ _ _ _ _ us hl => by obtain ⟨x0, x1, rfl⟩ := ar2 us hl; exact rfl
  have m_lies_within := PySem.W.mg_of X G a2
  have F_reach_of := fun_mk (x := "reach_of") (qual := "reach_of") (st := s_reach_of) l3 c3 k3
  have b_reach_of := F_reach_of.binds (ps := p_reach_of) fun _ _ _ _ _ _ us hl => by obtain ⟨x0, x1, rfl⟩ := ar2 us hl; exact rfl
  have m_reach_of := PySem.W.mg_of X G a3
  have F_bare_field := fun_mk (x := "bare_field") (qual := "bare_field") (st := s_bare_field) l4 c4 k4
  have b_bare_field := F_bare_field.binds (ps := p_bare_field) fun _ _ _ _ _ _ us hl => by obtain ⟨x0, rfl⟩ := ar1 us hl; exact rfl
  have m_bare_field := PySem.W.mg_of X G a4
  have F_widened := fun_mk (x := "widened") (qual := "widened") (st := s_widened) l5 c5 k5
  have b_widened := F_widened.binds (ps := p_widened) fun _ _ _ _ _ _ us hl => by obtain ⟨x0, x1, rfl⟩ := ar2 us hl; exact rfl
  have m_widened := PySem.W.mg_of X G a5
  have F_trimmed := fun_mk (x := "trimmed") (qual := "trimmed") (st := s_trimmed) l6 c6 k6
  have b_trimmed := F_trimmed.binds (ps := p_trimmed) fun _ _ _ _ _ _ us hl => by obtain ⟨x0, x1, rfl⟩ := ar2 us hl; exact rfl
  have m_trimmed := PySem.W.mg_of X G a6
  have F_middle_of := fun_mk (x := "middle_of") (qual := "middle_of") (st := s_middle_of) l7 c7 k7
  have b_middle_of := F_middle_of.binds (ps := p_middle_of) fun _ _ _ _ _ _ us hl => by obtain ⟨x0, x1, rfl⟩ := ar2 us hl; exact rfl
  have m_middle_of := PySem.W.mg_of X G a7
  have F_is_bare_around := fun_mk (x := "is_bare_around") (qual := "is_bare_around") (st := s_is_bare_around) l8 c8 k8
  have b_is_bare_around := F_is_bare_around.binds (ps := p_is_bare_around) fun _ _ _ _ _ _ us hl => by obtain ⟨x0, x1, rfl⟩ := ar2 us hl; exact rfl
  have m_is_bare_around := PySem.W.mg_of X G a8
  have F_widened_over := fun_mk (x := "widened_over") (qual := "widened_over") (st := s_widened_over) l9 c9 k9
  have b_widened_over := F_widened_over.binds (ps := p_widened_over) fun _ _ _ _ _ _ us hl => by obtain ⟨x0, x1, x2, rfl⟩ := ar3 us hl; exact rfl
  have m_widened_over := PySem.W.mg_of X G a9
  have F_planted := fun_mk (x := "planted") (qual := "planted") (st := s_planted) l10 c10 k10
  have b_planted := F_planted.binds (ps := p_planted) fun _ _ _ _ _ _ us hl => by obtain ⟨x0, x1, x2, x3, x4, rfl⟩ := ar5 us hl; exact rfl
  have m_planted := PySem.W.mg_of X G a10
  have F_replaced := fun_mk (x := "replaced") (qual := "replaced") (st := s_replaced) l11 c11 k11
  have b_replaced := F_replaced.binds (ps := p_replaced) fun _ _ _ _ _ _ us hl => by obtain ⟨x0, x1, x2, x3, x4, rfl⟩ := ar5 us hl; exact rfl
  have m_replaced := PySem.W.mg_of X G a11
  have F_field_of := fun_mk (x := "field_of") (qual := "field_of") (st := s_field_of) l12 c12 k12
  have b_field_of := F_field_of.binds (ps := p_field_of) fun _ _ _ _ _ _ us hl => by obtain ⟨x0, x1, rfl⟩ := ar2 us hl; exact rfl
  have m_field_of := PySem.W.mg_of X G a12
  have F_by_rows := fun_mk (x := "by_rows") (qual := "by_rows") (st := s_by_rows) l13 c13 k13
  have b_by_rows := F_by_rows.binds (ps := p_by_rows) fun _ _ _ _ _ _ us hl => by obtain ⟨x0, rfl⟩ := ar1 us hl; exact rfl
  have m_by_rows := PySem.W.mg_of X G a13
  have F_cells_of := fun_mk (x := "cells_of") (qual := "cells_of") (st := s_cells_of) l14 c14 k14
  have b_cells_of := F_cells_of.binds (ps := p_cells_of) fun _ _ _ _ _ _ us hl => by obtain ⟨x0, x1, rfl⟩ := ar2 us hl; exact rfl
  have m_cells_of := PySem.W.mg_of X G a14
  have F_gather_cells := fun_mk (x := "gather_cells") (qual := "gather_cells") (st := s_gather_cells) l15 c15 k15
  have b_gather_cells := F_gather_cells.binds (ps := p_gather_cells) fun _ _ _ _ _ _ us hl => by obtain ⟨x0, x1, x2, x3, x4, rfl⟩ := ar5 us hl; exact rfl
  have m_gather_cells := PySem.W.mg_of X G a15
  have F__law_at := fun_mk (x := "_law_at") (qual := "_law_at") (st := s__law_at) l16 c16 k16
  have b__law_at := F__law_at.binds (ps := p__law_at) fun _ _ _ _ _ _ us hl => by obtain ⟨x0, x1, rfl⟩ := ar2 us hl; exact rfl
  have m__law_at := PySem.W.mg_of X G a16
  have F__law_bits := fun_mk (x := "_law_bits") (qual := "_law_bits") (st := s__law_bits) l17 c17 k17
  have b__law_bits := F__law_bits.binds (ps := p__law_bits) fun _ _ _ _ _ _ us hl => by obtain ⟨x0, rfl⟩ := ar1 us hl; exact rfl
  have m__law_bits := PySem.W.mg_of X G a17
  have F__law_spot := fun_mk (x := "_law_spot") (qual := "_law_spot") (st := s__law_spot) l18 c18 k18
  have b__law_spot := F__law_spot.binds (ps := p__law_spot) fun _ _ _ _ _ _ us hl => by obtain ⟨x0, x1, rfl⟩ := ar2 us hl; exact rfl
  have m__law_spot := PySem.W.mg_of X G a18
  have F__law_cells_by := fun_mk (x := "_law_cells_by") (qual := "_law_cells_by") (st := s__law_cells_by) l19 c19 k19
  have b__law_cells_by := F__law_cells_by.binds (ps := p__law_cells_by) fun _ _ _ _ _ _ us hl => by obtain ⟨x0, rfl⟩ := ar1 us hl; exact rfl
  have m__law_cells_by := PySem.W.mg_of X G a19
  have F__law_due := fun_mk (x := "_law_due") (qual := "_law_due") (st := s__law_due) l20 c20 k20
  have b__law_due := F__law_due.binds (ps := p__law_due) fun _ _ _ _ _ _ us hl => by obtain ⟨x0, rfl⟩ := ar1 us hl; exact rfl
  have m__law_due := PySem.W.mg_of X G a20
  have F__law_told := fun_mk (x := "_law_told") (qual := "_law_told") (st := s__law_told) l21 c21 k21
  have b__law_told := F__law_told.binds (ps := p__law_told) fun _ _ _ _ _ _ us hl => by obtain ⟨x0, x1, rfl⟩ := ar2 us hl; exact rfl
  have m__law_told := PySem.W.mg_of X G a21
  have F_law := fun_mk (x := "law") (qual := "law") (st := s_law) l22 c22 k22
  have m_law := PySem.W.mg_of X G a22
  have F_Grove_init := fun_mk (x := "__init__") (qual := "Grove.__init__") (st := s_Grove_init) l23 c23 k23
  have b_Grove_init := F_Grove_init.binds (ps := p_Grove_init) fun _ _ _ _ _ _ us hl => by obtain ⟨x0, rfl⟩ := ar1 us hl; exact rfl
  have M_Grove : Mk K c_Grove f23 := ⟨mk_Grove, a23, i23, kc_Grove⟩
  have F_Grove_kept := fun_mk (x := "kept") (qual := "Grove.kept") (st := s_Grove_kept) l24 c24 k24
  have b_Grove_kept := F_Grove_kept.binds (ps := p_Grove_kept) fun _ _ _ _ _ _ us hl => by obtain ⟨x0, x1, x2, rfl⟩ := ar3 us hl; exact rfl
  have e_Grove_kept : Meth K c_Grove "kept" f24 := ⟨a24, i24, k24⟩
  have F_Grove_linked := fun_mk (x := "linked") (qual := "Grove.linked") (st := s_Grove_linked) l25 c25 k25
  have b_Grove_linked := F_Grove_linked.binds (ps := p_Grove_linked) fun _ _ _ _ _ _ us hl => by obtain ⟨x0, x1, rfl⟩ := ar2 us hl; exact rfl
  have e_Grove_linked : Meth K c_Grove "linked" f25 := ⟨a25, i25, k25⟩
  have F_Grove_check_square := fun_mk (x := "check_square") (qual := "Grove.check_square") (st := s_Grove_check_square) l26 c26 k26
  have b_Grove_check_square := F_Grove_check_square.binds (ps := p_Grove_check_square) fun _ _ _ _ _ _ us hl => by obtain ⟨x0, x1, rfl⟩ := ar2 us hl; exact rfl
  have e_Grove_check_square : Meth K c_Grove "check_square" f26 := ⟨a26, i26, k26⟩
  have F_Grove_leaf := fun_mk (x := "leaf") (qual := "Grove.leaf") (st := s_Grove_leaf) l27 c27 k27
  have b_Grove_leaf := F_Grove_leaf.binds (ps := p_Grove_leaf) fun _ _ _ _ _ _ us hl => by obtain ⟨x0, x1, rfl⟩ := ar2 us hl; exact rfl
  have e_Grove_leaf : Meth K c_Grove "leaf" f27 := ⟨a27, i27, k27⟩
  have F_Grove_solid := fun_mk (x := "solid") (qual := "Grove.solid") (st := s_Grove_solid) l28 c28 k28
  have b_Grove_solid := F_Grove_solid.binds (ps := p_Grove_solid) fun _ _ _ _ _ _ us hl => by obtain ⟨x0, x1, x2, rfl⟩ := ar3 us hl; exact rfl
  have e_Grove_solid : Meth K c_Grove "solid" f28 := ⟨a28, i28, k28⟩
  have F_Grove_level_of := fun_mk (x := "level_of") (qual := "Grove.level_of") (st := s_Grove_level_of) l29 c29 k29
  have b_Grove_level_of := F_Grove_level_of.binds (ps := p_Grove_level_of) fun _ _ _ _ _ _ us hl => by obtain ⟨x0, x1, rfl⟩ := ar2 us hl; exact rfl
  have e_Grove_level_of : Meth K c_Grove "level_of" f29 := ⟨a29, i29, k29⟩
  have F_Grove_state_of := fun_mk (x := "state_of") (qual := "Grove.state_of") (st := s_Grove_state_of) l30 c30 k30
  have b_Grove_state_of := F_Grove_state_of.binds (ps := p_Grove_state_of) fun _ _ _ _ _ _ us hl => by obtain ⟨x0, x1, rfl⟩ := ar2 us hl; exact rfl
  have e_Grove_state_of : Meth K c_Grove "state_of" f30 := ⟨a30, i30, k30⟩
  have F_Grove_living := fun_mk (x := "living") (qual := "Grove.living") (st := s_Grove_living) l31 c31 k31
  have b_Grove_living := F_Grove_living.binds (ps := p_Grove_living) fun _ _ _ _ _ _ us hl => by obtain ⟨x0, x1, rfl⟩ := ar2 us hl; exact rfl
  have e_Grove_living : Meth K c_Grove "living" f31 := ⟨a31, i31, k31⟩
  have F_Grove_counted := fun_mk (x := "counted") (qual := "Grove.counted") (st := s_Grove_counted) l32 c32 k32
  have b_Grove_counted := F_Grove_counted.binds (ps := p_Grove_counted) fun _ _ _ _ _ _ us hl => by obtain ⟨x0, x1, rfl⟩ := ar2 us hl; exact rfl
  have e_Grove_counted : Meth K c_Grove "counted" f32 := ⟨a32, i32, k32⟩
  refine ⟨PySem.W.fnOf "law" "law" (defArgs s_law) (defBody s_law) (defScope s_law) .none kV22 dc22 pm22 an22 cd22 ct22, fun s v => .of_eq rfl, fun base _ _ => ?_⟩
  have C_is_whole : Cal l.prog w K mg base CX0 1 "is_whole" p_is_whole spIW := ⟨_, _, ok_iw F_is_whole T, m_is_whole, F_is_whole.kp, b_is_whole⟩
  have C_is_state : Cal l.prog w K mg base CX0 2 "is_state" p_is_state spIS := ⟨_, _, ok_is F_is_state T C_is_whole, m_is_state, F_is_state.kp, b_is_state⟩
  have M_Grove_kept : CalM l.prog w K mg base CX0 1 c_Grove "kept" p_Grove_kept (spKept _) := ⟨⟨_, _, ok_kept F_Grove_kept T, e_Grove_kept, b_Grove_kept⟩, T.cl_Grove⟩
  have C_Grove : CalC l.prog w K mg base CX0 2 "Grove" c_Grove p_Grove_init (spGInit _) := ⟨_, _, ok_ginit F_Grove_init T M_Grove_kept, M_Grove, T.m_Grove, b_Grove_init⟩
  have M_Grove_linked : CalM l.prog w K mg base CX0 2 c_Grove "linked" p_Grove_linked (spLink _) := ⟨⟨_, _, ok_link F_Grove_linked T M_Grove_kept, e_Grove_linked, b_Grove_linked⟩, T.cl_Grove⟩
  have M_Grove_check_square : CalM l.prog w K mg base CX0 2 c_Grove "check_square" p_Grove_check_square (spChk _) := ⟨⟨_, _, ok_chk F_Grove_check_square T C_is_whole, e_Grove_check_square, b_Grove_check_square⟩, T.cl_Grove⟩
  have M_Grove_leaf : CalM l.prog w K mg base CX0 3 c_Grove "leaf" p_Grove_leaf (spLeaf _) := ⟨⟨_, _, ok_leaf F_Grove_leaf T C_is_state, e_Grove_leaf, b_Grove_leaf⟩, T.cl_Grove⟩
  have M_Grove_level_of : CalM l.prog w K mg base CX0 3 c_Grove "level_of" p_Grove_level_of (spLev _) := ⟨⟨_, _, ok_lev F_Grove_level_of T M_Grove_check_square, e_Grove_level_of, b_Grove_level_of⟩, T.cl_Grove⟩
  have M_Grove_solid : CalM l.prog w K mg base CX0 4 c_Grove "solid" p_Grove_solid (spSolid _) := ⟨⟨_, _, ok_solid F_Grove_solid T C_is_whole M_Grove_leaf M_Grove_linked, e_Grove_solid, b_Grove_solid⟩, T.cl_Grove⟩
  have M_Grove_state_of : CalM l.prog w K mg base CX0 4 c_Grove "state_of" p_Grove_state_of (spSta _) := ⟨⟨_, _, ok_sta F_Grove_state_of T M_Grove_level_of, e_Grove_state_of, b_Grove_state_of⟩, T.cl_Grove⟩
  have M_Grove_counted : CalM l.prog w K mg base CX0 50 c_Grove "counted" p_Grove_counted (spCnt _ 49) := ⟨⟨_, _, ok_cnt F_Grove_counted T e_Grove_counted b_Grove_counted 49, e_Grove_counted, b_Grove_counted⟩, T.cl_Grove⟩
  have M_Grove_living : CalM l.prog w K mg base CX0 51 c_Grove "living" p_Grove_living (spLiv _) := ⟨⟨_, _, ok_liv F_Grove_living T M_Grove_check_square M_Grove_counted, e_Grove_living, b_Grove_living⟩, T.cl_Grove⟩
  have C_lies_within : Cal l.prog w K mg base CX0 1 "lies_within" p_lies_within spLie := ⟨_, _, ok_lie F_lies_within T, m_lies_within, F_lies_within.kp, b_lies_within⟩
  have C_reach_of : Cal l.prog w K mg base CX0 4 "reach_of" p_reach_of (spReach _) := ⟨_, _, ok_reach F_reach_of T M_Grove_level_of, m_reach_of, F_reach_of.kp, b_reach_of⟩
  have C_widened : Cal l.prog w K mg base CX0 4 "widened" p_widened (spWid _) := ⟨_, _, ok_wid F_widened T M_Grove_level_of M_Grove_linked, m_widened, F_widened.kp, b_widened⟩
  have C_middle_of : Cal l.prog w K mg base CX0 3 "middle_of" p_middle_of (spMid _) := ⟨_, _, ok_mid F_middle_of T M_Grove_linked, m_middle_of, F_middle_of.kp, b_middle_of⟩
  have C_is_bare_around : Cal l.prog w K mg base CX0 1 "is_bare_around" p_is_bare_around (spBA _) := ⟨_, _, ok_ba F_is_bare_around T, m_is_bare_around, F_is_bare_around.kp, b_is_bare_around⟩
  have C_trimmed : Cal l.prog w K mg base CX0 4 "trimmed" p_trimmed (spTrim _) := ⟨_, _, ok_trim F_trimmed T M_Grove_level_of C_is_bare_around C_middle_of, m_trimmed, F_trimmed.kp, b_trimmed⟩
  have C_widened_over : Cal l.prog w K mg base CX0 5 "widened_over" p_widened_over (spWO _) := ⟨_, _, ok_wo F_widened_over T C_lies_within C_reach_of C_widened, m_widened_over, F_widened_over.kp, b_widened_over⟩
  have C_bare_field : Cal l.prog w K mg base CX0 1 "bare_field" p_bare_field (spBareF _) := ⟨_, _, ok_bareF F_bare_field T, m_bare_field, F_bare_field.kp, b_bare_field⟩
  have C_replaced : Cal l.prog w K mg base CX0 54 "replaced" p_replaced (spRep _ 50) := ⟨_, _, ok_rep F_replaced T m_replaced b_replaced M_Grove_leaf M_Grove_linked 50, m_replaced, F_replaced.kp, b_replaced⟩
  have C_planted : Cal l.prog w K mg base CX0 55 "planted" p_planted (spPlant _) := ⟨_, _, ok_plant F_planted T C_lies_within C_is_state C_reach_of C_widened_over C_replaced C_trimmed, m_planted, F_planted.kp, b_planted⟩
  have C_field_of : Cal l.prog w K mg base CX0 56 "field_of" p_field_of (spFld _) := ⟨_, _, ok_fld F_field_of T C_bare_field C_planted, m_field_of, F_field_of.kp, b_field_of⟩
  have C_by_rows : Cal l.prog w K mg base CX0 1 "by_rows" p_by_rows spRow := ⟨_, _, ok_row F_by_rows T, m_by_rows, F_by_rows.kp, b_by_rows⟩
  have C_gather_cells : Cal l.prog w K mg base CX0 55 "gather_cells" p_gather_cells (spGa _ 50) := ⟨_, _, ok_ga F_gather_cells T m_gather_cells b_gather_cells M_Grove_state_of 50, m_gather_cells, F_gather_cells.kp, b_gather_cells⟩
  have C_cells_of : Cal l.prog w K mg base CX0 56 "cells_of" p_cells_of (spCo _) := ⟨_, _, ok_co F_cells_of T M_Grove_living C_reach_of C_gather_cells C_by_rows, m_cells_of, F_cells_of.kp, b_cells_of⟩
  have C__law_at : Cal l.prog w K mg base CX0 1 "_law_at" p__law_at (spAt K) := ⟨_, _, ok_at F__law_at T, m__law_at, F__law_at.kp, b__law_at⟩
  have C__law_bits : Cal l.prog w K mg base CX0 1 "_law_bits" p__law_bits spBits := ⟨_, _, ok_bits F__law_bits T, m__law_bits, F__law_bits.kp, b__law_bits⟩
  have C__law_spot : Cal l.prog w K mg base CX0 1 "_law_spot" p__law_spot spSpot := ⟨_, _, ok_spot F__law_spot T, m__law_spot, F__law_spot.kp, b__law_spot⟩
  have C__law_cells_by : Cal l.prog w K mg base CX0 2 "_law_cells_by" p__law_cells_by (spCb K) := ⟨_, _, ok_cb F__law_cells_by T C__law_at C__law_bits C__law_spot, m__law_cells_by, F__law_cells_by.kp, b__law_cells_by⟩
  have C__law_due : Cal l.prog w K mg base CX0 1 "_law_due" p__law_due spDue := ⟨_, _, ok_due F__law_due T, m__law_due, F__law_due.kp, b__law_due⟩
  have C__law_told : Cal l.prog w K mg base CX0 1 "_law_told" p__law_told spTold := ⟨_, _, ok_told F__law_told T, m__law_told, F__law_told.kp, b__law_told⟩
  exact ok_law F_law T C_Grove C__law_cells_by C__law_due C_field_of C_cells_of C__law_told M_Grove_solid
theorem walk {l : PySem.W.OpenLaw} {q : Program} {loose : List Str} {XP : (Str → Option Value) → Heap → Prop} {YP : World → Heap → Prop} {d : DefRec} {K : Params → PySem.W.Frag} (hn : l.most = some 63) (hdf : d.params.defaults = [])
    (hY : ∀ (w : World) (h : Heap), YP w h → (K w.params).In h)
    (F : ∀ (w : World) (mg : Str → Option Value) (fa : Addr) (h : Heap), (K w.params).In h → h.Ns mainGlobals mg → mg d.name = some (.ref fa) →
      ∃ fd : FuncData, (∀ (s : Shared) (u : Value), BindsTo s fd ⟨[u], []⟩ [("_law_script", u)]) ∧ ∀ base : Heap, (K w.params).In base → base.Ns mainGlobals mg → FnOk l.prog w (K w.params) mg base CX0 57 fa fd ["_law_script"] (spLaw (K w.params))) :
    PySem.W.WalkO q loose XP YP l.row.toRowW d [] (fun f vs => PySem.call f vs) :=
  L2.walk_of (n := 63) (k := 57) (x := "_law_script") (CX := fun _ => CX0) (sp := fun w => spLaw (K w.params)) hn (by decide) hdf ⟨rfl, by decide, by decide⟩ hY F (fun _ _ a ns hl _ hS => ⟨a, ns, rfl, hS, hl, fun _ => rfl⟩) fun _ _ _ _ _ z => z
end J
theorem PySem.W.Fast.tw5333742381921043130 : True := True.intro
theorem PySem.W.Fast.tw18381725252700377173 : True := True.intro
theorem PySem.W.Fast.tw4300866347120835773 : True := True.intro
theorem PySem.W.Fast.tw12858268943707154352 : True := True.intro
theorem PySem.W.Fast.tw6431021802068922051 : True := True.intro
theorem PySem.W.Fast.tw17517050981252140063 : True := True.intro
theorem PySem.W.Fast.tw3275488032481407264 : True := True.intro
theorem PySem.W.Fast.tw17226754049892433912 : True := True.intro
theorem PySem.W.Fast.tw9285892962223494358 : True := True.intro
theorem PySem.W.Fast.tw14248093135778191267 : True := True.intro
theorem PySem.W.Fast.tw2251583230877645114 : True := True.intro
theorem PySem.W.Fast.tw6981041294675415549 : True := True.intro
theorem PySem.W.Fast.tw7310345748664370283 : True := True.intro
theorem PySem.W.Fast.tw4104722804769695077 : True := True.intro
theorem PySem.W.Fast.tw5105465620241876917 : True := True.intro
theorem PySem.W.Fast.tw6430807001497023029 : True := True.intro
theorem PySem.W.Fast.tw2487631683161433150 : True := True.intro
theorem PySem.W.Fast.tw9141444734620780876 : True := True.intro
theorem PySem.W.Fast.tw13783946486527112332 : True := True.intro
theorem PySem.W.Fast.tw13540002605574263325 : True := True.intro
theorem PySem.W.Fast.tw15560428214589448587 : True := True.intro
theorem PySem.W.Fast.tw13153407556500906155 : True := True.intro
theorem PySem.W.Fast.tw12957948946240817950 : True := True.intro
theorem PySem.W.Fast.tw9392006589664507246 : True := True.intro
theorem PySem.W.Fast.tw15580309711660459345 : True := True.intro
theorem PySem.W.Fast.tw17536570251580212144 : True := True.intro
theorem PySem.W.Fast.tw11593542761983287695 : True := True.intro
theorem PySem.W.Fast.tw8533931564357067856 : True := True.intro
theorem PySem.W.Fast.tw1809429352104271444 : True := True.intro
theorem PySem.W.Fast.tw13752526369256779150 : True := True.intro
theorem PySem.W.Fast.tw4171147357881938486 : True := True.intro
theorem PySem.W.Fast.tw12379139096519444300 : True := True.intro
theorem PySem.W.Fast.tw1578382674158114634 : True := True.intro
theorem PySem.W.Fast.tw13979792424110901167 : True := True.intro
theorem PySem.W.Fast.tw9202826079664962023 : True := True.intro
theorem PySem.W.Fast.tw16053227524903886621 : True := True.intro
theorem PySem.W.Fast.tw9923404624603239248 : True := True.intro
theorem PySem.W.Fast.tw17478989765634910950 : True := True.intro
theorem PySem.W.Fast.tw9164473282866045652 : True := True.intro
theorem PySem.W.Fast.tw5718711376395205874 : True := True.intro
theorem PySem.W.Fast.tw53790768269616689 : True := True.intro
theorem PySem.W.Fast.tw2475846711920554424 : True := True.intro
theorem PySem.W.Fast.tw16571538120415931927 : True := True.intro
theorem PySem.W.Fast.tw4737229436303792119 : True := True.intro
theorem PySem.W.Fast.tw4414102205875408521 : True := True.intro
theorem PySem.W.Fast.tw14511290983383929077 : True := True.intro
theorem PySem.W.Fast.tw10729944576803243371 : True := True.intro
theorem PySem.W.Fast.tw17781759045944642556 : True := True.intro
theorem PySem.W.Fast.tw5272526963939709511 : True := True.intro
theorem PySem.W.Fast.tw7258232119484826836 : True := True.intro
theorem PySem.W.Fast.tw652387734618159211 : True := True.intro
theorem PySem.W.Fast.tw4122526449561748442 : True := True.intro
theorem PySem.W.Fast.tw8780925926801411520 : True := True.intro
theorem PySem.W.Fast.tw3033147788354406053 : True := True.intro
theorem PySem.W.Fast.tw3433511666965727686 : True := True.intro
theorem PySem.W.Fast.tw12993774578230767893 : True := True.intro
theorem PySem.W.Fast.tw6433864052340387778 : True := True.intro
theorem PySem.W.Fast.tw16364111037748748725 : True := True.intro
open PySem PySem.W PyProof.Rows
set_option maxRecDepth 100000 in
set_option maxHeartbeats 0 in
theorem PySem.Challenge.cw_jumpfield_k24_cells_told_holds : PySem.Challenge.rw_jumpfield_k24_cells_told.Holds := by
  w_on; o_law; k_head; (case hw => w_witness2)
  k_fill
  refine J.walk (l := PySem.Challenge.rw_jumpfield_k24_cells_told) rfl rfl (fun w h Y => PySem.W.kIn_of Y) ?F
  case F =>
    intro w mg fa h KX G hmg
    refine' J.fin KX G hmg ?n_c_Grove ?pg_Grove ?hd_Grove ?po_Grove ?sa_Grove ?mk_Grove ?kc_Grove ?na_Grove_levels ?na_Grove_parts ?na_Grove_numbers ?na_Grove_bares ?na_Grove_amounts ?na_Grove_boxes ?a0 ?l0 ?c0 ?k0 ?a1 ?l1 ?c1 ?k1 ?a2 ?l2 ?c2 ?k2 ?a3 ?l3 ?c3 ?k3 ?a4 ?l4 ?c4 ?k4 ?a5 ?l5 ?c5 ?k5 ?a6 ?l6 ?c6 ?k6 ?a7 ?l7 ?c7 ?k7 ?a8 ?l8 ?c8 ?k8 ?a9 ?l9 ?c9 ?k9 ?a10 ?l10 ?c10 ?k10 ?a11 ?l11 ?c11 ?k11 ?a12 ?l12 ?c12 ?k12 ?a13 ?l13 ?c13 ?k13 ?a14 ?l14 ?c14 ?k14 ?a15 ?l15 ?c15 ?k15 ?a16 ?l16 ?c16 ?k16 ?a17 ?l17 ?c17 ?k17 ?a18 ?l18 ?c18 ?k18 ?a19 ?l19 ?c19 ?k19 ?a20 ?l20 ?c20 ?k20 ?a21 ?l21 ?c21 ?k21 ?a22 ?l22 ?c22 ?k22 ?a23 ?i23 ?l23 ?c23 ?k23 ?a24 ?i24 ?l24 ?c24 ?k24 ?a25 ?i25 ?l25 ?c25 ?k25 ?a26 ?i26 ?l26 ?c26 ?k26 ?a27 ?i27 ?l27 ?c27 ?k27 ?a28 ?i28 ?l28 ?c28 ?k28 ?a29 ?i29 ?l29 ?c29 ?k29 ?a30 ?i30 ?l30 ?c30 ?k30 ?a31 ?i31 ?l31 ?c31 ?k31 ?a32 ?i32 ?l32 ?c32 ?k32 ?z_bool ?z_enumerate ?z_int ?z_isinstance ?z_len ?z_list ?z_min ?z_range ?z_sorted ?z_sum ?z_tuple ?z_zip ?g_STATES ?g_TOP_LEVEL ?g_LIMIT ?g_LEAST_LEVEL ?g_MOST_CELLS
    (case n_c_Grove => k_is)
    (case pg_Grove => k_is)
    (case hd_Grove => k_is)
    (case po_Grove => k_is)
    (case sa_Grove => k_is)
    (case mk_Grove => k_is)
    (case kc_Grove => k_is)
    (case na_Grove_levels => k_is)
    (case na_Grove_parts => k_is)
    (case na_Grove_numbers => k_is)
    (case na_Grove_bares => k_is)
    (case na_Grove_amounts => k_is)
    (case na_Grove_boxes => k_is)
    (case a0 => k_is)
    (case l0 => k_is)
    (case c0 => k_is)
    (case k0 => k_is)
    (case a1 => k_is)
    (case l1 => k_is)
    (case c1 => k_is)
    (case k1 => k_is)
    (case a2 => k_is)
    (case l2 => k_is)
    (case c2 => k_is)
    (case k2 => k_is)
    (case a3 => k_is)
    (case l3 => k_is)
    (case c3 => k_is)
    (case k3 => k_is)
    (case a4 => k_is)
    (case l4 => k_is)
    (case c4 => k_is)
    (case k4 => k_is)
    (case a5 => k_is)
    (case l5 => k_is)
    (case c5 => k_is)
    (case k5 => k_is)
    (case a6 => k_is)
    (case l6 => k_is)
    (case c6 => k_is)
    (case k6 => k_is)
    (case a7 => k_is)
    (case l7 => k_is)
    (case c7 => k_is)
    (case k7 => k_is)
    (case a8 => k_is)
    (case l8 => k_is)
    (case c8 => k_is)
    (case k8 => k_is)
    (case a9 => k_is)
    (case l9 => k_is)
    (case c9 => k_is)
    (case k9 => k_is)
    (case a10 => k_is)
    (case l10 => k_is)
    (case c10 => k_is)
    (case k10 => k_is)
    (case a11 => k_is)
    (case l11 => k_is)
    (case c11 => k_is)
    (case k11 => k_is)
    (case a12 => k_is)
    (case l12 => k_is)
    (case c12 => k_is)
    (case k12 => k_is)
    (case a13 => k_is)
    (case l13 => k_is)
    (case c13 => k_is)
    (case k13 => k_is)
    (case a14 => k_is)
    (case l14 => k_is)
    (case c14 => k_is)
    (case k14 => k_is)
    (case a15 => k_is)
    (case l15 => k_is)
    (case c15 => k_is)
    (case k15 => k_is)
    (case a16 => k_is)
    (case l16 => k_is)
    (case c16 => k_is)
    (case k16 => k_is)
    (case a17 => k_is)
    (case l17 => k_is)
    (case c17 => k_is)
    (case k17 => k_is)
    (case a18 => k_is)
    (case l18 => k_is)
    (case c18 => k_is)
    (case k18 => k_is)
    (case a19 => k_is)
    (case l19 => k_is)
    (case c19 => k_is)
    (case k19 => k_is)
    (case a20 => k_is)
    (case l20 => k_is)
    (case c20 => k_is)
    (case k20 => k_is)
    (case a21 => k_is)
    (case l21 => k_is)
    (case c21 => k_is)
    (case k21 => k_is)
    (case a22 => k_is)
    (case l22 => k_is)
    (case c22 => k_is)
    (case k22 => k_is)
    (case a23 => k_is)
    (case i23 => k_is)
    (case l23 => k_is)
    (case c23 => k_is)
    (case k23 => k_is)
    (case a24 => k_is)
    (case i24 => k_is)
    (case l24 => k_is)
    (case c24 => k_is)
    (case k24 => k_is)
    (case a25 => k_is)
    (case i25 => k_is)
    (case l25 => k_is)
    (case c25 => k_is)
    (case k25 => k_is)
    (case a26 => k_is)
    (case i26 => k_is)
    (case l26 => k_is)
    (case c26 => k_is)
    (case k26 => k_is)
    (case a27 => k_is)
    (case i27 => k_is)
    (case l27 => k_is)
    (case c27 => k_is)
    (case k27 => k_is)
    (case a28 => k_is)
    (case i28 => k_is)
    (case l28 => k_is)
    (case c28 => k_is)
    (case k28 => k_is)
    (case a29 => k_is)
    (case i29 => k_is)
    (case l29 => k_is)
    (case c29 => k_is)
    (case k29 => k_is)
    (case a30 => k_is)
    (case i30 => k_is)
    (case l30 => k_is)
    (case c30 => k_is)
    (case k30 => k_is)
    (case a31 => k_is)
    (case i31 => k_is)
    (case l31 => k_is)
    (case c31 => k_is)
    (case k31 => k_is)
    (case a32 => k_is)
    (case i32 => k_is)
    (case l32 => k_is)
    (case c32 => k_is)
    (case k32 => k_is)
    (case z_bool => k_is)
    (case z_enumerate => k_is)
    (case z_int => k_is)
    (case z_isinstance => k_is)
    (case z_len => k_is)
    (case z_list => k_is)
    (case z_min => k_is)
    (case z_range => k_is)
    (case z_sorted => k_is)
    (case z_sum => k_is)
    (case z_tuple => k_is)
    (case z_zip => k_is)
    (case g_STATES => k_is)
    (case g_TOP_LEVEL => k_is)
    (case g_LIMIT => k_is)
    (case g_LEAST_LEVEL => k_is)
    (case g_MOST_CELLS => k_is)
