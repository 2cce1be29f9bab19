import PyProof.Rows.All
import Wide.All
import OpenK.AllK
import Wide.FinOn
import Lean
import PyProof.EqAt
import PyProof.EqKinds
import PyProof.TupleCall
import PyProof.Rows.CatFin
import PyProof.StrLawsIn
import KE.IntTextLaws
import KE.IntTextText
import PyProof.SumAny
import PyProof.SeqI3
import PyProof.WalkInts
import PyProof.NeKinds
import KE.KDictLaws
import PyProof.DictIter
import PyProof.DictWalks
import PyProof.Rows.DictUnroll
import KE.KSortTup
import KE.KSortKey
import PySem.Challenge.RW_jumpfield_k71_shapes
set_option Elab.async false
set_option linter.all false
set_option maxRecDepth 100000
set_option maxHeartbeats 8000000
namespace L2
open PySem PySem.Spec PyProof.Rows
abbrev Key := Sum Int Str
def Lu : Key -> Value -> Bool
 | .inl k, v => Value.isInt k v
 | .inr x, v => Value.isStrOf x v
def keyH (w : World) : Key -> Int
 | .inl k => hashInt k
 | .inr x => hashStr w x
theorem BY : ∀ {k : Key} {v : Value}, Lu k v = true -> (∃ i t, k = Sum.inl i /\ v = Value.int i t) \/ (∃ x t, k = Sum.inr x /\ v = Value.str x t)
 | .inl i, v, h => by
  obtain ⟨t, e⟩ := Value.isInt_shape (k := i) (v := v) h
  exact .inl ⟨i, t, rfl, e⟩
 | .inr x, v, h => by
  obtain ⟨t, e⟩ := Value.isStrOf_shape (x := x) (v := v) h
  exact .inr ⟨x, t, rfl, e⟩
theorem Qg (i : Int) (t : Tok) : Lu (.inl i) (.int i t) = true := by simp [Lu, Value.isInt]
theorem Qf (x : Str) (t : Tok) : Lu (.inr x) (.str x t) = true := by simp [Lu, Value.isStrOf]
theorem key_ll (a b : Int) : decide ((Sum.inl a : Key) = Sum.inl b) = (a == b) := by
 by_cases e : a = b
 ·subst e; simp
 ·have h : ¬ (Sum.inl a : Key) = Sum.inl b := fun q => e (Sum.inl.inj q)
  rw [decide_eq_false h]
  exact (beq_eq_false_iff_ne.mpr e).symm
theorem key_rr (a b : Str) : decide ((Sum.inr a : Key) = Sum.inr b) = decide (a = b) := by
 by_cases e : a = b
 ·subst e; simp
 ·have h : ¬ (Sum.inr a : Key) = Sum.inr b := fun q => e (Sum.inr.inj q)
  rw [decide_eq_false h, decide_eq_false e]
theorem key_lr (a : Int) (b : Str) : decide ((Sum.inl a : Key) = Sum.inr b) = false := decide_eq_false (fun q => nomatch q)
theorem key_rl (a : Str) (b : Int) : decide ((Sum.inr a : Key) = Sum.inl b) = false := decide_eq_false (fun q => nomatch q)
def Cf (prog : Program) (w : World) : PySem.KeyKind prog w Key where
 is := Lu
 hash := keyH w
 inj := fun v a b ha hb => by
  rcases BY ha with ⟨i, t, rfl, rfl⟩ | ⟨x, t, rfl, rfl⟩
  ·rcases BY hb with ⟨j, u, rfl, e⟩ | ⟨y, u, rfl, e⟩
   ·injection e with e1 _; rw [e1]
   ·exact nomatch e
  ·rcases BY hb with ⟨j, u, rfl, e⟩ | ⟨y, u, rfl, e⟩
   ·exact nomatch e
   ·injection e with e1 _; rw [e1]
 byValue := fun k v h => by
  rcases BY h with ⟨i, t, rfl, rfl⟩ | ⟨x, t, rfl, rfl⟩ <;> rfl
 pyHash := fun hv h => by
  rcases BY hv with ⟨i, t, rfl, rfl⟩ | ⟨x, t, rfl, rfl⟩
  ·exact wpAny_pyHash_int h
  ·exact wpAny_pyHash_str h
 eqBool := fun hu hv h => by
  rcases BY hu with ⟨i, t, rfl, rfl⟩ | ⟨x, t, rfl, rfl⟩
  ·rcases BY hv with ⟨j, u, rfl, rfl⟩ | ⟨y, u, rfl, rfl⟩
   ·rw [key_ll] at h; exact wpAny_eqBool_int h
   ·rw [key_lr] at h; exact SeqAt.EqAt.int_str i t y u _ _ _ _ h
  ·rcases BY hv with ⟨j, u, rfl, rfl⟩ | ⟨y, u, rfl, rfl⟩
   ·rw [key_rl] at h; exact SeqAt.EqAt.str_int x t j u _ _ _ _ h
   ·rw [key_rr] at h; exact wpAny_eqBool_str h
 «strs» := fun k x t v h => by
  rcases BY h with ⟨i, u, rfl, e⟩ | ⟨y, u, rfl, e⟩
  ·exact nomatch e
  ·injection e with e1 _
   subst e1
   cases v <;> rfl
theorem Nv (prog : Program) (w : World) (i : Int) (t : Tok) : (Cf prog w).is (.inl i) (.int i t) = true := Qg i t
theorem Nt (prog : Program) (w : World) (x : Str) (t : Tok) : (Cf prog w).is (.inr x) (.str x t) = true := Qf x t
end L2
namespace L2
open PySem PySem.Spec PyProof.Rows
inductive V where
 | non | bl (b : Bool) | int (i : Int) | str (x : Str) | byt (b : Array UInt8) | flt (b : UInt64) | ref (a : Addr) | ty (n : String)
 deriving DecidableEq
def Bb : V -> Value -> Prop
 | .non, u => u = Value.none
 | .bl b, u => u = Value.bool b
 | .int i, u => ∃ t, u = Value.int i t
 | .str x, u => ∃ t, u = Value.str x t
 | .byt b, u => ∃ t, u = Value.bytes b t
 | .flt b, u => ∃ t, u = Value.float b t
 | .ref a, u => u = Value.ref a
 | .ty n, u => u = Value.type n
abbrev Ba : List V -> List Value -> Prop := Paired Bb
theorem Ba.length {xs : List V} {us : List Value} (r : Ba xs us) : xs.length = us.length := Paired.length r
theorem Ba.get : ∀ {xs : List V} {us : List Value} {i : Nat} {x : V}, Ba xs us -> xs[i]? = some x -> ∃ u, us[i]? = some u /\ Bb x u
 | _, _, _, _, .nil, e => by simp at e
 | _, _, 0, _, .cons r _, e => by simp at e; subst e; exact ⟨_, rfl, r⟩
 | _, _, i + 1, x, .cons _ t, e => by
  obtain ⟨u, h1, h2⟩ := Ba.get (i := i) (x := x) t (by simpa using e)
  exact ⟨u, by simpa using h1, h2⟩
theorem Ba.set {x : V} {u : Value} (r : Bb x u) : ∀ {xs : List V} {us : List Value} (i : Nat), Ba xs us -> Ba (xs.set i x) (us.set i u)
 | _, _, _, .nil => .nil
 | _, _, 0, .cons _ t => .cons r t
 | _, _, i + 1, .cons q t => .cons q (Ba.set r i t)
theorem Ba.append : ∀ {xs ys : List V} {us ws : List Value}, Ba xs us -> Ba ys ws -> Ba (xs ++ ys) (us ++ ws)
 | _, _, _, _, .nil, s => s
 | _, _, _, _, .cons r t, s => .cons r (Ba.append t s)
theorem Ba.none_of : ∀ {xs : List V} {us : List Value} {i : Nat}, Ba xs us -> xs[i]? = none -> us[i]? = none := fun {xs us i} r e => by
 have h1 := r.length
 have h2 : xs.length <= i := List.getElem?_eq_none_iff.mp e
 exact List.getElem?_eq_none_iff.mpr (by lia)
def FT : Option V -> Option Value -> Prop
 | some v, some u => Bb v u
 | none, none => True
 | _, _ => False
def KV {κ : Type} : List (κ × V) -> List (κ × Value) -> Prop := Paired fun (p : κ × V) (q : κ × Value) => p.1 = q.1 /\ Bb p.2 q.2
def kV : Key -> V
 | .inl i => .int i
 | .inr x => .str x
inductive HO where
 /-- a list -/
 | lst (xs : List V)
 /-- a tuple (never changes) -/
 | tup (xs : List V)
 /-- a dict whose keys are ints and texts; one whose keys are tuples of ints and texts (the empty one is both) -/
 | dK (kvs : List (Key × V)) | dT (kvs : List (List Key × V))
 /-- a set of ints: its members, its size -/
 | set (S : Int -> Bool) (n : Nat)
 /-- an instance of the class at C, its dict at dx, its attributes -/
 | ins (C dx : Addr) (fs : List (Str × V))
 /-- the dict of the instance at x -/
 | own (x : Addr)
 /-- the dict of an exception -/
 | xd (fs : List (Str × V))
 /-- a bound method, f of x -/
 | met (f x : Addr)
 /-- a range object lo, lo + 1, .. below hi -/
 | rng (lo hi : Int)
 /-- a thing that is known to the object (the script; a dict while a loop walks it): read, never written while it is so -/
 | frz (o : Obj) (u : HO)
 /-- a code object's table -/
 | tbl (ps : Array Value)
 /-- any other thing, by what is true of its one object (a def of one's own: SetO a S n := HO.ext fun h => ..) -/
 | ext (φ : Heap -> Prop)
abbrev Hp := Addr -> Option HO
def upd (H : Hp) (a : Addr) (o : HO) : Hp := fun b => if b = a then some o else H b
theorem Ai {H : Hp} {a : Addr} {o : HO} : upd H a o a = some o := by unfold upd; rw [if_pos rfl]
theorem Av {H : Hp} {a b : Addr} {o : HO} (h : b ≠ a) : upd H a o b = H b := by unfold upd; rw [if_neg h]
theorem Bn {H : Hp} {a b : Addr} {o u : HO} (h : H a = some o) (h' : H b = some u) (d : o ≠ u) : a ≠ b := by
 intro e; subst e; rw [h] at h'; exact d (Option.some.inj h')
theorem At {H : Hp} {a b : Addr} {o : HO} (h : H a = some o) (h' : H b = none) : a ≠ b := by
 intro e; subst e; rw [h] at h'; cases h'
section
variable (P : Program) (w : World)
def Bm (H : Hp) (h : Heap) (a : Addr) : HO -> Prop
 | .lst xs => xs.length <= sizeLine /\ ∃ (its : List Value) (n : Nat), Ba xs its /\ h.get? a = some { cls := .type "list", data := .seq its.toArray n }
 | .tup xs => xs.length <= sizeLine /\ ∃ its : List Value, Ba xs its /\ IsTup h a its.toArray
 | .dK kvs => kvs.length <= sizeLine /\ (a == sysModules) = false /\ ∃ vs, KV kvs vs /\ h.DictOf (Cf P w) a vs
 | .dT kvs => kvs.length <= sizeLine /\ (a == sysModules) = false /\ ∃ xs : List (List Key × Addr × Value),
   Paired (fun (p : List Key × V) (q : List Key × Addr × Value) => p.1 = q.1 /\ H q.2.1 = some (.tup (p.1.map kV)) /\ Bb p.2 q.2.2) kvs xs /\
   ∃ o es ep, h.get? a = some o /\ o.ExactDict /\ o.data = .dict es ep /\ es.toList = xs.map (entryOfKey (tupleKind (Cf P w))) /\ (xs.map (·.1)).Nodup
 | .set S n => h.SetOf (intKind P w) a S n
 | .ins C dx fs => H dx = some (.own a) /\ fs.length <= 1000 /\ dx ≠ a /\ h.get? a = some (PySem.W.instObj C dx) /\
   ∃ mA, h.Ns1 dx mA /\ (∀ f, FT (fs.lookup f) (mA f)) /\ PySem.Within mA (fs.map (·.1))
 | .own _ => ∃ o, h.get? a = some o
 | .xd fs => ∃ mA, h.Ns1 a mA /\ ∀ f, FT (fs.lookup f) (mA f)
 | .rng lo hi => ∃ t u v, h.get? a = some { cls := .type "range", data := .fields #[.int lo t, .int hi u, .int 1 v] }
 | .frz o u => h.get? a = some o /\ Bm H h a u
 | .tbl ps => h.get? a = some { cls := .none, data := .fields ps }
 | .met f x => h.get? a = some (PySem.W.methodObj (.ref f) (.ref x))
 | .ext φ => φ h /\ (∃ o, h.get? a = some o) /\ ∀ h1 h2 : Heap, φ h1 -> (∀ o, h1.get? a = some o -> h2.get? a = some o) -> φ h2
def HOk (H : Hp) (h : Heap) : Prop := ∀ a o, H a = some o -> Bm P w H h a o
end
section
variable {P : Program} {w : World} {H H' : Hp} {h h' : Heap} {a : Addr} {o : HO}
theorem Bm.lt (x : Bm P w H h a o) : a < h.objs.size := by
 cases o with
 | lst xs => obtain ⟨_, _, _, _, e⟩ := x; exact Heap.lt_size e
 | tup xs => obtain ⟨_, _, _, p⟩ := x; exact p.lt
 | dK kvs => obtain ⟨_, _, _, _, o, _, _, e, _⟩ := x; exact Heap.lt_size e
 | dT kvs => obtain ⟨_, _, _, _, o, _, _, e, _⟩ := x; exact Heap.lt_size e
 | set S n => obtain ⟨o, _, _, _, e, _⟩ := x; exact Heap.lt_size e
 | ins C dx fs => obtain ⟨_, _, _, e, _⟩ := x; exact Heap.lt_size e
 | own y => obtain ⟨_, e⟩ := x; exact Heap.lt_size e
 | xd fs => obtain ⟨_, ⟨_, _, _, e, _⟩, _⟩ := x; exact Heap.lt_size e
 | rng lo hi => obtain ⟨_, _, _, e⟩ := x; exact Heap.lt_size e
 | frz ob u => obtain ⟨e, _⟩ := x; exact Heap.lt_size e
 | tbl ps => exact Heap.lt_size (show h.get? a = some _ from x)
 | met f y => exact Heap.lt_size (show h.get? a = some _ from x)
 | ext φ => obtain ⟨_, ⟨_, e⟩, _⟩ := x; exact Heap.lt_size e
theorem Paired.mapP {α β : Type} {F G : α -> β -> Prop} : ∀ {l₁ : List α} {l₂ : List β}, Paired F l₁ l₂ -> (∀ a b, F a b -> G a b) -> Paired G l₁ l₂
 | _, _, .nil, _ => .nil
 | _, _, .cons r t, f => .cons (f _ _ r) (Paired.mapP t f)
theorem Paired.imp' {α β : Type} {F G : α -> β -> Prop} (f : ∀ a b, F a b -> G a b) {l₁ : List α} {l₂ : List β} (r : Paired F l₁ l₂) : Paired G l₁ l₂ := Paired.mapP r f
theorem Bm.stay (x : Bm P w H h a o) (k : ∀ b u, (b = a \/ H b = some (.own a)) -> h.get? b = some u -> h'.get? b = some u)
  (ho : ∀ b, H b = some (.own a) -> H' b = some (.own a)) (ht : ∀ b xs, H b = some (.tup xs) -> H' b = some (.tup xs)) : Bm P w H' h' a o := by
 induction o with
 | lst xs => obtain ⟨z, its, n, r, e⟩ := x; exact ⟨z, its, n, r, k _ _ (.inl rfl) e⟩
 | tup xs => obtain ⟨z, its, r, ob, e, c⟩ := x; exact ⟨z, its, r, ob, k _ _ (.inl rfl) e, c⟩
 | dK kvs => obtain ⟨z, y, vs, r, ob, es, ep, e, c⟩ := x; exact ⟨z, y, vs, r, ob, es, ep, k _ _ (.inl rfl) e, c⟩
 | dT kvs =>
  obtain ⟨z, y, xs, r, ob, es, ep, e, c⟩ := x
  exact ⟨z, y, xs, Paired.mapP r fun p q z => ⟨z.1, ht _ _ z.2.1, z.2.2⟩, ob, es, ep, k _ _ (.inl rfl) e, c⟩
 | set S n => obtain ⟨ob, es, ep, t, e, c⟩ := x; exact ⟨ob, es, ep, t, k _ _ (.inl rfl) e, c⟩
 | ins C dx fs =>
  obtain ⟨d, z, ne, e, mA, ⟨od, es, ep, e2, c⟩, r⟩ := x
  exact ⟨ho _ d, z, ne, k _ _ (.inl rfl) e, mA, ⟨od, es, ep, k _ _ (.inr d) e2, c⟩, r⟩
 | own y => obtain ⟨ob, e⟩ := x; exact ⟨ob, k _ _ (.inl rfl) e⟩
 | xd fs => obtain ⟨mA, ⟨od, es, ep, e, c⟩, r⟩ := x; exact ⟨mA, ⟨od, es, ep, k _ _ (.inl rfl) e, c⟩, r⟩
 | rng lo hi => obtain ⟨t, u, v, e⟩ := x; exact ⟨t, u, v, k _ _ (.inl rfl) e⟩
 | frz ob u ih => obtain ⟨e, q⟩ := x; exact ⟨k _ _ (.inl rfl) e, ih q⟩
 | tbl ps =>
  have e : h.get? a = some { cls := .none, data := .fields ps } := x
  show h'.get? a = some { cls := .none, data := .fields ps }
  exact k a _ (.inl rfl) e
 | met f y =>
  have e : h.get? a = some (PySem.W.methodObj (.ref f) (.ref y)) := x
  show h'.get? a = some (PySem.W.methodObj (.ref f) (.ref y))
  exact k a _ (.inl rfl) e
 | ext φ => obtain ⟨p, ⟨o, e⟩, st⟩ := x; exact ⟨st _ _ p fun o q => k _ _ (.inl rfl) q, ⟨o, k _ _ (.inl rfl) e⟩, st⟩
theorem HOk.lt (x : HOk P w H h) (e : H a = some o) : a < h.objs.size := (x a o e).lt
theorem HOk.fresh (x : HOk P w H h) (e : h.objs.size <= a) : H a = none := by
 cases q : H a with
 | none => rfl
 | some u => exact absurd (Nat.lt_of_lt_of_le (x.lt q) e) (Nat.lt_irrefl _)
theorem HOk.kept (x : HOk P w H h) (k : ∀ b u, h.get? b = some u -> h'.get? b = some u) : HOk P w H h' := fun a o e =>
 (x a o e).stay (fun b u _ q => k b u q) (fun _ q => q) fun _ _ q => q
theorem HOk.laid (x : HOk P w H h) (k : ∀ b u, h.get? b = some u -> h'.get? b = some u) (hp : h.objs.size <= a) (new : Bm P w (upd H a o) h' a o) : HOk P w (upd H a o) h' := fun b u e => by
 have hn := x.fresh hp
 by_cases hb : b = a
 ·subst hb; rw [Ai] at e; cases e; exact new
 ·rw [Av hb] at e
  exact (x b u e).stay (fun c v _ q => k c v q) (fun c q => by rw [Av (At q hn)]; exact q) fun c xs q => by rw [Av (At q hn)]; exact q
end
def Rd (H : Hp) (a : Addr) (u : HO) : Prop := H a = some u \/ ∃ o, H a = some (.frz o u)
theorem Rd.ok {P : Program} {w : World} {H : Hp} {h : Heap} {a : Addr} {u : HO} (r : Rd H a u) (x : HOk P w H h) : Bm P w H h a u := by
 rcases r with r | ⟨o, r⟩
 ·exact x a u r
 ·obtain ⟨_, q⟩ := x a _ r
  exact q
def Mut : Option HO -> Prop
 | some (.lst _) => True
 | some (.dK _) => True
 | some (.dT _) => True
 | some (.set _ _) => True
 | some (.ins _ _ _) => True
 | some (.ext _) => True
 | _ => False
section
variable {P : Program} {w : World} {H : Hp} {h h' : Heap} {x e : Addr} {o' : HO}
theorem HOk.write (ok : HOk P w H h) (mu : Mut (H x)) (he : e = x \/ H e = some (.own x)) (k : ∀ b u, b ≠ e -> h.get? b = some u -> h'.get? b = some u) (heo : ∃ u, h'.get? e = some u)
  (new : Bm P w (upd H x o') h' x o') : HOk P w (upd H x o') h' := fun b u q => by
 have nown : ∀ c y, H c = some (.own y) -> c ≠ x := fun c y r z => by subst z; rw [r] at mu; exact mu
 have ntup : ∀ c xs, H c = some (.tup xs) -> c ≠ x := fun c xs r z => by subst z; rw [r] at mu; exact mu
 by_cases hb : b = x
 ·subst hb; rw [Ai] at q; cases q; exact new
 ·rw [Av hb] at q
  by_cases hbe : b = e
  ·have q' : H b = some (.own x) := by
    rcases he with z | z
    ·exact absurd (hbe.trans z) hb
    ·rw [hbe]; exact z
   rw [q] at q'; cases q'
   obtain ⟨v, hv⟩ := heo
   exact ⟨v, by rw [hbe]; exact hv⟩
  ·refine (ok b u q).stay (fun c v hc r => k c v ?_ r) (fun c r => by rw [Av (nown c b r)]; exact r) fun c xs r => by rw [Av (ntup c xs r)]; exact r
   rcases hc with rfl | hc
   ·exact hbe
   ·rintro rfl
    rcases he with z | z
    ·exact nown c b hc z
    ·rw [hc] at z; cases z; exact hb rfl
end
structure Un (fs ex : List Addr) (H H' : Hp) (h h' : Heap) : Prop where
 keep : ∀ b o, h.get? b = some o -> H b = none -> b ∉ fs -> b ∉ ex -> h'.get? b = some o
 slot : ∀ b o, h.get? b = some o -> H b = none -> b ∈ fs -> b ∉ ex -> ∃ sl, h'.get? b = some { o with slots := sl }
 free : ∀ b o, h.get? b = some o -> H b = none -> b ∉ ex -> H' b = none
 there : ∀ b o, h.get? b = some o -> b ∉ ex -> ∃ o', h'.get? b = some o'
 tups : ∀ b xs, H b = some (.tup xs) -> H' b = some (.tup xs)
 frzs : ∀ b o u, H b = some (.frz o u) -> H' b = some (.frz o u)
 tbls : ∀ b ps, H b = some (.tbl ps) -> ∃ more, H' b = some (.tbl (ps ++ more))
section
variable {fs fs' ex ex' : List Addr} {H H1 H2 : Hp} {h h1 h2 h' : Heap} {a x e : Addr} {o : HO}
theorem Un.any (u : Un fs ex H H1 h h1) {b : Addr} {ob : Obj} (q : h.get? b = some ob) (n : H b = none) (hx : b ∉ ex) : ∃ sl, h1.get? b = some { ob with slots := sl } := by
 by_cases hb : b ∈ fs
 ·exact u.slot b ob q n hb hx
 ·exact ⟨ob.slots, u.keep b ob q n hb hx⟩
theorem Un.kept (k : ∀ b u, h.get? b = some u -> h'.get? b = some u) : Un fs ex H H h h' :=
 ⟨fun b ob q _ _ _ => k b ob q, fun b ob q _ _ _ => ⟨ob.slots, k b ob q⟩, fun _ _ _ n _ => n, fun b ob q _ => ⟨ob, k b ob q⟩, fun _ _ q => q, fun _ _ _ q => q, fun _ ps q => ⟨#[], by rw [q]; simp⟩⟩
theorem Un.refl : Un fs ex H H h h := Un.kept fun _ _ q => q
theorem Un.laid (k : ∀ b u, h.get? b = some u -> h'.get? b = some u) (hp : h.objs.size <= a) (hn : H a = none) : Un fs ex H (upd H a o) h h' where
 keep := fun b u q _ _ _ => k b u q
 slot := fun b u q _ _ _ => ⟨u.slots, k b u q⟩
 free := fun b u q n _ => by rw [Av (Nat.ne_of_lt (Nat.lt_of_lt_of_le (Heap.lt_size q) hp))]; exact n
 there := fun b u q _ => ⟨u, k b u q⟩
 tups := fun b xs q => by rw [Av (At q hn)]; exact q
 frzs := fun b u xs q => by rw [Av (At q hn)]; exact q
 tbls := fun b ps q => ⟨#[], by rw [Av (At q hn), q]; simp⟩
theorem Un.write (mu : Mut (H x)) (he : e = x \/ H e = some (.own x)) (k : ∀ b u, b ≠ e -> h.get? b = some u -> h'.get? b = some u) (heo : ∃ u, h'.get? e = some u) : Un fs ex H (upd H x o) h h' := by
 have hx : ∀ b, H b = none -> b ≠ x := fun b n z => by subst z; rw [n] at mu; exact mu
 have hb : ∀ b, H b = none -> b ≠ e := fun b n z => by
  subst z
  rcases he with r | r
  ·exact hx b n r
  ·rw [n] at r; cases r
 have hm : ∀ b u, H b = some u -> ¬ Mut (some u) -> b ≠ x := fun b u q nm z => by subst z; rw [q] at mu; exact nm mu
 refine ⟨fun b u q n _ _ => k b u (hb b n) q, fun b u q n _ _ => ⟨u.slots, k b u (hb b n) q⟩, fun b u q n _ => by rw [Av (hx b n)]; exact n, fun b u q _ => ?_,
  fun b xs q => by rw [Av (hm b _ q fun z => z)]; exact q, fun b u xs q => by rw [Av (hm b _ q fun z => z)]; exact q, fun b ps q => ⟨#[], by rw [Av (hm b _ q fun z => z), q]; simp⟩⟩
 by_cases hbe : b = e
 ·subst hbe; exact heo
 ·exact ⟨u, k b u hbe q⟩
end
def trk (h : Heap) (H : Hp) : List Addr := (List.range h.objs.size).filter fun a => (H a).isSome
def Mu (h : Heap) (H : Hp) : Heap := PySem.W.hideAll h (trk h H)
theorem Qk (h : Heap) (H : Hp) : (Mu h H).objs.size = h.objs.size := PySem.W.hideAll_size _ _
theorem RO {h : Heap} {H : Hp} {b : Addr} {o : Obj} (e : h.get? b = some o) (n : H b = none) : (Mu h H).get? b = some o :=
 PySem.W.hideAll_get _ e fun hm => by
  have q : (H b).isSome = true := (List.mem_filter.mp hm).2
  rw [n] at q; simp at q
theorem of_hidT {h : Heap} {H : Hp} {b : Addr} {o : Obj} (e : (Mu h H).get? b = some o) : h.get? b = some o /\ H b = none := by
 have e' : h.get? b = some o := PySem.W.of_hideAll (trk h H) e
 refine ⟨e', ?_⟩
 cases q : H b with
 | none => rfl
 | some x =>
  have hm : b ∈ trk h H := List.mem_filter.mpr ⟨List.mem_range.mpr (Heap.lt_size e'), by simp [q]⟩
  have z : (Mu h H).get? b = none := PySem.W.hideAll_none (trk h H) hm
  rw [z] at e; cases e
end L2
namespace L2
open PySem PySem.Spec PyProof.Rows
structure Mod (K : PySem.W.Frag) (mg : Str -> Option Value) (base : Heap) : Prop where
 kin : K.In base
 glob : base.Ns mainGlobals mg
 blt : ∃ mb, base.Ns builtinsNs mb /\ ∀ x : Str, x ≠ "__name__" -> mb x = bootBuiltins x
 nolimit : base.NoLimit
/-- the context: a def's body (or a comprehension's block) running. base: fixed through the whole law; s₀, H₀: the entry; outer: the frames whose slots others may change (a def's callers); stack: all frames that run;
 ex: iterators that were made ahead of the entry and are walked here (a comprehension's); fn: the names whose cells were made at the entry (a def: all; a comprehension's block: its own); calm: not within an except suite; pn: pins that every state bears; xe: what is wanted of an exception that leaves the code -/
structure Cx where
 prog : Program
 w : World
 K : PySem.W.Frag
 mg : Str -> Option Value
 base : Heap
 A : Around
 N : List Str
 s₀ : Shared
 H₀ : Hp
 env : Env
 outer : List Env
 stack : List Env
 ex : List Addr
 fn : Str -> Bool
 calm : Bool
 pn : List (Addr × Obj)
 xe : Value -> Shared -> Prop
def frs (l : List Env) : List Addr := l.filterMap (·.frame)
abbrev Cx.fs (X : Cx) : List Addr := frs X.outer
def Vis (sc : Scope) (x : Str) : Prop := sc.names.lookup x = some .local \/ sc.names.lookup x = some .cell \/ sc.names.lookup x = some .free
def Loc (sc : Scope) (x : Str) : Prop := sc.names.lookup x = some .local \/ sc.names.lookup x = some .cell
def Look (env : Env) (h : Heap) (m : Str -> Option Value) (x : Str) (u : Value) : Prop :=
 (env.kindOf x = some .local /\ m x = some u) \/ ((env.kindOf x = some .cell \/ env.kindOf x = some .free) /\ ∃ c, env.cells.lookup x = some c /\ h.IsCell c (some u))
structure Cx.Ok (X : Cx) : Prop where
 mod : Mod X.K X.mg X.base
 kind : X.env.scope.kind = .function
 glob : X.env.globals = mainGlobals
 blt : X.env.builtins = builtinsNs
 above : X.s₀.heap.objs.size <= X.env.locals
 inj : ∀ x y c, X.env.cells.lookup x = some c -> X.env.cells.lookup y = some c -> x = y
 has : ∀ x, (X.env.kindOf x = some .cell \/ X.env.kindOf x = some .free) -> ∃ c, X.env.cells.lookup x = some c
 cab : ∀ x c, X.fn x = true -> X.env.cells.lookup x = some c -> X.s₀.heap.objs.size <= c
 hd : X.calm = true -> X.A.handled = none
 frames : X.A.frames = some X.stack
 stk : X.stack = X.outer \/ (X.stack = X.env :: X.outer /\ X.env.frame = some X.env.locals)
 exf : ∀ b ∈ X.ex, b ≠ X.env.locals /\ ∀ x c, X.env.cells.lookup x = some c -> c ≠ b
 bs : ∀ b o, X.base.get? b = some o -> X.s₀.heap.get? b = some o /\ X.H₀ b = none
 bsz : X.base.objs.size <= X.s₀.heap.objs.size
 noex : ∀ b o, X.base.get? b = some o -> b ∉ X.ex
 exfs : ∀ b ∈ X.ex, b ∉ X.fs
 funs : X.s₀.heap.FunFrames X.base X.outer
 frf : ∀ b ∈ X.fs, X.H₀ b = none
structure Inv (X : Cx) (pins : List (Addr × Obj)) (σ : List (Option V)) (H : Hp) (s : Shared) : Prop where
 ok : X.Ok
 os : s.os = X.s₀.os
 bare : AllBare s.gens
 base : Un X.fs X.ex X.H₀ H X.s₀.heap s.heap
 loc : ∃ m, s.heap.Ns X.env.locals m /\ ∀ (i : Nat) (x : Str) (v : V), X.N[i]? = some x -> σ[i]? = some (some v) -> Vis X.env.scope x -> ∃ u, Bb v u /\ Look X.env s.heap m x u
 cell : ∀ x c, X.env.cells.lookup x = some c -> ∃ v, s.heap.IsCell c v
 free : H X.env.locals = none
 freeC : ∀ x c, X.env.cells.lookup x = some c -> H c = none
 pin : ∀ p ∈ X.pn ++ pins, s.heap.get? p.1 = some p.2 /\ H p.1 = none /\ p.1 ≠ X.env.locals /\ p.1 ∉ X.fs /\ ∀ v, p.2.data ≠ .cell v
 hok : HOk X.prog X.w H s.heap
 len : σ.length = X.N.length
section
variable {X : Cx} {pins : List (Addr × Obj)} {σ : List (Option V)} {H H' : Hp} {s : Shared} {h' : Heap}
theorem Cx.Ok.nofr (ok : X.Ok) {b : Addr} {o : Obj} (e : X.base.get? b = some o) : b ∉ X.fs := fun hb => by
 have := (ok.funs.mem hb).1
 rw [e] at this; cases this
theorem Inv.bs (I : Inv X pins σ H s) : ∀ b o, X.base.get? b = some o -> s.heap.get? b = some o /\ H b = none := fun b o e =>
 ⟨I.base.keep b o (I.ok.bs b o e).1 (I.ok.bs b o e).2 (I.ok.nofr e) (I.ok.noex b o e), I.base.free b o (I.ok.bs b o e).1 (I.ok.bs b o e).2 (I.ok.noex b o e)⟩
theorem Inv.bk (I : Inv X pins σ H s) : ∀ b o, X.base.get? b = some o -> s.heap.get? b = some o := fun b o e => (I.bs b o e).1
theorem Inv.mod (I : Inv X pins σ H s) : Mod X.K X.mg X.base := I.ok.mod
theorem Inv.kIn (I : Inv X pins σ H s) : X.K.In s.heap := I.ok.mod.kin.keeps I.bk
theorem Inv.lt (I : Inv X pins σ H s) : X.env.locals < s.heap.objs.size := let ⟨_, hn, _⟩ := I.loc; hn.lt
theorem Inv.sz (I : Inv X pins σ H s) : X.s₀.heap.objs.size <= s.heap.objs.size := Nat.le_trans I.ok.above (Nat.le_of_lt I.lt)
theorem Inv.nofs (I : Inv X pins σ H s) {a : Addr} (h : s.heap.objs.size <= a) : a ∉ X.fs := fun hb => by
 obtain ⟨_, o, ho, _⟩ := I.ok.funs.mem hb
 exact absurd (Nat.lt_of_lt_of_le (Heap.lt_size ho) (Nat.le_trans I.sz h)) (Nat.lt_irrefl _)
theorem Inv.cne (I : Inv X pins σ H s) : ∀ x c, X.env.cells.lookup x = some c -> c ≠ X.env.locals := fun x c e z => by
 obtain ⟨v, o, ho, hd⟩ := I.cell x c e
 obtain ⟨m, ⟨o', es, ep, ho', hd', _⟩, _⟩ := I.loc
 rw [z, ho'] at ho; cases ho; rw [hd'] at hd; cases hd
theorem Inv.funs (I : Inv X pins σ H s) : s.heap.FunFrames X.base X.outer := by
 have all : ∀ (l : List Env), (∀ b ∈ frs l, b ∈ X.fs) -> X.s₀.heap.FunFrames X.base l -> s.heap.FunFrames X.base l := by
  intro l
  induction l with
  | nil => intro _ _; trivial
  | cons env r ih =>
   intro hs hl
   obtain ⟨hk, ⟨L, o, hf, hn, ho, hd⟩, hr⟩ := hl
   have hL : L ∈ X.fs := hs L (by unfold frs; rw [List.filterMap_cons, hf]; exact List.mem_cons_self)
   obtain ⟨sl, e⟩ := I.base.slot L o ho (I.ok.frf L hL) hL fun z => I.ok.exfs L z hL
   exact ⟨hk, ⟨L, _, hf, hn, e, hd⟩, ih (fun b hb => hs b (by unfold frs; rw [List.filterMap_cons, hf]; exact List.mem_cons_of_mem _ hb)) hr⟩
 exact all X.outer (fun _ hb => hb) I.ok.funs
theorem Inv.stack (I : Inv X pins σ H s) : s.heap.FunFrames X.base X.stack := by
 rcases I.ok.stk with e | ⟨e, hf⟩
 ·rw [e]; exact I.funs
 ·rw [e]
  obtain ⟨m, hn, _⟩ := I.loc
  refine .cons (by rw [I.ok.kind]; decide) hf hn ?_ I.funs
  exact Heap.get?_none_of_le (Nat.le_trans I.ok.bsz I.ok.above)
theorem Inv.stkSub (I : Inv X pins σ H s) : ∀ b ∈ frs X.stack, b ∈ X.env.locals :: X.fs := fun b hb => by
 rcases I.ok.stk with e | ⟨e, hf⟩
 ·rw [e] at hb; exact List.mem_cons_of_mem _ hb
 ·rw [e] at hb
  unfold frs at hb
  rw [List.filterMap_cons, hf] at hb
  exact hb
theorem Inv.stkFree (I : Inv X pins σ H s) : ∀ b ∈ frs X.stack, H b = none := fun b hb => by
 rcases List.mem_cons.mp (I.stkSub b hb) with e | hb
 ·rw [e]; exact I.free
 ·obtain ⟨_, o, ho, _⟩ := I.ok.funs.mem hb
  exact I.base.free b o ho (I.ok.frf b hb) fun z => I.ok.exfs b z hb
theorem Inv.step {g' : Array GenState} {t' : Nat} {d' : Drawn} {ch : List Addr} (I : Inv X pins σ H s)
  (hch : ∀ b ∈ ch, (b ∈ X.ex \/ X.s₀.heap.objs.size <= b) /\ b ≠ X.env.locals /\ (∀ x c, X.env.cells.lookup x = some c -> c ≠ b) /\ ∀ p ∈ X.pn ++ pins, p.1 ≠ b)
  (keep : ∀ b o, b ≠ X.env.locals -> b ∉ X.fs -> b ∉ ch -> s.heap.get? b = some o -> H b = none -> h'.get? b = some o)
  (slot : ∀ b o, b ≠ X.env.locals -> b ∈ X.fs -> b ∉ ch -> s.heap.get? b = some o -> H b = none -> ∃ sl, h'.get? b = some { o with slots := sl }) (free : ∀ b o, b ∉ ch -> s.heap.get? b = some o -> H b = none -> H' b = none)
  (there : ∀ b o, b ∉ ch -> s.heap.get? b = some o -> ∃ o', h'.get? b = some o')
  (tups : ∀ b xs, H b = some (.tup xs) -> H' b = some (.tup xs)) (frzs : ∀ b o u, H b = some (.frz o u) -> H' b = some (.frz o u)) (tbls : ∀ b ps, H b = some (.tbl ps) -> ∃ more, H' b = some (.tbl (ps ++ more)))
  (ns : ∀ m, s.heap.Ns X.env.locals m -> h'.Ns X.env.locals m) (hok : HOk X.prog X.w H' h') (hg : AllBare g') :
  Inv X pins σ H' { s with heap := h', gens := g', drawn := d', toks := t' } := by
 have neL : ∀ b o, X.s₀.heap.get? b = some o -> b ≠ X.env.locals := fun b o e => Nat.ne_of_lt (Nat.lt_of_lt_of_le (Heap.lt_size e) I.ok.above)
 have neC : ∀ b o, X.s₀.heap.get? b = some o -> b ∉ X.ex -> b ∉ ch := fun b o e hx hb => by
  rcases (hch b hb).1 with z | z
  ·exact hx z
  ·exact absurd (Nat.lt_of_lt_of_le (Heap.lt_size e) z) (Nat.lt_irrefl _)
 have cellK : ∀ x c, X.env.cells.lookup x = some c -> ∀ v, s.heap.IsCell c v -> h'.IsCell c v := fun x c e v ⟨o, ho, hd⟩ => by
  have nch : c ∉ ch := fun z => (hch c z).2.2.1 x c e rfl
  by_cases hc : c ∈ X.fs
  ·obtain ⟨sl, q⟩ := slot c o (I.cne x c e) hc nch ho (I.freeC x c e)
   exact ⟨_, q, hd⟩
  ·exact ⟨o, keep c o (I.cne x c e) hc nch ho (I.freeC x c e), hd⟩
 refine ⟨I.ok, I.os, hg, ⟨fun b o e n hb hx => ?_, fun b o e n hb hx => ?_, fun b o e n hx => ?_, fun b o e hx => ?_, fun b xs e => tups b xs (I.base.tups b xs e), fun b o xs e => frzs b o xs (I.base.frzs b o xs e), fun b ps e => ?_⟩, ?_, fun x c e => ?_, ?_, fun x c e => ?_, fun p hp => ?_, hok, I.len⟩
 ·exact keep b o (neL b o e) hb (neC b o e hx) (I.base.keep b o e n hb hx) (I.base.free b o e n hx)
 ·obtain ⟨sl, e1⟩ := I.base.slot b o e n hb hx
  obtain ⟨sl', e2⟩ := slot b _ (neL b o e) hb (neC b o e hx) e1 (I.base.free b o e n hx)
  exact ⟨sl', e2⟩
 ·obtain ⟨o', e1⟩ := I.base.there b o e hx
  exact free b o' (neC b o e hx) e1 (I.base.free b o e n hx)
 ·obtain ⟨o', e1⟩ := I.base.there b o e hx
  exact there b o' (neC b o e hx) e1
 ·obtain ⟨m1, e1⟩ := I.base.tbls b ps e
  obtain ⟨m2, e2⟩ := tbls b _ e1
  exact ⟨m1 ++ m2, by rw [e2, Array.append_assoc]⟩
 ·obtain ⟨m, hn, hl⟩ := I.loc
  refine ⟨m, ns m hn, fun i x v e1 e2 e3 => ?_⟩
  obtain ⟨u, r, l⟩ := hl i x v e1 e2 e3
  refine ⟨u, r, ?_⟩
  rcases l with l | ⟨k, c, e, z⟩
  ·exact .inl l
  ·exact .inr ⟨k, c, e, cellK x c e _ z⟩
 ·obtain ⟨v, z⟩ := I.cell x c e
  exact ⟨v, cellK x c e v z⟩
 ·obtain ⟨m, ⟨o, _, _, ho, _⟩, _⟩ := I.loc
  exact free _ o (fun z => (hch _ z).2.1 rfl) ho I.free
 ·obtain ⟨v, o, ho, hd⟩ := I.cell x c e
  exact free c o (fun z => (hch c z).2.2.1 x c e rfl) ho (I.freeC x c e)
 ·obtain ⟨e, n, ne, nf, d⟩ := I.pin p hp
  have nch : p.1 ∉ ch := fun z => (hch p.1 z).2.2.2 p hp rfl
  exact ⟨keep p.1 p.2 ne nf nch e n, free p.1 p.2 nch e n, ne, nf, d⟩
theorem Inv.un {t' : Nat} (I : Inv X pins σ H s) (u : Un X.fs [] H H' s.heap h') (hok : HOk X.prog X.w H' h') : Inv X pins σ H' { s with heap := h', toks := t' } := by
 obtain ⟨m, ⟨o, es, ep, ho, r⟩, _⟩ := id I.loc
 obtain ⟨sl, hL⟩ := u.any ho I.free (by simp)
 exact I.step (g' := s.gens) (d' := s.drawn) (ch := []) (fun _ z => nomatch z) (fun b o _ hb _ e n => u.keep b o e n hb (by simp)) (fun b o _ hb _ e n => u.slot b o e n hb (by simp)) (fun b o _ e n => u.free b o e n (by simp)) (fun b o _ e => u.there b o e (by simp)) u.tups u.frzs u.tbls (fun m' hm => by
  obtain ⟨o', es', ep', ho', r'⟩ := hm
  rw [ho] at ho'; cases ho'
  exact ⟨_, es', ep', hL, r'⟩) hok I.bare
theorem Inv.call {g' : Array GenState} {t' : Nat} {d' : Drawn} {ch : List Addr} (I : Inv X pins σ H s) (u : Un (frs X.stack) ch H H' s.heap h') (hok : HOk X.prog X.w H' h') (hg : AllBare g')
  (hch : ∀ b ∈ ch, (b ∈ X.ex \/ X.s₀.heap.objs.size <= b) /\ b ≠ X.env.locals /\ (∀ x c, X.env.cells.lookup x = some c -> c ≠ b) /\ ∀ p ∈ X.pn ++ pins, p.1 ≠ b) :
  Inv X pins σ H' { s with heap := h', gens := g', drawn := d', toks := t' } := by
 obtain ⟨m, ⟨o, es, ep, ho, r⟩, _⟩ := id I.loc
 obtain ⟨sl, hL⟩ := u.any ho I.free fun z => (hch _ z).2.1 rfl
 exact I.step (ch := ch) hch (fun b o hL hb hc e n => u.keep b o e n (fun z => (List.mem_cons.mp (I.stkSub b z)).elim hL hb) hc) (fun b o _ _ hc e n => u.any e n hc) (fun b o hc e n => u.free b o e n hc) (fun b o hc e => u.there b o e hc) u.tups u.frzs u.tbls (fun m' hm => by
  obtain ⟨o', es', ep', ho', r'⟩ := hm
  rw [ho] at ho'; cases ho'
  exact ⟨_, es', ep', hL, r'⟩) hok hg
theorem Inv.turned {t' : Nat} {it : Addr} (I : Inv X pins σ H s) (k : ∀ b o, b ≠ it -> s.heap.get? b = some o -> h'.get? b = some o) (hn : H it = none) (hL : it ≠ X.env.locals)
  (h1 : it ∈ X.ex \/ X.s₀.heap.objs.size <= it) (h2 : ∀ x c, X.env.cells.lookup x = some c -> c ≠ it) (h3 : ∀ p ∈ X.pn ++ pins, p.1 ≠ it) : Inv X pins σ H { s with heap := h', toks := t' } := by
 have nit : ∀ b u, H b = some u -> b ≠ it := fun b u e z => by rw [z, hn] at e; cases e
 refine I.step (g' := s.gens) (d' := s.drawn) (ch := [it]) (fun b hb => ?_) (fun b o _ _ hc e _ => k b o (fun z => hc (by simp [z])) e) (fun b o _ _ hc e _ => ⟨o.slots, k b o (fun z => hc (by simp [z])) e⟩) (fun _ _ _ _ n => n)
  (fun b o hc e => ⟨o, k b o (fun z => hc (by simp [z])) e⟩) (fun _ _ e => e) (fun _ _ _ e => e) (fun b ps e => ⟨#[], by rw [e]; simp⟩) (fun m hm => ?_) (fun b u e => ?_) I.bare
 ·have e : b = it := by simpa using hb
  subst e
  exact ⟨h1, hL, h2, h3⟩
 ·obtain ⟨o, es, ep, ho, r⟩ := hm
  exact ⟨o, es, ep, k _ o (Ne.symm hL) ho, r⟩
 ·refine (I.hok b u e).stay (fun c v hc q => k c v ?_ q) (fun _ q => q) fun _ _ q => q
  rcases hc with z | z
  ·rw [z]; exact nit b u e
  ·exact nit c _ z
theorem Inv.tok (I : Inv X pins σ H s) (t : Nat) : Inv X pins σ H { s with toks := t } := I.un (h' := s.heap) (t' := t) Un.refl I.hok
theorem Inv.kept {t' : Nat} (I : Inv X pins σ H s) (k : ∀ b u, s.heap.get? b = some u -> h'.get? b = some u) : Inv X pins σ H { s with heap := h', toks := t' } := I.un (Un.kept k) (I.hok.kept k)
theorem Inv.laid {a : Addr} {o : HO} {t' : Nat} (I : Inv X pins σ H s) (k : ∀ b u, s.heap.get? b = some u -> h'.get? b = some u) (hp : s.heap.objs.size <= a) (new : Bm X.prog X.w (upd H a o) h' a o) :
  Inv X pins σ (upd H a o) { s with heap := h', toks := t' } := I.un (Un.laid k hp (I.hok.fresh hp)) (I.hok.laid k hp new)
theorem Inv.write {x e : Addr} {o : HO} {t' : Nat} (I : Inv X pins σ H s) (mu : Mut (H x)) (he : e = x \/ H e = some (.own x)) (k : ∀ b u, b ≠ e -> s.heap.get? b = some u -> h'.get? b = some u) (heo : ∃ u, h'.get? e = some u)
  (new : Bm X.prog X.w (upd H x o) h' x o) : Inv X pins σ (upd H x o) { s with heap := h', toks := t' } := I.un (Un.write mu he k heo) (I.hok.write mu he k heo new)
theorem Inv.weak {σ' : List (Option V)} (I : Inv X pins σ H s) (hl : σ'.length = σ.length) (w : ∀ (i : Nat) v, σ'[i]? = some (some v) -> σ[i]? = some (some v)) : Inv X pins σ' H s :=
 ⟨I.ok, I.os, I.bare, I.base, let ⟨m, hn, hl'⟩ := I.loc; ⟨m, hn, fun i x v e1 e2 e3 => hl' i x v e1 (w i v e2) e3⟩, I.cell, I.free, I.freeC, I.pin, I.hok, hl.trans I.len⟩
theorem Inv.pins_of {pins' : List (Addr × Obj)} (I : Inv X pins σ H s) (h : ∀ p ∈ pins', s.heap.get? p.1 = some p.2 /\ H p.1 = none /\ p.1 ≠ X.env.locals /\ p.1 ∉ X.fs /\ ∀ v, p.2.data ≠ .cell v) : Inv X pins' σ H s :=
 ⟨I.ok, I.os, I.bare, I.base, I.loc, I.cell, I.free, I.freeC, fun p hp => (List.mem_append.mp hp).elim (fun z => I.pin p (List.mem_append_left _ z)) (h p), I.hok, I.len⟩
theorem Ng {N : List Str} (hN : N.Nodup) {i j : Nat} {x : Str} (a : N[i]? = some x) (b : N[j]? = some x) : i = j := by
 obtain ⟨h1, e1⟩ := List.getElem?_eq_some_iff.mp a
 obtain ⟨h2, e2⟩ := List.getElem?_eq_some_iff.mp b
 exact (List.getElem_inj hN).mp (e1.trans e2.symm)
theorem Lm {M : Model} {A : Around} {E : Value -> Shared -> Prop} {i : Nat} {x : Str} {v : V} {u : Value} {Q : Unit -> Shared -> Prop} (I : Inv X pins σ H s) (hN : X.N.Nodup) (hi : X.N[i]? = some x) (hx : Loc X.env.scope x) (r : Bb v u)
  (h : ∀ s', Inv X pins (σ.set i (some v)) H s' -> (∃ a, Heap.SameBut a s.heap s'.heap /\ (a = X.env.locals \/ X.env.cells.lookup x = some a)) -> Q () s') (hf : X.fn x = true \/ X.env.scope.names.lookup x = some .local := by first | exact .inl rfl | exact .inr rfl | assumption) : wpAny M A (storeName X.env x u) Q E s := by
 obtain ⟨m, hn, hl⟩ := id I.loc
 have hcls : (X.env.scope.kind == .class || (X.env.scope.kind == .module && X.env.locals != X.env.globals)) = false := by rw [I.ok.kind]; rfl
 have hiσ : i < σ.length := by rw [I.len]; exact (List.getElem?_eq_some_iff.mp hi).1
 have cne := I.cne
 have tracked : ∀ {a : Addr} {h' : Heap}, (∃ o, s.heap.get? a = some o /\ H a = none) -> Heap.SameBut a s.heap h' -> HOk X.prog X.w H h' := fun {a h'} ha hs b ob e => by
  obtain ⟨_, _, hfree⟩ := ha
  refine (I.hok b ob e).stay (fun c w' hc q => (hs.2 c ?_).trans q) (fun _ q => q) fun _ _ q => q
  rintro rfl
  rcases hc with rfl | hc
  ·rw [hfree] at e; cases e
  ·rw [hfree] at hc; cases hc
 rcases hx with hk | hk
 ·refine wpAny_storeName_local hk hn (fun h' hn' hs => ?_) hcls
  obtain ⟨oL, _, _, hoL, _⟩ := id hn
  refine h _ ⟨I.ok, I.os, I.bare, ⟨fun b o e n hb hx => ?_, fun b o e n hb hx => ?_, I.base.free, fun b o e hx => ?_, I.base.tups, I.base.frzs, I.base.tbls⟩, ⟨_, hn', fun j y v' e1 e2 e3 => ?_⟩, fun y c e => ?_, I.free, I.freeC, fun p hp => ?_, tracked ⟨oL, hoL, I.free⟩ hs, by simpa using I.len⟩ ⟨_, hs, .inl rfl⟩
  ·exact (hs.2 b (Nat.ne_of_lt (Nat.lt_of_lt_of_le (Heap.lt_size e) I.ok.above))).trans (I.base.keep b o e n hb hx)
  ·obtain ⟨sl, e1⟩ := I.base.slot b o e n hb hx
   exact ⟨sl, (hs.2 b (Nat.ne_of_lt (Nat.lt_of_lt_of_le (Heap.lt_size e) I.ok.above))).trans e1⟩
  ·obtain ⟨o', e1⟩ := I.base.there b o e hx
   exact ⟨o', (hs.2 b (Nat.ne_of_lt (Nat.lt_of_lt_of_le (Heap.lt_size e) I.ok.above))).trans e1⟩
  ·by_cases hj : j = i
   ·subst hj
    rw [hi] at e1; cases e1
    rw [List.getElem?_set_self hiσ] at e2
    cases e2
    exact ⟨u, r, .inl ⟨hk, by simp⟩⟩
   ·rw [List.getElem?_set_ne (Ne.symm hj)] at e2
    obtain ⟨u', r', q⟩ := hl j y v' e1 e2 e3
    refine ⟨u', r', ?_⟩
    rcases q with ⟨k, e⟩ | ⟨k, c, e, z⟩
    ·refine .inl ⟨k, ?_⟩
     have : y ≠ x := fun e => hj (Ng hN e1 (e ▸ hi))
     simp [this, e]
    ·exact .inr ⟨k, c, e, z.sameBut hs (cne y c e)⟩
  ·obtain ⟨w', z⟩ := I.cell y c e
   exact ⟨w', z.sameBut hs (cne y c e)⟩
  ·obtain ⟨e, n, ne, nf, d⟩ := I.pin p hp
   exact ⟨(hs.2 p.1 ne).trans e, n, ne, nf, d⟩
 ·have hfn : X.fn x = true := by
   rcases hf with z | z
   ·exact z
   ·rw [z] at hk; cases hk
  obtain ⟨c, hc⟩ := I.ok.has x (.inl hk)
  obtain ⟨w', z⟩ := I.cell x c hc
  refine wpAny_storeName_cell I.ok.kind hk hc z (fun h' hc' hs => ?_)
  obtain ⟨oc, hoc, hocd⟩ := id z
  refine h { s with heap := h' } ⟨I.ok, I.os, I.bare, ⟨fun b o e n hb hx => ?_, fun b o e n hb hx => ?_, I.base.free, fun b o e hx => ?_, I.base.tups, I.base.frzs, I.base.tbls⟩, ⟨m, hn.sameBut hs (Ne.symm (cne x c hc)), fun j y v' e1 e2 e3 => ?_⟩, fun y c' e => ?_, I.free, I.freeC, fun p hp => ?_, tracked ⟨oc, hoc, I.freeC x c hc⟩ hs, by simpa using I.len⟩ ⟨c, hs, .inr hc⟩
  ·exact (hs.2 b (Nat.ne_of_lt (Nat.lt_of_lt_of_le (Heap.lt_size e) (I.ok.cab x c hfn hc)))).trans (I.base.keep b o e n hb hx)
  ·obtain ⟨sl, e1⟩ := I.base.slot b o e n hb hx
   exact ⟨sl, (hs.2 b (Nat.ne_of_lt (Nat.lt_of_lt_of_le (Heap.lt_size e) (I.ok.cab x c hfn hc)))).trans e1⟩
  ·obtain ⟨o', e1⟩ := I.base.there b o e hx
   exact ⟨o', (hs.2 b (Nat.ne_of_lt (Nat.lt_of_lt_of_le (Heap.lt_size e) (I.ok.cab x c hfn hc)))).trans e1⟩
  ·by_cases hj : j = i
   ·subst hj
    rw [hi] at e1; cases e1
    rw [List.getElem?_set_self hiσ] at e2
    cases e2
    exact ⟨u, r, .inr ⟨.inl hk, c, hc, hc'⟩⟩
   ·rw [List.getElem?_set_ne (Ne.symm hj)] at e2
    obtain ⟨u', r', q⟩ := hl j y v' e1 e2 e3
    refine ⟨u', r', ?_⟩
    rcases q with q | ⟨k, c', e, z'⟩
    ·exact .inl q
    ·refine .inr ⟨k, c', e, z'.sameBut hs ?_⟩
     rintro rfl
     exact hj (Ng hN e1 (I.ok.inj _ _ _ e hc ▸ hi))
  ·by_cases hcc : c' = c
   ·subst hcc; exact ⟨_, hc'⟩
   ·obtain ⟨w2, z2⟩ := I.cell y c' e
    exact ⟨w2, z2.sameBut hs hcc⟩
  ·obtain ⟨e, n, ne, nf, d⟩ := I.pin p hp
   refine ⟨(hs.2 p.1 ?_).trans e, n, ne, nf, d⟩
   intro q
   rw [q, hoc] at e
   have q' : oc = p.2 := Option.some.inj e
   exact d w' (by rw [<- q']; exact hocd)
theorem ML {M : Model} {A : Around} {E : Value -> Shared -> Prop} {i : Nat} {x : Str} {v : V} {u : Value} {Q : Unit -> Shared -> Prop} (I : Inv X pins σ H s) (hN : X.N.Nodup) (hi : X.N[i]? = some x) (hx : Loc X.env.scope x) (r : Bb v u)
  (h : ∀ s', Inv X pins (σ.set i (some v)) H s' -> Q () s') (hf : X.fn x = true \/ X.env.scope.names.lookup x = some .local := by first | exact .inl rfl | exact .inr rfl | assumption) : wpAny M A (storeName X.env x u) Q E s :=
 Lm I hN hi hx r (fun s' I' _ => h s' I') hf
theorem Inv.call' {s' : Shared} {ch : List Addr} (I : Inv X pins σ H s) (ho : s'.os = s.os) (u : Un (frs X.stack) ch H H' s.heap s'.heap) (hok : HOk X.prog X.w H' s'.heap) (hg : AllBare s'.gens)
  (hch : ∀ b ∈ ch, (b ∈ X.ex \/ X.s₀.heap.objs.size <= b) /\ b ≠ X.env.locals /\ (∀ x c, X.env.cells.lookup x = some c -> c ≠ b) /\ ∀ p ∈ X.pn ++ pins, p.1 ≠ b) : Inv X pins σ H' s' := by
 obtain ⟨h', g', d', t', o'⟩ := s'
 have e : o' = s.os := ho
 subst e
 exact I.call (g' := g') (t' := t') (d' := d') u hok hg hch
end
abbrev XK := Value -> Option Addr -> Hp -> Prop
abbrev St := List (Option V)
abbrev VK := V -> Hp -> Prop
abbrev TE := St -> Hp -> VK -> Prop
abbrev TT := St -> Hp -> (Bool -> Hp -> Prop) -> Prop
abbrev TA := St -> Hp -> (List V -> Hp -> Prop) -> Prop
structure Lj where
 nx : St -> Hp -> Prop
 rt : VK
 bk : St -> Hp -> Prop := fun _ _ => False
 ct : St -> Hp -> Prop := fun _ _ => False
abbrev TS := Lj -> St -> Hp -> Prop
def EP (X : Cx) (pins : List (Addr × Obj)) (σ : St) (Q : VK) (u : Value) (s' : Shared) : Prop := ∃ v H', Inv X pins σ H' s' /\ Bb v u /\ Q v H'
def TP (X : Cx) (pins : List (Addr × Obj)) (σ : St) (Q : Bool -> Hp -> Prop) (b : Bool) (s' : Shared) : Prop := ∃ H', Inv X pins σ H' s' /\ Q b H'
def AP (X : Cx) (pins : List (Addr × Obj)) (σ : St) (Q : List V -> Hp -> Prop) (us : List Value) (s' : Shared) : Prop := ∃ vs H', Inv X pins σ H' s' /\ Ba vs us /\ Q vs H'
def SP (X : Cx) (pins : List (Addr × Obj)) (D : Lj) (f : Flow) (s' : Shared) : Prop :=
 match f with
 | .next => ∃ σ' H', Inv X pins σ' H' s' /\ D.nx σ' H'
 | .brk => ∃ σ' H', Inv X pins σ' H' s' /\ D.bk σ' H'
 | .cont => ∃ σ' H', Inv X pins σ' H' s' /\ D.ct σ' H'
 | .ret u => ∃ v σ' H', Inv X pins σ' H' s' /\ Bb v u /\ D.rt v H'
def PE (X : Cx) (e : Expr) (t : TE) : Prop :=
 ∀ (pins : List (Addr × Obj)) (s : Shared) (σ : St) (H : Hp) (Q : VK), Inv X pins σ H s -> t σ H Q -> wpAny (model X.prog X.w) X.A (eval e X.env) (EP X pins σ Q) X.xe s
def PT (X : Cx) (e : Expr) (t : TT) : Prop :=
 ∀ (pins : List (Addr × Obj)) (s : Shared) (σ : St) (H : Hp) (Q : Bool -> Hp -> Prop), Inv X pins σ H s -> t σ H Q -> wpAny (model X.prog X.w) X.A (isTrue e X.env (eval e X.env)) (TP X pins σ Q) X.xe s
def PW (X : Cx) (e : Expr) (t : TT) : Prop :=
 ∀ (whole : Sem Value) (pins : List (Addr × Obj)) (s : Shared) (σ : St) (H : Hp) (Q : Bool -> Hp -> Prop), Inv X pins σ H s -> t σ H Q -> wpAny (model X.prog X.w) X.A (isTrue e X.env whole) (TP X pins σ Q) X.xe s
theorem PW.pt {X : Cx} {e : Expr} {t : TT} (h : PW X e t) : PT X e t := h _
def PA (X : Cx) (es : List Expr) (t : TA) : Prop :=
 ∀ (pos : Pos) (pins : List (Addr × Obj)) (s : Shared) (σ : St) (H : Hp) (Q : List V -> Hp -> Prop), Inv X pins σ H s -> t σ H Q -> wpAny (model X.prog X.w) X.A (spliced (backTo pos (starEach es X.env))) (AP X pins σ Q) X.xe s
def PS (X : Cx) (st : Stmt) (t : TS) : Prop :=
 ∀ (pins : List (Addr × Obj)) (s : Shared) (σ : St) (H : Hp) (D : Lj), Inv X pins σ H s -> t D σ H -> wpAny (model X.prog X.w) X.A (exec st X.env) (SP X pins D) X.xe s
def PSs (X : Cx) (st : List Stmt) (t : TS) : Prop :=
 ∀ (pins : List (Addr × Obj)) (s : Shared) (σ : St) (H : Hp) (D : Lj), Inv X pins σ H s -> t D σ H -> wpAny (model X.prog X.w) X.A (execs st X.env) (SP X pins D) X.xe s
theorem thn {α : Type} {t : Sem α} {Q Q' : α -> Shared -> Prop} {M : Model} {A : Around} {E : Value -> Shared -> Prop} {s : Shared} (h : wpAny M A t Q E s) (hQ : ∀ a s, Q a s -> Q' a s) : wpAny M A t Q' E s := wpAny_mono h hQ fun _ _ x => x
end L2
namespace L2
open PySem PySem.Spec PyProof.Rows
section
variable {X : Cx}
def JY (i : Nat) : TE := fun σ H Q => ∃ v, σ[i]? = some (some v) /\ Q v H
def tC (v : V) : TE := fun _ H Q => Q v H
theorem pe_var {i : Nat} {x : Str} {pos : Pos} (hN : X.N[i]? = some x) (hv : Vis X.env.scope x) (hd : (x == ("__debug__" : Str)) = false := by decide) (hcd : (x == ("__classdict__" : Str)) = false := by decide) : PE X (.Name x pos) (JY i) := by
 intro pins s σ H Q I h
 obtain ⟨v, e, h⟩ := h
 obtain ⟨m, hn, hl⟩ := I.loc
 obtain ⟨u, r, l⟩ := hl i x v hN e hv
 have fin : EP X pins σ Q u s := ⟨v, H, I, r, h⟩
 rcases l with ⟨hk, hm⟩ | ⟨hk, c, hc, hcell⟩
 ·exact wpAny_Name (wpAny_loadName_local I.ok.kind hk hn hm fin) hd
 ·rcases hk with hk | hk
  ·exact wpAny_Name (wpAny_loadName_cell I.ok.kind hk hc hcell fin) hd
  ·exact wpAny_Name (wpAny_loadName_free I.ok.kind hk hc hcell fin hcd) hd
theorem Ac {i j pos} : PE X (.Constant (.int i) j pos) (tC (.int i)) := fun _ _ _ H _ I h => wpAny_Constant_int ⟨.int i, H, I.tok _, ⟨_, rfl⟩, h⟩
theorem Ib {b j pos} : PE X (.Constant (.bool b) j pos) (tC (.bl b)) := fun _ _ _ H _ I h => Constant_bool ⟨.bl b, H, I, rfl, h⟩
theorem Fl {j pos} : PE X (.Constant .none j pos) (tC .non) := fun _ _ _ H _ I h => Constant_none ⟨.non, H, I, rfl, h⟩
def Gl (X : Cx) (x : Str) : Prop := X.env.kindOf x = some .globalImplicit
theorem Mn {E : Value -> Shared -> Prop} {pins : List (Addr × Obj)} {s : Shared} {σ : St} {H : Hp} {x : Str} {u : Value} {pos : Pos} {Q : Value -> Shared -> Prop} (I : Inv X pins σ H s) (hg : Gl X x) (hm : X.mg x = some u) (h : Q u s)
  (hd : (x == ("__debug__" : Str)) = false := by decide) : wpAny (model X.prog X.w) X.A (eval (.Name x pos) X.env) Q E s :=
 Calls.Name_function_global I.ok.kind hg (Calls.loadGlobal_global (by rw [I.ok.glob]; exact I.mod.glob.keeps I.bk) hm h) hd
theorem GO {E : Value -> Shared -> Prop} {pins : List (Addr × Obj)} {s : Shared} {σ : St} {H : Hp} {x : Str} {u : Value} {pos : Pos} {Q : Value -> Shared -> Prop} (I : Inv X pins σ H s) (hg : Gl X x) (hm : X.mg x = none) (hv : bootBuiltins x = some u) (h : Q u s)
  (hn : x ≠ "__name__" := by decide) (hd : (x == ("__debug__" : Str)) = false := by decide) : wpAny (model X.prog X.w) X.A (eval (.Name x pos) X.env) Q E s := by
 obtain ⟨mb, h1, h2⟩ := I.mod.blt
 exact Calls.Name_function_global I.ok.kind hg (Calls.loadGlobal_builtin (by rw [I.ok.glob]; exact I.mod.glob.keeps I.bk) hm (by rw [I.ok.blt]; exact h1.keeps I.bk) ((h2 x hn).trans hv) h) hd
theorem OQ {x : Str} {v : V} {u : Value} {pos : Pos} (hg : Gl X x) (hm : X.mg x = some u) (r : Bb v u) (hd : (x == ("__debug__" : Str)) = false := by decide) : PE X (.Name x pos) (tC v) :=
 fun _ _ _ H _ I h => Mn I hg hm ⟨v, H, I, r, h⟩ hd
theorem Ia {x : Str} {v : V} {u : Value} {pos : Pos} (hg : Gl X x) (hm : X.mg x = none) (hv : bootBuiltins x = some u) (r : Bb v u) (hn : x ≠ "__name__" := by decide) (hd : (x == ("__debug__" : Str)) = false := by decide) : PE X (.Name x pos) (tC v) :=
 fun _ _ _ H _ I h => GO I hg hm hv ⟨v, H, I, r, h⟩ hn hd
variable {a b : Expr} {ta tb : TE} {pos : Pos}
def tB (t : TE) : TT := fun σ H Q => t σ H fun x H1 => ∃ c, x = .bl c /\ Q c H1
theorem Cs {e : Expr} {t : TE} (h : PE X e t) (he : ∀ whole, isTrue e X.env whole = (do let v <- whole; standAt e.pos; holding [v] (truthy v)) := by intro _; rfl) : PT X e (tB t) := by
 intro pins s σ H Q I hw
 refine isTrue_plain (thn (h pins s σ H _ I hw) fun v s1 ⟨x, H1, I1, r1, q1⟩ => ?_) (he _)
 obtain ⟨d, rfl, q⟩ := q1
 cases r1
 exact wpAny_truthy_bool ⟨H1, I1, q⟩
variable {tA tB' : TT} {rest : List Expr}
def tAnd (t u : TT) : TT := fun σ H Q => t σ H fun c H1 => if c = true then u σ H1 Q else Q false H1
def tOr (t u : TT) : TT := fun σ H Q => t σ H fun c H1 => if c = true then Q true H1 else u σ H1 Q
def tNot (t : TT) : TT := fun σ H Q => t σ H fun c H1 => Q (!c) H1
theorem Jh (ha : PT X a tA) : PW X (.BoolOp .And [a] pos) tA := by
 intro wh pins s σ H Q I h
 refine isTrue_and (thn (ha pins s σ H Q I h) fun c s1 e => ?_)
 cases c with
 | true => exact isTrue_and_nil e
 | false => exact e
theorem Ga (ha : PT X a tA) : PW X (.BoolOp .Or [a] pos) tA := by
 intro wh pins s σ H Q I h
 refine isTrue_or (thn (ha pins s σ H Q I h) fun c s1 e => ?_)
 cases c with
 | false => exact isTrue_or_nil e
 | true => exact e
theorem LT (ha : PT X a tA) (hb : PW X (.BoolOp .And (b :: rest) pos) tB') : PW X (.BoolOp .And (a :: b :: rest) pos) (tAnd tA tB') := by
 intro wh pins s σ H Q I h
 refine isTrue_and (thn (ha pins s σ H _ I h) fun c s1 ⟨H1, I1, q1⟩ => ?_)
 cases c with
 | true => exact hb wh pins s1 σ H1 Q I1 q1
 | false => exact ⟨H1, I1, q1⟩
theorem IG (ha : PT X a tA) (hb : PW X (.BoolOp .Or (b :: rest) pos) tB') : PW X (.BoolOp .Or (a :: b :: rest) pos) (tOr tA tB') := by
 intro wh pins s σ H Q I h
 refine isTrue_or (thn (ha pins s σ H _ I h) fun c s1 ⟨H1, I1, q1⟩ => ?_)
 cases c with
 | true => exact ⟨H1, I1, q1⟩
 | false => exact hb wh pins s1 σ H1 Q I1 q1
theorem CD (ha : PT X a tA) : PT X (.UnaryOp .Not a pos) (tNot tA) := by
 intro pins s σ H Q I h
 exact isTrue_not (ha pins s σ H (fun c H1 => Q (!c) H1) I h)
def tAndV (ta tb : TE) : TE := fun σ H Q => ta σ H fun x H1 => ∃ c, x = .bl c /\ if c = true then tb σ H1 Q else Q (.bl false) H1
def tNotV (ta : TE) : TE := fun σ H Q => ta σ H fun x H1 => ∃ c, x = .bl c /\ Q (.bl (!c)) H1
theorem JC {op} {t : TE} (h : PE X a t) : PE X (.BoolOp op [a] pos) t := fun pins s σ H Q I hw => BoolOp_one (h pins s σ H Q I hw)
theorem GK (ha : PE X a ta) (hb : PE X (.BoolOp .And (b :: rest) pos) tb) : PE X (.BoolOp .And (a :: b :: rest) pos) (tAndV ta tb) := by
 intro pins s σ H Q I h
 refine BoolOp_and (thn (ha pins s σ H _ I h) fun v s1 ⟨x, H1, I1, r1, q1⟩ => ?_)
 obtain ⟨c, rfl, q1⟩ := q1
 cases r1
 refine wpAny_truthy_bool ?_
 cases c with
 | true => exact hb pins s1 σ H1 Q I1 q1
 | false => exact ⟨.bl false, H1, I1, rfl, q1⟩
theorem pe_not (ha : PE X a ta) : PE X (.UnaryOp .Not a pos) (tNotV ta) := by
 intro pins s σ H Q I h
 refine UnaryOp_ (thn (ha pins s σ H _ I h) fun v s1 ⟨x, H1, I1, r1, q1⟩ => ?_)
 obtain ⟨c, rfl, q1⟩ := q1
 cases r1
 exact not_of (wpAny_truthy_bool ⟨.bl (!c), H1, I1, rfl, q1⟩)
def tIf (t : TT) (ta tb : TE) : TE := fun σ H Q => t σ H fun c H1 => if c = true then ta σ H1 Q else tb σ H1 Q
theorem Nb {c : Expr} (hc : PT X c tA) (ha : PE X a ta) (hb : PE X b tb) : PE X (.IfExp c a b pos) (tIf tA ta tb) := by
 intro pins s σ H Q I h
 refine wpAny_IfExp (thn (hc pins s σ H _ I h) fun d s1 ⟨H1, I1, q1⟩ => ?_)
 cases d with
 | true => exact ha pins s1 σ H1 Q I1 q1
 | false => exact hb pins s1 σ H1 Q I1 q1
end
end L2
namespace L2
open PySem PySem.Spec PyProof.Rows
def SqL (K : PySem.W.Frag) (H : Hp) (a : Addr) (xs : List V) : Prop :=
 Rd H a (.lst xs) \/
  ∃ (o : Obj) (its : Array Value) (n : Nat), K.lookup a = some o /\ o.cls = .type "list" /\ o.dict = none /\ o.data = .seq its n /\ its.size <= sizeLine /\ Ba xs its.toList
def SqT (K : PySem.W.Frag) (H : Hp) (a : Addr) (xs : List V) : Prop :=
 Rd H a (.tup xs) \/
  ∃ (o : Obj) (its : Array Value) (n : Nat), K.lookup a = some o /\ o.cls = .type "tuple" /\ o.data = .seq its n /\ its.size <= sizeLine /\ Ba xs its.toList
def absV : Value -> Option V
 | .none => some .non
 | .bool b => some (.bl b)
 | .int i _ => some (.int i)
 | .str x _ => some (.str x)
 | .bytes b _ => some (.byt b)
 | .float b _ => some (.flt b)
 | .ref a => some (.ref a)
 | .type n => some (.ty n)
 | _ => none
theorem Bb.abs {x : V} {u : Value} (r : Bb x u) : absV u = some x := by
 cases x with
 | non => cases r; rfl
 | bl _ => cases r; rfl
 | int _ => obtain ⟨t, rfl⟩ := r; rfl
 | str _ => obtain ⟨t, rfl⟩ := r; rfl
 | byt _ => obtain ⟨t, rfl⟩ := r; rfl
 | flt _ => obtain ⟨t, rfl⟩ := r; rfl
 | ref _ => cases r; rfl
 | ty _ => cases r; rfl
theorem Bb.inj {x y : V} {u : Value} (r : Bb x u) (q : Bb y u) : x = y := Option.some.inj (r.abs.symm.trans q.abs)
theorem Ba.inj : ∀ {xs ys : List V} {us : List Value}, Ba xs us -> Ba ys us -> xs = ys
 | _, _, _, .nil, .nil => rfl
 | _, _, _, .cons r t, .cons r' t' => by rw [r.inj r', Ba.inj t t']
section
variable {X : Cx} {pins : List (Addr × Obj)} {σ : St} {H : Hp} {s : Shared} {a : Addr} {xs ys : List V}
theorem SqL.of {K : PySem.W.Frag} (h : H a = some (.lst xs)) : SqL K H a xs := .inl (.inl h)
theorem SqT.of {K : PySem.W.Frag} (h : H a = some (.tup xs)) : SqT K H a xs := .inl (.inl h)
theorem Inv.list (I : Inv X pins σ H s) (h : SqL X.K H a xs) : ∃ its : List Value, Ba xs its /\ PlainL s.heap a its.toArray /\ xs.length <= sizeLine := by
 rcases h with h | ⟨o, its, n, hk, hc, hd, hs, hz, r⟩
 ·obtain ⟨z, its, n, r, e⟩ := h.ok I.hok
  exact ⟨its, r, ⟨_, n, e, rfl, rfl, rfl⟩, z⟩
 ·refine ⟨its.toList, r, ⟨o, n, I.kIn a o hk, hc, hd, by simpa using hs⟩, ?_⟩
  have e := r.length
  simp only [Array.length_toList] at e
  lia
theorem Inv.tuple (I : Inv X pins σ H s) (h : SqT X.K H a xs) : ∃ its : List Value, Ba xs its /\ IsTup s.heap a its.toArray /\ xs.length <= sizeLine := by
 rcases h with h | ⟨o, its, n, hk, hc, hs, hz, r⟩
 ·obtain ⟨z, its, r, p⟩ := h.ok I.hok
  exact ⟨its, r, p, z⟩
 ·refine ⟨its.toList, r, ⟨o, I.kIn a o hk, hc, n, by simpa using hs⟩, ?_⟩
  have e := r.length
  simp only [Array.length_toList] at e
  lia
theorem Inv.list_inj (I : Inv X pins σ H s) (h : SqL X.K H a xs) (h' : SqL X.K H a ys) : xs = ys := by
 obtain ⟨its, r, ⟨o, n, e, _, _, d⟩, _⟩ := I.list h
 obtain ⟨its', r', ⟨o', n', e', _, _, d'⟩, _⟩ := I.list h'
 rw [e] at e'; cases e'
 rw [d] at d'
 injection d' with d1 _
 have : its = its' := by simpa using congrArg Array.toList d1
 subst this
 exact r.inj r'
theorem Inv.tuple_inj (I : Inv X pins σ H s) (h : SqT X.K H a xs) (h' : SqT X.K H a ys) : xs = ys := by
 obtain ⟨its, r, ⟨o, e, _, n, d⟩, _⟩ := I.tuple h
 obtain ⟨its', r', ⟨o', e', _, n', d'⟩, _⟩ := I.tuple h'
 rw [e] at e'; cases e'
 rw [d] at d'
 injection d' with d1 _
 have : its = its' := by simpa using congrArg Array.toList d1
 subst this
 exact r.inj r'
end
abbrev Cx.wish (X : Cx) (E : Value -> Shared -> Prop) : Cx := { X with xe := E }
abbrev Cx.nox (X : Cx) : Cx := X.wish fun _ _ => False
theorem Cx.Ok.wish {X : Cx} (ok : X.Ok) (E : Value -> Shared -> Prop) : (X.wish E).Ok :=
 ⟨ok.mod, ok.kind, ok.glob, ok.blt, ok.above, ok.inj, ok.has, ok.cab, ok.hd, ok.frames, ok.stk, ok.exf, ok.bs, ok.bsz, ok.noex, ok.exfs, ok.funs, ok.frf⟩
theorem Cx.Ok.unwish {X : Cx} {E : Value -> Shared -> Prop} (ok : (X.wish E).Ok) : X.Ok :=
 ⟨ok.mod, ok.kind, ok.glob, ok.blt, ok.above, ok.inj, ok.has, ok.cab, ok.hd, ok.frames, ok.stk, ok.exf, ok.bs, ok.bsz, ok.noex, ok.exfs, ok.funs, ok.frf⟩
section
variable {X : Cx} {pins : List (Addr × Obj)} {σ : St} {H : Hp} {s : Shared} {E : Value -> Shared -> Prop}
theorem Inv.wish (I : Inv X pins σ H s) (E : Value -> Shared -> Prop) : Inv (X.wish E) pins σ H s := ⟨I.ok.wish E, I.os, I.bare, I.base, I.loc, I.cell, I.free, I.freeC, I.pin, I.hok, I.len⟩
theorem Inv.unwish (I : Inv (X.wish E) pins σ H s) : Inv X pins σ H s := ⟨I.ok.unwish, I.os, I.bare, I.base, I.loc, I.cell, I.free, I.freeC, I.pin, I.hok, I.len⟩
theorem SP.unwish {D : Lj} {f : Flow} {s' : Shared} (h : SP (X.wish E) pins D f s') : SP X pins D f s' := by
 cases f with
 | next => obtain ⟨σ', H', I, q⟩ := h; exact ⟨σ', H', I.unwish, q⟩
 | brk => obtain ⟨σ', H', I, q⟩ := h; exact ⟨σ', H', I.unwish, q⟩
 | cont => obtain ⟨σ', H', I, q⟩ := h; exact ⟨σ', H', I.unwish, q⟩
 | ret u => obtain ⟨v, σ', H', I, r, q⟩ := h; exact ⟨v, σ', H', I.unwish, r, q⟩
theorem PSs.nox {st : List Stmt} {t : TS} (h : PSs X.nox st t) : PSs X st t := fun pins s σ H D I hw =>
 wpAny_mono (h pins s σ H D (I.wish _) hw) (fun _ _ q => q.unwish) fun _ _ z => False.elim z
end
section
variable {X : Cx} {st : Stmt} {rest : List Stmt} {t u : TS} {e : Expr} {te : TE} {pos : Pos}
def tNext : TS := fun D σ H => D.nx σ H
def NR (t u : TS) : TS := fun D σ H => t { D with nx := u D } σ H
theorem AD : PSs X [] tNext := fun _ _ σ H _ I h => wpAny_execs_nil ⟨σ, H, I, h⟩
theorem Ab (h1 : PS X st t) (h2 : PSs X rest u) : PSs X (st :: rest) (NR t u) := by
 intro pins s σ H D I h
 refine wpAny_execs_cons (thn (h1 pins s σ H { D with nx := u D } I h) fun f s1 q => ?_)
 cases f with
 | next =>
  obtain ⟨σ', H', I', q⟩ := q
  exact h2 pins s1 σ' H' D I' q
 | ret v => exact q
 | brk => exact q
 | cont => exact q
theorem Aj (h1 : PS X st t) : PSs X [st] t := by
 intro pins s σ H D I h
 refine wpAny_execs_cons (thn (h1 pins s σ H D I h) fun f s1 q => ?_)
 cases f with
 | next => exact wpAny_execs_nil q
 | ret v => exact q
 | brk => exact q
 | cont => exact q
theorem Inv.quiet {pins : List (Addr × Obj)} {σ : St} {H : Hp} {s : Shared} (I : Inv X pins σ H s) : interactive X.env = false := by simp [interactive, I.ok.kind]
def tDrop (te : TE) : TS := fun D σ H => te σ H fun _ H1 => D.nx σ H1
theorem DI (he : PE X e te) (hs : swapsWith e none pos.line X.env = pure false := by rfl) : PS X (.Expr e pos) (tDrop te) := by
 intro pins s σ H D I h
 exact wpAny_Expr_any (thn (he pins s σ H _ I h) fun v s1 ⟨x, H1, I1, r1, q1⟩ => ⟨σ, H1, I1, q1⟩) I.quiet hs
def tRet (te : TE) : TS := fun D σ H => te σ H D.rt
theorem Aw (he : PE X e te) : PS X (.Return (some e) pos) (tRet te) := by
 intro pins s σ H D I h
 exact wpAny_Return_some (thn (he pins s σ H _ I h) fun v s1 ⟨x, H1, I1, r1, q1⟩ => ⟨x, σ, H1, I1, r1, q1⟩)
def tIfS (c : TT) (t u : TS) : TS := fun D σ H => c σ H fun b H1 => if b = true then t D σ H1 else u D σ H1
theorem Bh {c : Expr} {a b : List Stmt} {tc : TT} (hc : PT X c tc) (ha : PSs X a t) (hb : PSs X b u) : PS X (.If c a b pos) (tIfS tc t u) := by
 intro pins s σ H D I h
 refine wpAny_If (thn (hc pins s σ H _ I h) fun d s1 ⟨H1, I1, q1⟩ => ?_)
 cases d with
 | true => exact ha pins s1 σ H1 D I1 q1
 | false => exact hb pins s1 σ H1 D I1 q1
def tNever : TS := fun _ _ _ => False
theorem CJ : PS X st tNever := fun _ _ _ _ _ _ h => h.elim
end
abbrev TG := V -> St -> Hp -> (St -> Hp -> Prop) -> Prop
abbrev TGs := List V -> St -> Hp -> (St -> Hp -> Prop) -> Prop
def PG (X : Cx) (target : Expr) (t : TG) : Prop :=
 ∀ (pins : List (Addr × Obj)) (s : Shared) (σ : St) (H : Hp) (v : V) (u : Value) (Q : St -> Hp -> Prop), Inv X pins σ H s -> Bb v u -> t v σ H Q ->
  wpAny (model X.prog X.w) X.A (assign target X.env u) (fun _ s' => ∃ σ' H', Inv X pins σ' H' s' /\ Q σ' H') X.xe s
def PGs (X : Cx) (ts : List Expr) (t : TGs) : Prop :=
 ∀ (pins : List (Addr × Obj)) (s : Shared) (σ : St) (H : Hp) (vs : List V) (us : List Value) (Q : St -> Hp -> Prop), Inv X pins σ H s -> Ba vs us -> t vs σ H Q ->
  wpAny (model X.prog X.w) X.A (assignInOrder ((assignEach ts X.env).map (·.2)) us) (fun _ s' => ∃ σ' H', Inv X pins σ' H' s' /\ Q σ' H') X.xe s
abbrev TSet := V -> V -> V -> Hp -> (Hp -> Prop) -> Prop
def PSet (X : Cx) (t : TSet) : Prop :=
 ∀ (pins : List (Addr × Obj)) (s : Shared) (σ : St) (H : Hp) (o i v : V) (ov iv u : Value) (Q : Hp -> Prop), Inv X pins σ H s -> Bb o ov -> Bb i iv -> Bb v u -> t o i v H Q ->
  wpAny (model X.prog X.w) X.A (setItem ov iv u) (fun _ s' => ∃ H', Inv X pins σ H' s' /\ Q H') X.xe s
section
variable {X : Cx} {pos : Pos}
def Lx (i : Nat) : TG := fun v σ H Q => Q (σ.set i (some v)) H
theorem BG {i : Nat} {x : Str} (hN : X.N.Nodup) (hi : X.N[i]? = some x) (hx : Loc X.env.scope x) (hf : X.fn x = true \/ X.env.scope.names.lookup x = some .local := by first | exact .inl rfl | exact .inr rfl | assumption) : PG X (.Name x pos) (Lx i) := by
 intro pins s σ H v u Q I r h
 exact wpAny_assign_Name (ML I hN hi hx r (fun s' I' => ⟨_, H, I', h⟩) hf)
def gNil : TGs := fun vs σ H Q => vs = [] /\ Q σ H
def RS (t : TG) (u : TGs) : TGs := fun vs σ H Q => ∃ v r, vs = v :: r /\ t v σ H fun σ' H' => u r σ' H' Q
theorem LV : PGs X [] gNil := by
 intro pins s σ H vs us Q I r h
 obtain ⟨e, h⟩ := h
 subst e
 cases r
 exact assignInOrder_nil ⟨σ, H, I, h⟩
theorem Fw {e : Expr} {es : List Expr} {t : TG} {u : TGs} (h1 : PG X e t) (h2 : PGs X es u)
  (hs : (assignEach (e :: es) X.env).map (·.2) = assign e X.env :: (assignEach es X.env).map (·.2) := by rfl) : PGs X (e :: es) (RS t u) := by
 intro pins s σ H vs us Q I r h
 obtain ⟨v, vr, e1, h⟩ := h
 subst e1
 cases r with
 | cons r rr =>
  rw [hs]
  refine assignInOrder_cons (thn (h1 pins s σ H _ _ _ I r h) fun _ s1 ⟨σ1, H1, I1, q1⟩ => ?_)
  exact h2 pins s1 σ1 H1 _ _ Q I1 rr q1
def gTup (K : PySem.W.Frag) (n : Nat) (t : TGs) : TG := fun v σ H Q => ∃ a xs, v = .ref a /\ SqT K H a xs /\ xs.length = n /\ t xs σ H Q
theorem NZ {es : List Expr} {k : Nat} {t : TGs} {n : Nat} (hc : X.calm = true) (h : PGs X es t)
  (hn : (assignEach es X.env).length = n := by rfl) (hst : (assignEach es X.env).findIdx? (·.1) = none := by rfl) : PG X (.Tuple es k pos) (gTup X.K n t) := by
 intro pins s σ H v u Q I r hw
 obtain ⟨a, xs, e1, hq, hl, hw⟩ := hw
 subst e1
 cases r
 obtain ⟨its, rv, ht, hz⟩ := I.tuple hq
 refine assign_Tuple_tuple (I.ok.hd hc) ht (by simp [hn, <- hl, rv.length]) hst fun h' hx => ?_
 have I1 : Inv X pins σ H { s with heap := h' } := I.kept (t' := s.toks) fun b o e => hx b o (Nat.ne_of_lt (Heap.lt_size e)) e
 exact h pins _ σ H xs _ Q I1 (by simpa using rv) hw
def gSub (to ti : TE) (t : TSet) : TG := fun v σ H Q => to σ H fun o H1 => ti σ H1 fun i H2 => t o i v H2 fun H3 => Q σ H3
theorem QZ {o i : Expr} {to ti : TE} {t : TSet} (ho : PE X o to) (hi : PE X i ti) (hs : PSet X t)
  (ha : ∀ v, assign (.Subscript o i pos) X.env v = (do
   let ov <- holding [v] (eval o X.env)
   let iv <- holding [v, ov] (eval i X.env)
   standAt pos
   holding [v, ov, iv] (setItem ov iv v)
   release [v, ov, iv] []) := by intro _; rfl) : PG X (.Subscript o i pos) (gSub to ti t) := by
 intro pins s σ H v u Q I r h
 rw [ha]
 refine wpAny_bind (wpAny_holding (thn (ho pins s σ H _ I h) fun ov s1 ⟨x, H1, I1, r1, q1⟩ => ?_))
 refine wpAny_bind (wpAny_holding (thn (hi pins s1 σ H1 _ I1 q1) fun iv s2 ⟨y, H2, I2, r2, q2⟩ => ?_))
 refine wpAny_bind (wpAny_standAt (wpAny_bind (wpAny_holding (thn (hs pins s2 σ H2 x y v ov iv u _ I2 r1 r2 r q2) fun _ s3 ⟨H3, I3, q3⟩ => ?_))))
 exact wpAny_release ⟨σ, H3, I3, q3⟩
def tAsg (te : TE) (g : TG) : TS := fun D σ H => te σ H fun x H1 => g x σ H1 D.nx
theorem QX {tg e : Expr} {te : TE} {g : TG} (he : PE X e te) (hg : PG X tg g) (hs : swapsWithSole [tg] e pos.line X.env = pure false := by rfl) (hw : swappedStores [tg] e X.env = pure none := by rfl)
  (h1 : (assignEach [tg] X.env).map (·.2) = [assign tg X.env] := by rfl) : PS X (.Assign [tg] e pos) (tAsg te g) := by
 intro pins s σ H D I h
 refine wpAny_Assign_stores (thn (he pins s σ H _ I h) fun v s1 ⟨x, H1, I1, r1, q1⟩ => ?_) hs hw
 rw [h1]
 exact thn (hg pins s1 σ H1 x v _ I1 r1 q1) fun _ s2 q => q
theorem Al {i : Nat} {x : Str} {e : Expr} {te : TE} {pos' : Pos} (hN : X.N.Nodup) (hi : X.N[i]? = some x) (hx : Loc X.env.scope x) (he : PE X e te) (hs : swapsWith e (some (.Name x pos')) pos.line X.env = pure false := by rfl) (hf : X.fn x = true \/ X.env.scope.names.lookup x = some .local := by first | exact .inl rfl | exact .inr rfl | assumption) :
  PS X (.Assign [.Name x pos'] e pos) (tAsg te (Lx i)) := by
 intro pins s σ H D I h
 refine wpAny_Assign_Name (thn (he pins s σ H _ I h) fun v s1 ⟨y, H1, I1, r1, q1⟩ => ?_) hs
 exact ML I1 hN hi hx r1 (fun s2 I2 => ⟨_, H1, I2, q1⟩) hf
end
section
variable {X : Cx} {pos : Pos}
def tWhile (c : TT) (tb : TS) : TS := fun D σ H => ∃ W : Nat -> St -> Hp -> Prop, (∃ m, W m σ H) /\ ∀ m σ H, W m σ H ->
 c σ H fun b H1 => if b = true then ∃ N : St -> Hp -> Prop, (∀ σ' H', N σ' H' -> ∃ m', m' < m /\ W m' σ' H') /\ tb { D with nx := N, ct := N, bk := D.nx } σ H1 else D.nx σ H1
theorem MZ {c : Expr} {body : List Stmt} {tc : TT} {tb : TS} (hp : PassesOwn (model X.prog X.w) X.A X.env X.xe) (hc : PT X c tc) (hb : PSs X body tb) : PS X (.While c body [] pos) (tWhile tc tb) := by
 intro pins s σ H D I h
 obtain ⟨W, ⟨m0, w0⟩, turn⟩ := h
 refine wpAny_While (codeAny_whileLoop (fun n s' => ∃ σ' H', Inv X pins σ' H' s' /\ W n σ' H') ?_ m0 ⟨σ, H, I, w0⟩)
 rintro n s1 ⟨σ1, H1, I1, w1⟩
 refine wpAny_passesOwn hp (thn (hc pins s1 σ1 H1 _ I1 (turn n σ1 H1 w1)) fun b s2 ⟨H2, I2, q2⟩ => ?_)
 cases b with
 | true =>
  obtain ⟨N, hN, q2⟩ := q2
  rw [if_pos rfl]
  refine wpAny_passesOwn hp (thn (hb pins s2 σ1 H2 _ I2 q2) fun f s3 q3 => ?_)
  cases f with
  | next =>
   obtain ⟨σ3, H3, I3, n3⟩ := q3
   obtain ⟨m', hm, w3⟩ := hN σ3 H3 n3
   exact ⟨m', hm, σ3, H3, I3, w3⟩
  | cont =>
   obtain ⟨σ3, H3, I3, n3⟩ := q3
   obtain ⟨m', hm, w3⟩ := hN σ3 H3 n3
   exact ⟨m', hm, σ3, H3, I3, w3⟩
  | brk => exact q3
  | ret v => exact q3
 | false =>
  rw [if_neg Bool.false_ne_true]
  exact wpAny_execs_nil ⟨σ1, H2, I2, q2⟩
end
structure It where
 go : Nat -> Hp -> Prop
 yld : Nat -> Hp -> V -> Hp -> Prop
 stop : Nat -> Hp -> Prop
def DS (X : Cx) (pins : List (Addr × Obj)) (H : Hp) (b : Addr) : Prop :=
 H b = none /\ b ≠ X.env.locals /\ b ∉ X.fs /\ (b ∈ X.ex \/ X.s₀.heap.objs.size <= b) /\ (∀ x c, X.env.cells.lookup x = some c -> c ≠ b) /\ ∀ p ∈ X.pn ++ pins, p.1 ≠ b
theorem Inv.fpOk {X : Cx} {pins : List (Addr × Obj)} {σ : St} {H H' : Hp} {s : Shared} {b : Addr} (I : Inv X pins σ H s) (hb : s.heap.objs.size <= b) (hn : H' b = none) : DS X pins H' b := by
 refine ⟨hn, Nat.ne_of_gt (Nat.lt_of_lt_of_le I.lt hb), I.nofs hb, .inr (Nat.le_trans I.sz hb), fun x c e z => ?_, fun p hp z => ?_⟩
 ·obtain ⟨v, q⟩ := I.cell x c e
  exact absurd (Nat.lt_of_lt_of_le q.lt (by rw [z]; exact hb)) (Nat.lt_irrefl _)
 ·exact absurd (Nat.lt_of_lt_of_le (Heap.lt_size (I.pin p hp).1) (by rw [z]; exact hb)) (Nat.lt_irrefl _)
structure NM (P : Program) (w : World) (K : PySem.W.Frag) (tg : Expr) (J : It) (fp : List Addr) (it : Addr) (tn : Nat -> Heap -> Prop) : Prop where
 mem : it ∈ fp
 obj : ∀ i h, tn i h -> ∀ b ∈ fp, ∃ o, h.get? b = some o /\ ∀ v, o.data ≠ .cell v
 keep : ∀ i h h', tn i h -> (∀ b ∈ fp, ∀ o, h.get? b = some o -> h'.get? b = some o) -> tn i h'
 item : ∀ (X : Cx), X.prog = P -> X.w = w -> X.K = K -> X.calm = true -> ∀ (i : Nat) (pins : List (Addr × Obj)) (s : Shared) (σ : St) (H : Hp) (E : Value -> Shared -> Prop), Inv X pins σ H s -> (∀ b ∈ fp, DS X pins H b) -> tn i s.heap -> J.go i H ->
  wpAny (model P w) X.A (pyNext (.ref it)) (fun r s1 => ∃ u, r = some u /\
   wpAny (model P w) X.A (letOwnedTupleGo tg (.ref it) u) (fun _ s2 => ∃ x H', Inv X pins σ H' s2 /\ Bb x u /\ J.yld i H x H' /\ tn (i + 1) s2.heap /\ ∀ b ∈ fp, H' b = none) E s1) E s
 done : ∀ (X : Cx), X.prog = P -> X.w = w -> X.K = K -> X.calm = true -> ∀ (i : Nat) (pins : List (Addr × Obj)) (s : Shared) (σ : St) (H : Hp) (E : Value -> Shared -> Prop), Inv X pins σ H s -> (∀ b ∈ fp, DS X pins H b) -> tn i s.heap -> J.stop i H ->
  wpAny (model P w) X.A (pyNext (.ref it)) (fun r s1 => r = none /\ Inv X pins σ H s1) E s
 self : ∀ (A : Around) (i : Nat) (s : Shared) (Q : Value -> Shared -> Prop) (E : Value -> Shared -> Prop), tn i s.heap -> Q (.ref it) s -> wpAny (model P w) A (pyIter (.ref it)) Q E s
abbrev TI := St -> Hp -> (It -> Hp -> Prop) -> Prop
def PIE (X : Cx) (pins : List (Addr × Obj)) (σ : St) (tg : Expr) (R : It -> Hp -> Prop) (itv : Value) (s2 : Shared) : Prop :=
 ∃ (it : Addr) (fp : List Addr) (tn : Nat -> Heap -> Prop) (J : It) (H' : Hp), itv = .ref it /\ Inv X pins σ H' s2 /\ NM X.prog X.w X.K tg J fp it tn /\ tn 0 s2.heap /\ (∀ b ∈ fp, DS X pins H' b) /\ R J H'
def PI (X : Cx) (tg iter : Expr) (wi : TI) : Prop :=
 ∀ (pins : List (Addr × Obj)) (s : Shared) (σ : St) (H : Hp) (R : It -> Hp -> Prop), Inv X pins σ H s -> wi σ H R ->
  wpAny (model X.prog X.w) X.A (eval iter X.env) (fun v s1 => wpAny (model X.prog X.w) X.A (pyIter v) (PIE X pins σ tg R) X.xe s1) X.xe s
theorem Pe {M : Model} {A : Around} {E : Value -> Shared -> Prop} {s : Shared} {tg : Expr} {it : Addr} {u : Value} {o : Obj} {n : String} {vs : Array Value} {Q : Unit -> Shared -> Prop} (ho : s.heap.get? it = some o) (hc : o.cls = .type n) (hd : o.data = .fields vs)
    (hn : ["enumerate", "zip", "dict_itemiterator", "dict_reverseitemiterator", "odict_iterator", "itertools.zip_longest", "itertools.pairwise"].contains n = false) (hQ : Q () s) : wpAny M A (letOwnedTupleGo tg (.ref it) u) Q E s := by
  unfold letOwnedTupleGo
  cases tg <;> first
    | exact wpAny_pure hQ
    | (cases u <;> first
        | exact wpAny_pure hQ
        | (refine wpAny_bind (wpAny_load ho ?_)
           rw [hc, hd]
           show wpAny M A (if (["enumerate", "zip", "dict_itemiterator", "dict_reverseitemiterator", "odict_iterator", "itertools.zip_longest", "itertools.pairwise"].contains n && vs[0]? == some (rawInt _)) = true then _ else _) Q E s
           rw [if_neg (by intro h; rw [hn, Bool.false_and] at h; cases h)]
           exact wpAny_pure hQ))
def Itl (K : PySem.W.Frag) (a : Addr) : It :=
 ⟨fun i H => ∃ xs x, SqL K H a xs /\ xs[i]? = some x, fun i H x H' => H' = H /\ ∀ xs, SqL K H a xs -> xs[i]? = some x, fun i H => ∃ xs, SqL K H a xs /\ xs.length <= i⟩
def Itt (K : PySem.W.Frag) (a : Addr) : It :=
 ⟨fun i H => ∃ xs x, SqT K H a xs /\ xs[i]? = some x, fun i H x H' => H' = H /\ ∀ xs, SqT K H a xs -> xs[i]? = some x, fun i H => ∃ xs, SqT K H a xs /\ xs.length <= i⟩
def Itr (lo : Int) (n : Nat) : It := ⟨fun i _ => i < n, fun i H x H' => H' = H /\ x = .int (lo + i), fun i _ => n <= i⟩
theorem PC {P : Program} {w : World} {K : PySem.W.Frag} {tg : Expr} (a it : Addr) : NM P w K tg (Itl K a) [it] it (fun i h => h.IsListIter it a i) where
 mem := by simp
 obj := fun i h st b hb => by
  have e : b = it := by simpa using hb
  subst e
  obtain ⟨o, e, c, d⟩ := st
  exact ⟨o, e, fun v z => by rw [d] at z; cases z⟩
 keep := fun i h h' st k => st.at fun o e => k it (by simp) o e
 item := by
  intro X hP hw hK hc i pins s σ H E I hf st hg
  subst hP hw hK
  obtain ⟨xs, x, hq, hx⟩ := hg
  obtain ⟨its, rv, p, hz⟩ := I.list hq
  obtain ⟨u, hu, ru⟩ := rv.get hx
  obtain ⟨f0, f1, f2, f3, f4, f5⟩ := hf it (by simp)
  refine wpAny_pyNext_list_item st p.isList (x := u) (by simpa using hu) fun h' st' sb => ?_
  have I1 : Inv X pins σ H { s with heap := h' } := I.turned (t' := s.toks) (fun b o hb e => (sb.2 b hb).trans e) f0 f1 f3 f4 f5
  obtain ⟨o, e, c, d⟩ := id st'
  exact ⟨u, rfl, Pe (s := { s with heap := h' }) e c d (by decide) ⟨x, H, I1, ru, ⟨rfl, fun ys hy => by rw [I.list_inj hy hq]; exact hx⟩, st', fun b hb => (hf b hb).1⟩⟩
 done := by
  intro X hP hw hK hc i pins s σ H E I hf st hg
  subst hP hw hK
  obtain ⟨xs, hq, hx⟩ := hg
  obtain ⟨its, rv, p, hz⟩ := I.list hq
  obtain ⟨f0, f1, f2, f3, f4, f5⟩ := hf it (by simp)
  have hl := rv.length
  exact wpAny_pyNext_list_end (I.ok.hd hc) st p.isList (by simp; lia) fun h' eb => ⟨rfl, I.turned (t' := s.toks) (fun b o hb e => eb b o hb e) f0 f1 f3 f4 f5⟩
 self := fun _ _ _ _ _ st h => wpAny_pyIter_listiter st h
theorem NP {P : Program} {w : World} {K : PySem.W.Frag} {tg : Expr} (a it : Addr) : NM P w K tg (Itt K a) [it] it (fun i h => h.IsTupleIter it a i) where
 mem := by simp
 obj := fun i h st b hb => by
  have e : b = it := by simpa using hb
  subst e
  obtain ⟨o, e, c, d⟩ := st
  exact ⟨o, e, fun v z => by rw [d] at z; cases z⟩
 keep := fun i h h' st k => st.at fun o e => k it (by simp) o e
 item := by
  intro X hP hw hK hc i pins s σ H E I hf st hg
  subst hP hw hK
  obtain ⟨xs, x, hq, hx⟩ := hg
  obtain ⟨its, rv, p, hz⟩ := I.tuple hq
  obtain ⟨u, hu, ru⟩ := rv.get hx
  obtain ⟨f0, f1, f2, f3, f4, f5⟩ := hf it (by simp)
  refine wpAny_pyNext_tuple_item st (show s.heap.IsTuple a its.toArray from p) (x := u) (by simpa using hu) fun h' st' sb => ?_
  have I1 : Inv X pins σ H { s with heap := h' } := I.turned (t' := s.toks) (fun b o hb e => (sb.2 b hb).trans e) f0 f1 f3 f4 f5
  obtain ⟨o, e, c, d⟩ := id st'
  exact ⟨u, rfl, Pe (s := { s with heap := h' }) e c d (by decide) ⟨x, H, I1, ru, ⟨rfl, fun ys hy => by rw [I.tuple_inj hy hq]; exact hx⟩, st', fun b hb => (hf b hb).1⟩⟩
 done := by
  intro X hP hw hK hc i pins s σ H E I hf st hg
  subst hP hw hK
  obtain ⟨xs, hq, hx⟩ := hg
  obtain ⟨its, rv, p, hz⟩ := I.tuple hq
  obtain ⟨f0, f1, f2, f3, f4, f5⟩ := hf it (by simp)
  have hl := rv.length
  exact wpAny_pyNext_tuple_end (I.ok.hd hc) st (show s.heap.IsTuple a its.toArray from p) (by simp; lia) fun h' eb => ⟨rfl, I.turned (t' := s.toks) (fun b o hb e => eb b o hb e) f0 f1 f3 f4 f5⟩
 self := fun _ _ _ _ _ st h => wpAny_pyIter_tupleiter st h
theorem NQ {P : Program} {w : World} {K : PySem.W.Frag} {tg : Expr} (it : Addr) (lo : Int) (n : Nat) : NM P w K tg (Itr lo n) [it] it (fun i h => IsRangeIter h it (lo + (i : Nat) * 1) ((n : Int) - (i : Nat)) 1) where
 mem := by simp
 obj := fun i h st b hb => by
  have e : b = it := by simpa using hb
  subst e
  exact ⟨_, st, fun v z => by
   have z' : Data.fields _ = Data.cell v := z
   cases z'⟩
 keep := fun i h h' st k => k it (by simp) _ st
 item := by
  intro X hP hw hK hc i pins s σ H E I hf st hg
  subst hP hw hK
  obtain ⟨f0, f1, f2, f3, f4, f5⟩ := hf it (by simp)
  have W := Walks.range (prog := X.prog) (w := X.w) (I.ok.hd hc) it lo 1 n
  refine W.item i s _ _ hg st fun v h' tk hv st' kk => ?_
  obtain ⟨t, rfl⟩ := hv
  have I1 : Inv X pins σ H { s with heap := h', toks := tk } := I.turned (fun b o hb e => kk b o (by simpa using hb) e) f0 f1 f3 f4 f5
  refine ⟨_, rfl, Pe (s := { s with heap := h', toks := tk }) (n := "range_iterator") st' rfl rfl (by decide) ⟨.int (lo + i), H, I1, ⟨t, ?_⟩, ⟨rfl, rfl⟩, st', fun b hb => (hf b hb).1⟩⟩
  rw [Int.mul_one]
 done := by
  intro X hP hw hK hc i pins s σ H E I hf st hg
  subst hP hw hK
  obtain ⟨f0, f1, f2, f3, f4, f5⟩ := hf it (by simp)
  exact wpAny_pyNext_range_end (I.ok.hd hc) st (by have : n <= i := hg; lia) fun h' eb => ⟨rfl, I.turned (t' := s.toks) (fun b o hb e => eb b o hb e) f0 f1 f3 f4 f5⟩
 self := fun _ _ _ _ _ st h => wpAny_pyIter_rangeiter st h
end L2
namespace L2
open PySem PySem.Spec PyProof.Rows
section
variable {X : Cx} {tg : Expr}
def iList (K : PySem.W.Frag) (tl : TE) : TI := fun σ H R => tl σ H fun x H1 => ∃ a, x = .ref a /\ (∃ xs, SqL K H1 a xs) /\ R (Itl K a) H1
def iTup (K : PySem.W.Frag) (tl : TE) : TI := fun σ H R => tl σ H fun x H1 => ∃ a, x = .ref a /\ (∃ xs, SqT K H1 a xs) /\ R (Itt K a) H1
theorem GY {l : Expr} {tl : TE} (hl : PE X l tl) : PI X tg l (iList X.K tl) := by
 intro pins s σ H R I h
 refine thn (hl pins s σ H _ I h) fun v s1 ⟨x, H1, I1, r1, q1⟩ => ?_
 obtain ⟨a, e, ⟨xs, hq⟩, q⟩ := q1
 subst e
 cases r1
 obtain ⟨its, rv, p, hz⟩ := I1.list hq
 refine wpAny_pyIter_list p.isList ?_
 refine ⟨s1.heap.objs.size, [s1.heap.objs.size], _, _, H1, rfl, I1.kept (t' := s1.toks) fun b o e => Heap.get?_push_of_some _ e, PC a _, ⟨_, Heap.get?_push_size _ rfl, rfl, rfl⟩, fun b hb => ?_, q⟩
 have e : b = s1.heap.objs.size := by simpa using hb
 subst e
 exact I1.fpOk (Nat.le_refl _) (I1.hok.fresh (Nat.le_refl _))
theorem QY {l : Expr} {tl : TE} (hl : PE X l tl) : PI X tg l (iTup X.K tl) := by
 intro pins s σ H R I h
 refine thn (hl pins s σ H _ I h) fun v s1 ⟨x, H1, I1, r1, q1⟩ => ?_
 obtain ⟨a, e, ⟨xs, hq⟩, q⟩ := q1
 subst e
 cases r1
 obtain ⟨its, rv, p, hz⟩ := I1.tuple hq
 refine wpAny_pyIter_tuple (show s1.heap.IsTuple a its.toArray from p) ?_
 refine ⟨s1.heap.objs.size, [s1.heap.objs.size], _, _, H1, rfl, I1.kept (t' := s1.toks) fun b o e => Heap.get?_push_of_some _ e, NP a _, ⟨_, Heap.get?_push_size _ rfl, rfl, rfl⟩, fun b hb => ?_, q⟩
 have e : b = s1.heap.objs.size := by simpa using hb
 subst e
 exact I1.fpOk (Nat.le_refl _) (I1.hok.fresh (Nat.le_refl _))
theorem MX {pins : List (Addr × Obj)} {σ : St} {H : Hp} {s : Shared} {R : It -> Hp -> Prop} {E : Value -> Shared -> Prop} {lo hi : Int} {t u v : Tok} {tk : Nat} (I : Inv X pins σ H s) (h1 : -(2 ^ 62) <= lo) (h2 : lo < 2 ^ 62) (h3 : -(2 ^ 62) <= hi) (h4 : hi < 2 ^ 62)
  (q : R (Itr lo (hi - lo).toNat) H) : wpAny (model X.prog X.w) X.A (pyIter (.ref s.heap.objs.size)) (PIE X pins σ tg R) E { s with heap := s.heap.push { cls := .type "range", data := .fields #[.int lo t, .int hi u, .int 1 v] }, toks := tk } := by
 refine wpAny_pyIter_range (IsRange.new ..) (small_one h1 h2 h3 h4) ?_
 have I1 : Inv X pins σ H { s with heap := s.heap.push { cls := .type "range", data := .fields #[.int lo t, .int hi u, .int 1 v] }, toks := tk } := I.kept fun b o e => Heap.get?_push_of_some _ e
 refine ⟨(s.heap.push { cls := .type "range", data := .fields #[.int lo t, .int hi u, .int 1 v] }).objs.size, [(s.heap.push { cls := .type "range", data := .fields #[.int lo t, .int hi u, .int 1 v] }).objs.size], _, _, H, rfl,
  I1.kept (t' := tk) fun b o e => Heap.get?_push_of_some _ e, NQ _ lo (hi - lo).toNat, ?_, fun b hb => ?_, q⟩
 ·have e1 : lo + ((0 : Nat) : Int) * 1 = lo := by simp
  have e2 : (((hi - lo).toNat : Nat) : Int) - ((0 : Nat) : Int) = Builtin.Range.rangeSize lo hi 1 := by rw [rangeSize_one]; split <;> lia
  show IsRangeIter _ _ (lo + ((0 : Nat) : Int) * 1) ((((hi - lo).toNat : Nat) : Int) - ((0 : Nat) : Int)) 1
  rw [e1, e2]
  exact Heap.get?_push_size _ rfl
 ·have e : b = (s.heap.push { cls := .type "range", data := .fields #[.int lo t, .int hi u, .int 1 v] }).objs.size := by simpa using hb
  subst e
  exact I1.fpOk (Nat.le_refl _) (I1.hok.fresh (Nat.le_refl _))
def iRng1 (ta : TA) : TI := fun σ H R => ta σ H fun vs H1 => ∃ j : Int, vs = [.int j] /\ -(2 ^ 62) <= j /\ j < 2 ^ 62 /\ R (Itr 0 j.toNat) H1
def iRng2 (ta : TA) : TI := fun σ H R => ta σ H fun vs H1 => ∃ i j : Int, vs = [.int i, .int j] /\ (-(2 ^ 62) <= i /\ i < 2 ^ 62 /\ -(2 ^ 62) <= j /\ j < 2 ^ 62) /\ R (Itr i (j - i).toNat) H1
theorem Ed {a : Expr} {ta : TA} {p pos : Pos} (hg : Gl X "range") (hm : X.mg "range" = none) (ha : PA X [a] ta) (hs : starEach [a] X.env = [(false, eval a X.env)] := by rfl) : PI X tg (.Call (.Name "range" p) [a] [] pos) (iRng1 ta) := by
 intro pins s σ H R I h
 refine Call_ (GO I hg hm boot_range (PyProof.Rows.callWith_type1 (thn (ha pos pins s σ H _ I h) fun us s1 ⟨vs, H1, I1, r1, q1⟩ => ?_) hs rfl))
 obtain ⟨j, e, q1, q2, q⟩ := q1
 subst e
 cases r1 with
 | cons r rr =>
  cases rr
  obtain ⟨t, rfl⟩ := r
  exact call_range_1 (MX I1 (by lia) (by lia) q1 q2 (by simpa using q))
theorem PP {a b : Expr} {ta : TA} {p pos : Pos} (hg : Gl X "range") (hm : X.mg "range" = none) (ha : PA X [a, b] ta) (hs : starEach [a, b] X.env = [(false, eval a X.env), (false, eval b X.env)] := by rfl) (hs2 : starEach [b] X.env = [(false, eval b X.env)] := by rfl) :
  PI X tg (.Call (.Name "range" p) [a, b] [] pos) (iRng2 ta) := by
 intro pins s σ H R I h
 refine Call_ (GO I hg hm boot_range (PyProof.Rows.callWith_type1 (thn (ha pos pins s σ H _ I h) fun us s1 ⟨vs, H1, I1, r1, q1⟩ => ?_) (by rw [hs, hs2]) (by rw [hs2]; rfl)))
 obtain ⟨i, j, e, ⟨q1, q2, q3, q4⟩, q⟩ := q1
 subst e
 cases r1 with
 | cons r rr =>
  cases rr with
  | cons r' rr =>
   cases rr
   obtain ⟨t, rfl⟩ := r
   obtain ⟨t', rfl⟩ := r'
   exact call_range_2 (MX I1 q1 q2 q3 q4 q)
def tFor (wi : TI) (g : TG) (tb : TS) : TS := fun D σ H => wi σ H fun J H1 => ∃ W : Nat -> Nat -> St -> Hp -> Prop, (∃ m, W 0 m σ H1) /\ ∀ i m σ H, W i m σ H ->
 (J.stop i H /\ D.nx σ H) \/ (J.go i H /\ ∃ N : St -> Hp -> Prop, (∀ σ' H', N σ' H' -> ∃ m', m' < m /\ W (i + 1) m' σ' H') /\ ∀ x H', J.yld i H x H' -> g x σ H' fun σ2 H2 => tb { D with nx := N, ct := N, bk := D.nx } σ2 H2)
def Ip (fp : List Addr) (h : Heap) : List (Addr × Obj) := fp.filterMap fun b => (h.get? b).map fun o => (b, o)
theorem FQ {fp : List Addr} {h : Heap} {b : Addr} {o : Obj} (hb : b ∈ fp) (e : h.get? b = some o) : (b, o) ∈ Ip fp h := List.mem_filterMap.mpr ⟨b, hb, by rw [e]; rfl⟩
theorem Lq {fp : List Addr} {h : Heap} {p : Addr × Obj} (hp : p ∈ Ip fp h) : p.1 ∈ fp /\ h.get? p.1 = some p.2 := by
 obtain ⟨b, hb, e⟩ := List.mem_filterMap.mp hp
 cases q : h.get? b with
 | none => rw [q] at e; cases e
 | some o =>
  rw [q] at e
  have e' : (b, o) = p := Option.some.inj e
  subst e'
  exact ⟨hb, q⟩
theorem Inv.pinned {pins : List (Addr × Obj)} {σ : St} {H : Hp} {s : Shared} {fp : List Addr} (I : Inv X pins σ H s) (hf : ∀ b ∈ fp, DS X pins H b) (ho : ∀ b ∈ fp, ∃ o, s.heap.get? b = some o /\ ∀ v, o.data ≠ .cell v) : Inv X (pins ++ Ip fp s.heap) σ H s :=
 I.pins_of fun p hp => (List.mem_append.mp hp).elim (fun z => I.pin p (List.mem_append_right _ z)) fun z => by
  obtain ⟨hb, e⟩ := Lq z
  obtain ⟨f0, f1, f2, _⟩ := hf p.1 hb
  obtain ⟨o, e', d⟩ := ho p.1 hb
  rw [e] at e'; cases e'
  exact ⟨e, f0, f1, f2, d⟩
theorem Inv.unpinned {pins pl : List (Addr × Obj)} {σ : St} {H : Hp} {s : Shared} (I : Inv X (pins ++ pl) σ H s) : Inv X pins σ H s := I.pins_of fun p hp => I.pin p (List.mem_append_right _ (List.mem_append_left _ hp))
theorem Dj {iter : Expr} {body : List Stmt} {wi : TI} {g : TG} {tb : TS} {pos : Pos} (hp : PassesOwn (model X.prog X.w) X.A X.env X.xe) (hc : X.calm = true) (hi : PI X tg iter wi) (hg : PG X tg g) (hb : PSs X body tb)
  (hs : ∀ x, foldedSetIterable iter X.env x = pure x := by intro _; rfl) : PS X (.For tg iter body [] pos) (tFor wi g tb) := by
 intro pins s σ H D I h
 refine wpAny_For (thn (hi pins s σ H _ I h) fun v s1 h1 => thn h1 fun itv s2 h2 => ?_) hs
 obtain ⟨it, fp, tn, J, H2, e, I2, T, st2, f2, W, ⟨m0, w0⟩, turn⟩ := h2
 subst e
 have stat : ∀ {H' : Hp}, (∀ b ∈ fp, H' b = none) -> ∀ b ∈ fp, DS X pins H' b := fun hn b hb => ⟨hn b hb, (f2 b hb).2⟩
 refine codeAny_forLoop_any (fun n s' => ∃ i σ' H', Inv X pins σ' H' s' /\ tn i s'.heap /\ (∀ b ∈ fp, H' b = none) /\ W i n σ' H') ?_ m0 ⟨0, σ, H2, I2, st2, fun b hb => (f2 b hb).1, w0⟩
 rintro n s3 ⟨i, σ3, H3, I3, st3, fr3, w3⟩
 rcases turn i n σ3 H3 w3 with ⟨stop, qn⟩ | ⟨go, N, hN, step⟩
 ·refine wpAny_passesOwn hp (thn (T.done X rfl rfl rfl hc i pins s3 σ3 H3 X.xe I3 (stat fr3) st3 stop) fun r s4 ⟨hr, I4⟩ => ?_)
  subst hr
  exact wpAny_execs_nil ⟨σ3, H3, I4, qn⟩
 ·refine wpAny_passesOwn hp (thn (T.item X rfl rfl rfl hc i pins s3 σ3 H3 X.xe I3 (stat fr3) st3 go) fun r s4 ⟨u, hr, h4⟩ => ?_)
  subst hr
  refine wpAny_passesOwn hp (thn h4 fun _ s5 ⟨x, H5, I5, r5, y5, st5, fr5⟩ => ?_)
  have I5' := I5.pinned (stat fr5) (T.obj _ _ st5)
  refine wpAny_passesOwn hp (thn (hg _ s5 σ3 H5 x u _ I5' r5 (step x H5 y5)) fun _ s6 ⟨σ6, H6, I6, q6⟩ => ?_)
  refine wpAny_passesOwn hp (thn (hb _ s6 σ6 H6 _ I6 q6) fun f s7 q7 => ?_)
  have again : ∀ {σ7 : St} {H7 : Hp}, Inv X (pins ++ Ip fp s5.heap) σ7 H7 s7 -> N σ7 H7 -> ∃ m, m < n /\ ∃ i σ' H', Inv X pins σ' H' s7 /\ tn i s7.heap /\ (∀ b ∈ fp, H' b = none) /\ W i m σ' H' := fun {σ7 H7} I7 n7 => by
   obtain ⟨m', hm, w7⟩ := hN σ7 H7 n7
   refine ⟨m', hm, i + 1, σ7, H7, I7.unpinned, T.keep _ _ _ st5 fun b hb o e => (I7.pin (b, o) (List.mem_append_right _ (List.mem_append_right _ (FQ hb e)))).1, fun b hb => ?_, w7⟩
   obtain ⟨o, e, d⟩ := T.obj _ _ st5 b hb
   exact (I7.pin (b, o) (List.mem_append_right _ (List.mem_append_right _ (FQ hb e)))).2.1
  cases f with
  | next => obtain ⟨σ7, H7, I7, n7⟩ := q7; exact again I7 n7
  | cont => obtain ⟨σ7, H7, I7, n7⟩ := q7; exact again I7 n7
  | brk => obtain ⟨σ7, H7, I7, q7⟩ := q7; exact ⟨σ7, H7, I7.unpinned, q7⟩
  | ret v => obtain ⟨x7, σ7, H7, I7, r7, q7⟩ := q7; exact ⟨x7, σ7, H7, I7.unpinned, r7, q7⟩
end
theorem RV {K : PySem.W.Frag} {a : Addr} {xs : List V} {g : TG} {tb : TS} {D : Lj} {σ : St} {H : Hp} (Pv : Nat -> St -> Hp -> Prop) (h0 : Pv 0 σ H) (hl : ∀ i σ H, i <= xs.length -> Pv i σ H -> SqL K H a xs)
  (hs : ∀ i x σ H, xs[i]? = some x -> Pv i σ H -> g x σ H fun σ2 H2 => tb { D with nx := Pv (i + 1), ct := Pv (i + 1), bk := D.nx } σ2 H2) (hd : ∀ σ H, Pv xs.length σ H -> D.nx σ H) :
  ∃ W : Nat -> Nat -> St -> Hp -> Prop, (∃ m, W 0 m σ H) /\ ∀ i m σ H, W i m σ H ->
   ((Itl K a).stop i H /\ D.nx σ H) \/ ((Itl K a).go i H /\ ∃ N : St -> Hp -> Prop, (∀ σ' H', N σ' H' -> ∃ m', m' < m /\ W (i + 1) m' σ' H') /\ ∀ x H', (Itl K a).yld i H x H' -> g x σ H' fun σ2 H2 => tb { D with nx := N, ct := N, bk := D.nx } σ2 H2) := by
 refine ⟨fun i m σ H => m = xs.length - i /\ i <= xs.length /\ Pv i σ H, ⟨xs.length, by simp, Nat.zero_le _, h0⟩, ?_⟩
 rintro i m σ H ⟨rfl, hi, p⟩
 have q := hl i σ H hi p
 by_cases hlt : i < xs.length
 ·refine .inr ⟨⟨xs, xs[i], q, by simp [hlt]⟩, Pv (i + 1), fun σ' H' p' => ⟨xs.length - (i + 1), by lia, rfl, hlt, p'⟩, fun x H' y => ?_⟩
  obtain ⟨e, y⟩ := y
  subst e
  exact hs i x σ _ (y xs q) p
 ·have e : i = xs.length := by lia
  subst e
  exact .inl ⟨⟨xs, q, Nat.le_refl _⟩, hd σ H p⟩
theorem for_tup {K : PySem.W.Frag} {a : Addr} {xs : List V} {g : TG} {tb : TS} {D : Lj} {σ : St} {H : Hp} (Pv : Nat -> St -> Hp -> Prop) (h0 : Pv 0 σ H) (hl : ∀ i σ H, i <= xs.length -> Pv i σ H -> SqT K H a xs)
  (hs : ∀ i x σ H, xs[i]? = some x -> Pv i σ H -> g x σ H fun σ2 H2 => tb { D with nx := Pv (i + 1), ct := Pv (i + 1), bk := D.nx } σ2 H2) (hd : ∀ σ H, Pv xs.length σ H -> D.nx σ H) :
  ∃ W : Nat -> Nat -> St -> Hp -> Prop, (∃ m, W 0 m σ H) /\ ∀ i m σ H, W i m σ H ->
   ((Itt K a).stop i H /\ D.nx σ H) \/ ((Itt K a).go i H /\ ∃ N : St -> Hp -> Prop, (∀ σ' H', N σ' H' -> ∃ m', m' < m /\ W (i + 1) m' σ' H') /\ ∀ x H', (Itt K a).yld i H x H' -> g x σ H' fun σ2 H2 => tb { D with nx := N, ct := N, bk := D.nx } σ2 H2) := by
 refine ⟨fun i m σ H => m = xs.length - i /\ i <= xs.length /\ Pv i σ H, ⟨xs.length, by simp, Nat.zero_le _, h0⟩, ?_⟩
 rintro i m σ H ⟨rfl, hi, p⟩
 have q := hl i σ H hi p
 by_cases hlt : i < xs.length
 ·refine .inr ⟨⟨xs, xs[i], q, by simp [hlt]⟩, Pv (i + 1), fun σ' H' p' => ⟨xs.length - (i + 1), by lia, rfl, hlt, p'⟩, fun x H' y => ?_⟩
  obtain ⟨e, y⟩ := y
  subst e
  exact hs i x σ _ (y xs q) p
 ·have e : i = xs.length := by lia
  subst e
  exact .inl ⟨⟨xs, q, Nat.le_refl _⟩, hd σ H p⟩
theorem Dx {lo : Int} {n : Nat} {g : TG} {tb : TS} {D : Lj} {σ : St} {H : Hp} (Pv : Nat -> St -> Hp -> Prop) (h0 : Pv 0 σ H)
  (hs : ∀ i σ H, i < n -> Pv i σ H -> g (.int (lo + i)) σ H fun σ2 H2 => tb { D with nx := Pv (i + 1), ct := Pv (i + 1), bk := D.nx } σ2 H2) (hd : ∀ σ H, Pv n σ H -> D.nx σ H) :
  ∃ W : Nat -> Nat -> St -> Hp -> Prop, (∃ m, W 0 m σ H) /\ ∀ i m σ H, W i m σ H ->
   ((Itr lo n).stop i H /\ D.nx σ H) \/ ((Itr lo n).go i H /\ ∃ N : St -> Hp -> Prop, (∀ σ' H', N σ' H' -> ∃ m', m' < m /\ W (i + 1) m' σ' H') /\ ∀ x H', (Itr lo n).yld i H x H' -> g x σ H' fun σ2 H2 => tb { D with nx := N, ct := N, bk := D.nx } σ2 H2) := by
 refine ⟨fun i m σ H => m = n - i /\ i <= n /\ Pv i σ H, ⟨n, by simp, Nat.zero_le _, h0⟩, ?_⟩
 rintro i m σ H ⟨rfl, hi, p⟩
 by_cases hlt : i < n
 ·refine .inr ⟨hlt, Pv (i + 1), fun σ' H' p' => ⟨n - (i + 1), by lia, rfl, hlt, p'⟩, fun x H' y => ?_⟩
  obtain ⟨e, y⟩ := y
  subst e y
  exact hs i σ _ hlt p
 ·have e : i = n := by lia
  subst e
  exact .inl ⟨Nat.le_refl _, hd σ H p⟩
end L2
namespace L2
open PySem PySem.Spec PyProof.Rows
abbrev R2 := V -> V -> Hp -> VK -> Prop
def OpR (X : Cx) (f : Value -> Value -> Sem Value) (r : R2) : Prop :=
 ∀ (pins : List (Addr × Obj)) (s : Shared) (σ : St) (H : Hp) (x y : V) (v u : Value) (Q : VK), Inv X pins σ H s -> Bb x v -> Bb y u -> r x y H Q ->
  wpAny (model X.prog X.w) X.A (f v u) (EP X pins σ Q) X.xe s
def UnR (X : Cx) (f : Value -> Sem Value) (r : V -> Hp -> VK -> Prop) : Prop :=
 ∀ (pins : List (Addr × Obj)) (s : Shared) (σ : St) (H : Hp) (x : V) (v : Value) (Q : VK), Inv X pins σ H s -> Bb x v -> r x H Q ->
  wpAny (model X.prog X.w) X.A (f v) (EP X pins σ Q) X.xe s
def Go (X : Cx) (f : Value) (r : List V -> Hp -> VK -> Prop) : Prop :=
 ∀ (pins : List (Addr × Obj)) (s : Shared) (σ : St) (H : Hp) (xs : List V) (us : List Value) (Q : VK), Inv X pins σ H s -> Ba xs us -> r xs H Q ->
  wpAny (model X.prog X.w) X.A (call f us) (EP X pins σ Q) X.xe s
def tOp (r : R2) (ta tb : TE) : TE := fun σ H Q => ta σ H fun x H1 => tb σ H1 fun y H2 => r x y H2 Q
def tUn (r : V -> Hp -> VK -> Prop) (ta : TE) : TE := fun σ H Q => ta σ H fun x H1 => r x H1 Q
def rI (C : Int -> Int -> Prop) (g : Int -> Int -> V) : R2 := fun x y H Q => ∃ i j, x = .int i /\ y = .int j /\ C i j /\ Q (g i j) H
def rI0 (g : Int -> Int -> V) : R2 := fun x y H Q => ∃ i j, x = .int i /\ y = .int j /\ Q (g i j) H
def rU (g : Int -> V) : V -> Hp -> VK -> Prop := fun x H Q => ∃ i, x = .int i /\ Q (g i) H
section
variable {X : Cx} {a b c : Expr} {ta tb tc : TE} {pos : Pos}
theorem binT (ha : PE X a ta) (hb : PE X b tb) {pins : List (Addr × Obj)} {s : Shared} {σ : St} {H : Hp} {R : V -> V -> Hp -> Prop} (I : Inv X pins σ H s)
  (h : ta σ H fun x H1 => tb σ H1 fun y H2 => R x y H2) {Q : Value -> Shared -> Prop} {f : Value -> Value -> Sem Value}
  (hf : ∀ v u s2 x y H2, Inv X pins σ H2 s2 -> Bb x v -> Bb y u -> R x y H2 -> wpAny (model X.prog X.w) X.A (f v u) Q X.xe s2) :
  wpAny (model X.prog X.w) X.A (eval a X.env) (fun v s₁ => wpAny (model X.prog X.w) X.A (eval b X.env) (fun u s₂ => wpAny (model X.prog X.w) X.A (f v u) Q X.xe s₂) X.xe s₁) X.xe s := by
 refine thn (ha pins s σ H _ I h) fun v s1 ⟨x, H1, I1, r1, q1⟩ => ?_
 refine thn (hb pins s1 σ H1 _ I1 q1) fun u s2 ⟨y, H2, I2, r2, q2⟩ => ?_
 exact hf v u s2 x y H2 I2 r1 r2 q2
theorem Aq {op : Operator} {r : R2} (ho : OpR X (binaryOp op) r) (ha : PE X a ta) (hb : PE X b tb) : PE X (.BinOp a op b pos) (tOp r ta tb) := by
 intro pins s σ H Q I h
 exact wpAny_BinOp (binT ha hb I h fun v u s2 x y H2 I2 rx ry q => ho pins s2 σ H2 x y v u Q I2 rx ry q)
theorem En {op : UnaryOp} {r : V -> Hp -> VK -> Prop} (ho : UnR X (unaryOp op) r) (ha : PE X a ta) : PE X (.UnaryOp op a pos) (tUn r ta) := by
 intro pins s σ H Q I h
 exact UnaryOp_ (thn (ha pins s σ H _ I h) fun v s1 ⟨x, H1, I1, r1, q1⟩ => ho pins s1 σ H1 x v Q I1 r1 q1)
theorem opI {f : Value -> Value -> Sem Value} {C : Int -> Int -> Prop} {g : Int -> Int -> Int}
  (rule : ∀ (i j : Int) (t u : Tok) (s : Shared) (Q : Value -> Shared -> Prop) (E : Value -> Shared -> Prop), C i j -> Q (.int (g i j) s.toks) { s with toks := s.toks + 1 } -> wpAny (model X.prog X.w) X.A (f (.int i t) (.int j u)) Q E s) :
  OpR X f (rI C fun i j => .int (g i j)) := by
 intro pins s σ H x y v u Q I rx ry h
 obtain ⟨i, j, rfl, rfl, hc, q⟩ := h
 obtain ⟨t, rfl⟩ := rx
 obtain ⟨t', rfl⟩ := ry
 exact rule i j t t' s _ _ hc ⟨.int (g i j), H, I.tok _, ⟨_, rfl⟩, q⟩
theorem opI0 {f : Value -> Value -> Sem Value} {g : Int -> Int -> Int}
  (rule : ∀ (i j : Int) (t u : Tok) (s : Shared) (Q : Value -> Shared -> Prop) (E : Value -> Shared -> Prop), Q (.int (g i j) s.toks) { s with toks := s.toks + 1 } -> wpAny (model X.prog X.w) X.A (f (.int i t) (.int j u)) Q E s) :
  OpR X f (rI0 fun i j => .int (g i j)) := by
 intro pins s σ H x y v u Q I rx ry h
 obtain ⟨i, j, rfl, rfl, q⟩ := h
 obtain ⟨t, rfl⟩ := rx
 obtain ⟨t', rfl⟩ := ry
 exact rule i j t t' s _ _ ⟨.int (g i j), H, I.tok _, ⟨_, rfl⟩, q⟩
theorem opB0 {f : Value -> Value -> Sem Value} {g : Int -> Int -> Bool}
  (rule : ∀ (i j : Int) (t u : Tok) (s : Shared) (Q : Value -> Shared -> Prop) (E : Value -> Shared -> Prop), Q (.bool (g i j)) s -> wpAny (model X.prog X.w) X.A (f (.int i t) (.int j u)) Q E s) :
  OpR X f (rI0 fun i j => .bl (g i j)) := by
 intro pins s σ H x y v u Q I rx ry h
 obtain ⟨i, j, rfl, rfl, q⟩ := h
 obtain ⟨t, rfl⟩ := rx
 obtain ⟨t', rfl⟩ := ry
 exact rule i j t t' s _ _ ⟨.bl (g i j), H, I, rfl, q⟩
def CDiv (i j : Int) : Prop := 0 < j /\ j < 1073741824
def CPow (i j : Int) : Prop := 0 <= j /\ j <= 1000000 /\ i.natAbs < 2 ^ 64
def CMul (i j : Int) : Prop := (-(2 ^ 64) < i /\ i < 2 ^ 64) \/ (-(2 ^ 64) < j /\ j < 2 ^ 64)
theorem CMul.ok {i j : Int} (h : CMul i j) : IntMulOk i j := by
 rcases h with ⟨h1, h2⟩ | ⟨h1, h2⟩
 ·exact .of_left (intBits_le_64 h1 h2)
 ·exact .of_right (intBits_le_64 h1 h2)
theorem AI : OpR X (binaryOp .Add) (rI0 fun i j => .int (i + j)) := opI0 fun _ _ _ _ _ _ _ q => add_int q
theorem AV : OpR X (binaryOp .Sub) (rI0 fun i j => .int (i - j)) := opI0 fun _ _ _ _ _ _ _ q => sub_int q
theorem Ez : OpR X (binaryOp .Mult) (rI CMul fun i j => .int (i * j)) := opI fun _ _ _ _ _ _ _ hc q => mul_int q hc.ok
theorem Bw : OpR X (binaryOp .FloorDiv) (rI CDiv fun i j => .int (i / j)) := opI fun i j _ _ _ _ _ hc q => by
 have h1 : (0 : Int) < j := hc.1
 have h2 : j < 1073741824 := hc.2
 exact floordiv_int (by lia) (by rw [Int.fdiv_eq_ediv_of_nonneg i (by lia)]; exact q) (.inl (PyProof.noPylong_small (by lia)))
theorem Bl : OpR X (binaryOp .Mod) (rI (fun _ j => 0 < j) fun i j => .int (i % j)) := opI fun i j _ _ _ _ _ hc q => by
 have h1 : (0 : Int) < j := hc
 exact mod_int' (by lia) (by rw [Int.fmod_eq_emod_of_nonneg i (by lia)]; exact q)
theorem LW : OpR X (binaryOp .Pow) (rI CPow fun i j => .int (i ^ j.toNat)) := opI fun _ _ _ _ _ _ _ hc q => pow_int_small hc.1 hc.2.1 hc.2.2 q
theorem GL : OpR X (binaryOp .LShift) (rI CPow fun i j => .int (i * 2 ^ j.toNat)) := opI fun _ _ _ _ _ _ _ hc q => lshift_int_small hc.1 hc.2.1 hc.2.2 q
theorem unI {f : Value -> Sem Value} {g : Int -> Int}
  (rule : ∀ (i : Int) (t : Tok) (s : Shared) (Q : Value -> Shared -> Prop) (E : Value -> Shared -> Prop), Q (.int (g i) s.toks) { s with toks := s.toks + 1 } -> wpAny (model X.prog X.w) X.A (f (.int i t)) Q E s) :
  UnR X f (rU fun i => .int (g i)) := by
 intro pins s σ H x v Q I rx h
 obtain ⟨i, rfl, q⟩ := h
 obtain ⟨t, rfl⟩ := rx
 exact rule i t s _ _ ⟨.int (g i), H, I.tok _, ⟨_, rfl⟩, q⟩
theorem CG : UnR X (unaryOp .USub) (rU fun i => .int (-i)) := unI fun _ _ _ _ _ q => neg_int q
end
def scal : V -> V -> Bool
 | .non, .non => true | .non, .int _ => true | .int _, .non => true | .non, .bl _ => true | .bl _, .non => true | .non, .str _ => true | .str _, .non => true
 | .int _, .int _ => true | .bl _, .bl _ => true | .str _, .str _ => true | .byt _, .byt _ => true
 | .int _, .str _ => true | .str _, .int _ => true | .bl _, .str _ => true | .str _, .bl _ => true
 | _, _ => false
def rEq : R2 := fun x y H Q => scal x y = true /\ Q (.bl (decide (x = y))) H
def rNe : R2 := fun x y H Q => scal x y = true /\ Q (.bl (!decide (x = y))) H
theorem Pj {i j : Int} : decide (V.int i = V.int j) = (i == j) := by
 rw [Bool.eq_iff_iff]
 simp
theorem Sd {i j : Bool} : decide (V.bl i = V.bl j) = (i == j) := by
 rw [Bool.eq_iff_iff]
 simp
theorem Pi {i j : Str} : decide (V.str i = V.str j) = (i == j) := by
 rw [Bool.eq_iff_iff]
 simp
theorem Pk {i j : Array UInt8} : decide (V.byt i = V.byt j) = (i.toList == j.toList) := by
 rw [Bool.eq_iff_iff]
 cases i
 cases j
 simp
section
variable {X : Cx} {a b c : Expr} {ta tb tc : TE} {pos : Pos}
theorem AZ {pins : List (Addr × Obj)} {σ : St} {H : Hp} {s : Shared} {Q : VK} {k k' : Bool} (I : Inv X pins σ H s) (q : Q (.bl k) H) (e : k = k') : EP X pins σ Q (.bool k') s := by
 subst e
 exact ⟨.bl k, H, I, rfl, q⟩
theorem FD : OpR X (compareOp .Eq) rEq := by
 intro pins s σ H x y v u Q I rx ry h
 obtain ⟨hs, q⟩ := h
 cases x with
 | non =>
  cases rx
  cases y with
  | non => cases ry; exact PySem.EqNone.eq_none_none (AZ I q (by simp))
  | bl j => cases ry; exact PySem.EqNone.eq_none_bool (AZ I q (by simp))
  | int j => obtain ⟨t', rfl⟩ := ry; exact PySem.EqNone.eq_none_int (AZ I q (by simp))
  | str j => obtain ⟨t', rfl⟩ := ry; exact PySem.EqNone.eq_none_str (AZ I q (by simp))
  | _ => exact absurd (show false = true from hs) Bool.false_ne_true
 | bl i =>
  cases rx
  cases y with
  | non => cases ry; exact PySem.EqNone.eq_bool_none (AZ I q (by simp))
  | bl j => cases ry; exact eq_bool (AZ I q Sd)
  | str j => obtain ⟨t', rfl⟩ := ry; exact PySem.EqMixed.eq_bool_str (AZ I q (by simp))
  | _ => exact absurd (show false = true from hs) Bool.false_ne_true
 | int i =>
  obtain ⟨t, rfl⟩ := rx
  cases y with
  | non => cases ry; exact PySem.EqNone.eq_int_none (AZ I q (by simp))
  | int j => obtain ⟨t', rfl⟩ := ry; exact eq_int (AZ I q Pj)
  | str j => obtain ⟨t', rfl⟩ := ry; exact PySem.EqMixed.eq_int_str (AZ I q (by simp))
  | _ => exact absurd (show false = true from hs) Bool.false_ne_true
 | str i =>
  obtain ⟨t, rfl⟩ := rx
  cases y with
  | non => cases ry; exact PySem.EqNone.eq_str_none (AZ I q (by simp))
  | bl j => cases ry; exact PySem.EqMixed.eq_str_bool (AZ I q (by simp))
  | int j => obtain ⟨t', rfl⟩ := ry; exact PySem.EqMixed.eq_str_int (AZ I q (by simp))
  | str j => obtain ⟨t', rfl⟩ := ry; exact eq_str (AZ I q Pi)
  | _ => exact absurd (show false = true from hs) Bool.false_ne_true
 | byt i =>
  obtain ⟨t, rfl⟩ := rx
  cases y with
  | byt j => obtain ⟨t', rfl⟩ := ry; exact PySem.W.eq_bytes (AZ I q Pk)
  | _ => exact absurd (show false = true from hs) Bool.false_ne_true
 | _ => cases y <;> exact absurd (show false = true from hs) Bool.false_ne_true
theorem Rf : OpR X (compareOp .NotEq) rNe := by
 intro pins s σ H x y v u Q I rx ry h
 obtain ⟨hs, q⟩ := h
 cases x with
 | non =>
  cases rx
  cases y with
  | non => cases ry; exact PySem.EqNone.ne_none_none (AZ I q (by simp))
  | bl j => cases ry; exact PySem.EqNone.ne_none_bool (AZ I q (by simp))
  | int j => obtain ⟨t', rfl⟩ := ry; exact PySem.EqNone.ne_none_int (AZ I q (by simp))
  | str j => obtain ⟨t', rfl⟩ := ry; exact PySem.EqNone.ne_none_str (AZ I q (by simp))
  | _ => exact absurd (show false = true from hs) Bool.false_ne_true
 | bl i =>
  cases rx
  cases y with
  | non => cases ry; exact PySem.EqNone.ne_bool_none (AZ I q (by simp))
  | bl j => cases ry; exact ne_bool (AZ I q (congrArg not Sd))
  | str j => obtain ⟨t', rfl⟩ := ry; exact PySem.EqMixed.ne_bool_str (AZ I q (by simp))
  | _ => exact absurd (show false = true from hs) Bool.false_ne_true
 | int i =>
  obtain ⟨t, rfl⟩ := rx
  cases y with
  | non => cases ry; exact PySem.EqNone.ne_int_none (AZ I q (by simp))
  | int j => obtain ⟨t', rfl⟩ := ry; exact ne_int (AZ I q (congrArg not Pj))
  | str j => obtain ⟨t', rfl⟩ := ry; exact PySem.EqMixed.ne_int_str (AZ I q (by simp))
  | _ => exact absurd (show false = true from hs) Bool.false_ne_true
 | str i =>
  obtain ⟨t, rfl⟩ := rx
  cases y with
  | non => cases ry; exact PySem.EqNone.ne_str_none (AZ I q (by simp))
  | bl j => cases ry; exact PySem.EqMixed.ne_str_bool (AZ I q (by simp))
  | int j => obtain ⟨t', rfl⟩ := ry; exact PySem.EqMixed.ne_str_int (AZ I q (by simp))
  | str j => obtain ⟨t', rfl⟩ := ry; exact ne_str (AZ I q (congrArg not Pi))
  | _ => exact absurd (show false = true from hs) Bool.false_ne_true
 | byt i =>
  obtain ⟨t, rfl⟩ := rx
  cases y with
  | byt j => obtain ⟨t', rfl⟩ := ry; exact PySem.W.ne_bytes (AZ I q (congrArg not Pk))
  | _ => exact absurd (show false = true from hs) Bool.false_ne_true
 | _ => cases y <;> exact absurd (show false = true from hs) Bool.false_ne_true
theorem JH : OpR X (compareOp .Lt) (rI0 fun i j => .bl (decide (i < j))) := opB0 fun _ _ _ _ _ _ _ q => lt_int q
theorem IH : OpR X (compareOp .LtE) (rI0 fun i j => .bl (decide (i <= j))) := opB0 fun _ _ _ _ _ _ _ q => le_int q
theorem Nf : OpR X (compareOp .Gt) (rI0 fun i j => .bl (decide (j < i))) := opB0 fun _ _ _ _ _ _ _ q => gt_int q
theorem op_ge : OpR X (compareOp .GtE) (rI0 fun i j => .bl (decide (j <= i))) := opB0 fun _ _ _ _ _ _ _ q => ge_int q
theorem GM : OpR X (compareOp .Is) (fun x y H Q => y = .non /\ Q (.bl (decide (x = .non))) H) := by
 intro pins s σ H x y v u Q I rx ry h
 obtain ⟨rfl, q⟩ := h
 cases ry
 refine is_none_gen (AZ I q ?_)
 cases x <;> first
  | (cases rx; rfl)
  | (obtain ⟨t, rfl⟩ := rx; rfl)
theorem op_notN : OpR X (compareOp .IsNot) (fun x y H Q => y = .non /\ Q (.bl (!decide (x = .non))) H) := by
 intro pins s σ H x y v u Q I rx ry h
 obtain ⟨rfl, q⟩ := h
 cases ry
 refine isnot_none_gen (AZ I q ?_)
 cases x <;> first
  | (cases rx; rfl)
  | (obtain ⟨t, rfl⟩ := rx; rfl)
theorem AM (b : Expr) {op : CmpOp} (h : op ≠ .In := by decide) (h2 : op ≠ .NotIn := by decide) : behindInMarks op b = false := by
 have e1 : (op == CmpOp.In) = false := by cases op <;> first | rfl | exact absurd rfl h
 have e2 : (op == CmpOp.NotIn) = false := by cases op <;> first | rfl | exact absurd rfl h2
 cases b <;> simp [behindInMarks, e1, e2]
theorem Fh {op : CmpOp} {r : R2} (ho : OpR X (compareOp op) r) (ha : PE X a ta) (hb : PE X b tb) (hm : behindInMarks op b = false) : PE X (.Compare a [op] [b] pos) (tOp r ta tb) := by
 intro pins s σ H Q I h
 exact wpAny_Compare1 (binT ha hb I h fun v u s2 x y H2 I2 rx ry q => ho pins s2 σ H2 x y v u Q I2 rx ry q) hm
def MJ (t : TE) : TT := fun σ H Q => t σ H fun x H' => ∃ k, x = .bl k /\ Q k H'
theorem AL {op : CmpOp} {r : R2} (ho : OpR X (compareOp op) r) (ha : PE X a ta) (hb : PE X b tb) (hm : behindInMarks op b = false) : PT X (.Compare a [op] [b] pos) (MJ (tOp r ta tb)) := by
 intro pins s σ H Q I h
 refine wpAny_isTrue_Compare1 (thn (ha pins s σ H _ I h) fun v s1 ⟨x, H1, I1, r1, q1⟩ => thn (hb pins s1 σ H1 _ I1 q1) fun u s2 ⟨y, H2, I2, r2, q2⟩ =>
  thn (ho pins s2 σ H2 x y v u _ I2 r1 r2 q2) fun c s3 ⟨z, H3, I3, r3, k, e, q3⟩ => ?_) hm
 subst e
 cases r3
 exact wpAny_truthy_bool ⟨H3, I3, q3⟩
def QE (r r' : R2) (ta tb tc : TE) : TE := fun σ H Q => ta σ H fun x H1 => tb σ H1 fun y H2 => r x y H2 fun z H3 => ∃ k, z = .bl k /\
 (if k = true then tc σ H3 fun w' H4 => r' y w' H4 Q else Q (.bl false) H3)
theorem Re {op op' : CmpOp} {r r' : R2} (ho : OpR X (compareOp op) r) (ho' : OpR X (compareOp op') r') (ha : PE X a ta) (hb : PE X b tb) (hc : PE X c tc)
  (hm : lastMarks [op, op'] [b, c] = false := by with_unfolding_all rfl) : PE X (.Compare a [op, op'] [b, c] pos) (QE r r' ta tb tc) := by
 intro pins s σ H Q I h
 refine Compare_chain (thn (ha pins s σ H _ I h) fun v s1 ⟨x, H1, I1, r1, q1⟩ => chain_link (thn (hb pins s1 σ H1 _ I1 q1) fun u s2 ⟨y, H2, I2, r2, q2⟩ =>
  thn (ho pins s2 σ H2 x y v u _ I2 r1 r2 q2) fun d s3 ⟨z, H3, I3, r3, k, e, q3⟩ => ?_)) hm
 subst e
 cases r3
 refine wpAny_truthy_bool ?_
 cases k with
 | false => exact ite_ff ⟨.bl false, H3, I3, rfl, q3⟩
 | true => exact ite_tt (chain_last (thn (hc pins s3 σ H3 _ I3 q3) fun w' s4 ⟨z', H4, I4, r4, q4⟩ => ho' pins s4 σ H4 y z' u w' Q I4 r2 r4 q4))
theorem MY {op op' : CmpOp} {r r' : R2} (ho : OpR X (compareOp op) r) (ho' : OpR X (compareOp op') r') (ha : PE X a ta) (hb : PE X b tb) (hc : PE X c tc)
  (hm : lastMarks [op, op'] [b, c] = false := by with_unfolding_all rfl) : PT X (.Compare a [op, op'] [b, c] pos) (MJ (QE r r' ta tb tc)) := by
 intro pins s σ H Q I h
 refine isTrue_chain (thn (ha pins s σ H _ I h) fun v s1 ⟨x, H1, I1, r1, q1⟩ => test_link (thn (hb pins s1 σ H1 _ I1 q1) fun u s2 ⟨y, H2, I2, r2, q2⟩ =>
  thn (ho pins s2 σ H2 x y v u _ I2 r1 r2 q2) fun d s3 ⟨z, H3, I3, r3, k, e, q3⟩ => ?_)) hm
 subst e
 cases r3
 refine wpAny_truthy_bool ?_
 cases k with
 | false =>
  obtain ⟨k', e', q'⟩ := q3
  cases e'
  exact ite_ff ⟨H3, I3, q'⟩
 | true =>
  refine ite_tt (test_last (thn (hc pins s3 σ H3 _ I3 q3) fun w' s4 ⟨z', H4, I4, r4, q4⟩ => thn (ho' pins s4 σ H4 y z' u w' _ I4 r2 r4 q4) fun d' s5 ⟨z2, H5, I5, r5, k2, e2, q5⟩ => ?_))
  subst e2
  cases r5
  exact wpAny_truthy_bool ⟨H5, I5, q5⟩
theorem Mm : (sizeLine : Nat) < 2 ^ 63 := by rw [sizeLine_eq]; decide
theorem OE {x : V} {us : List Value} (r : Ba [x] us) : ∃ u, us = [u] /\ Bb x u := by
 cases r with
 | cons r1 r2 => cases r2; exact ⟨_, rfl, r1⟩
theorem vals2 {x y : V} {us : List Value} (r : Ba [x, y] us) : ∃ u w', us = [u, w'] /\ Bb x u /\ Bb y w' := by
 cases r with
 | cons r1 r2 =>
  cases r2 with
  | cons r3 r4 => cases r4; exact ⟨_, _, rfl, r1, r3⟩
theorem Gy (hc : X.calm = true) : Go X (.builtin "max") (fun xs H Q => ∃ i j, xs = [.int i, .int j] /\ Q (.int (if j > i then j else i)) H) := by
 intro pins s σ H xs us Q I r h
 obtain ⟨i, j, rfl, q⟩ := h
 obtain ⟨u, w', rfl, ⟨t, rfl⟩, ⟨t', rfl⟩⟩ := vals2 r
 refine max_two_ints (I.ok.hd hc) fun h' tk k => ⟨_, H, I.kept k, ?_, q⟩
 by_cases hj : j > i
 ·rw [if_pos hj, if_pos hj]; exact ⟨_, rfl⟩
 ·rw [if_neg hj, if_neg hj]; exact ⟨_, rfl⟩
theorem FG (hc : X.calm = true) : Go X (.builtin "min") (fun xs H Q => ∃ i j, xs = [.int i, .int j] /\ Q (.int (if j < i then j else i)) H) := by
 intro pins s σ H xs us Q I r h
 obtain ⟨i, j, rfl, q⟩ := h
 obtain ⟨u, w', rfl, ⟨t, rfl⟩, ⟨t', rfl⟩⟩ := vals2 r
 refine min_two_ints (I.ok.hd hc) fun h' tk k => ⟨_, H, I.kept k, ?_, q⟩
 by_cases hj : j < i
 ·rw [if_pos hj, if_pos hj]; exact ⟨_, rfl⟩
 ·rw [if_neg hj, if_neg hj]; exact ⟨_, rfl⟩
end
end L2
namespace L2
open PySem PySem.Spec PyProof.Rows
structure Oz (h : Heap) (x dx C : Addr) (mA : Str -> Option Value) : Prop where
 obj : h.get? x = some (PySem.W.instObj C dx)
 ns : h.Ns1 dx mA
 ne : dx ≠ x
theorem Qc {h : Heap} {dx : Addr} {mA : Str -> Option Value} (n : h.Ns1 dx mA) : ∃ od, h.get? dx = some od /\ ∀ name, PySem.W.lookIn name od = some (mA name) := by
 obtain ⟨o, es, ep, ho, hd, hk, _, hm⟩ := n
 refine ⟨o, ho, fun name => ?_⟩
 have e := hm name
 unfold nsFind findBy at e
 rw [<- Array.find?_toList] at e
 unfold PySem.W.lookIn
 rw [hd]
 dsimp only
 split
 ·rename_i y q
  rw [q] at e
  exact congrArg some e
 ·rename_i q
  rw [q] at e
  have a : es.toList.any (·.refKey) = false := by
   rw [List.any_eq_false]
   intro y hy
   obtain ⟨z, t, hkey⟩ := hk y (Array.mem_toList_iff.mp hy)
   simp [DictEntry.refKey, hkey]
  have a' : ¬ es.toList.any (·.refKey) = true := by rw [a]; exact Bool.false_ne_true
  rw [if_neg a']
  exact congrArg some e
theorem Oz.look {h : Heap} {x dx C : Addr} {mA : Str -> Option Value} (I : Oz h x dx C mA) : ∃ od, PySem.W.InstAt h x (PySem.W.instObj C dx) C (some od) /\ ∀ name, PySem.W.lookIn name od = some (mA name) :=
 let ⟨od, ho, hl⟩ := Qc I.ns
 ⟨od, ⟨I.obj, rfl, rfl, ho⟩, hl⟩
section
variable {prog : Program} {w : World} {A : Around} {E : Value -> Shared -> Prop} {s : Shared} {K : PySem.W.Frag} {x dx C f : Addr} {mA : Str -> Option Value} {name : Str} {v : Value}
theorem get_map {expr : Bool} {Q : Value -> Shared -> Prop} (X : K.In s.heap) (I : Oz s.heap x dx C mA) (hg : PySem.W.plainGet K C name = true) (hh : PySem.W.hasDictIn K C = true)
  (ha : PySem.W.findIn K (.ref C) name = some none) (hv : mA name = some v) (hv' : PySem.W.handedIn v = true) (h : Q v { s with toks := s.toks + 1 }) :
  wpAny (model prog w) A (getAttr (.ref x) name expr) Q E s := by
 obtain ⟨od, J, hl⟩ := I.look
 exact PySem.W.get_value X J (PySem.W.plainGet_of hg).1 (PySem.W.findObj_own hh ha rfl (by rw [hl, hv])) hv' h
theorem RQ {pl : Sem Bool} {Q : Value × List Value -> Shared -> Prop} (X : K.In s.heap) (I : Oz s.heap x dx C mA) (hg : PySem.W.plainGet K C name = true)
  (hf : PySem.W.findIn K (.ref C) name = some (some (.ref f))) (ht : PySem.W.isFn K (.ref f) = true) (hv : mA name = none) (h : Q (.ref f, [.ref x]) s) :
  wpAny (model prog w) A (getMethod (.ref x) name pl) Q E s := by
 obtain ⟨od, J, hl⟩ := I.look
 exact PySem.W.method_fn X J (PySem.W.plainGet_of hg).1 (PySem.W.plainGet_of hg).2 hf (beq_iff_eq.mp ht) (by show (PySem.W.lookIn name od).map (·.isSome) = some false; rw [hl, hv]; rfl) h
theorem set_map {ns : List Str} {Q : Unit -> Shared -> Prop} (X : K.In s.heap) (I : Oz s.heap x dx C mA)
  (hs : PySem.W.findIn K (.ref C) "__setattr__" = some (some (.builtin "object.__setattr__"))) (hp : PySem.W.plainOver K C = true) (ht : PySem.W.takerIn K C name = some none) (hh : PySem.W.hasDictIn K C = true)
  (hw : PySem.Within mA ns) (hsz : ns.length <= sizeLine)
  (h : ∀ h', Oz h' x dx C (fun y => if y = name then some v else mA y) -> Heap.SameBut dx s.heap h' -> Q () { s with heap := h', toks := s.toks + 2 }) :
  wpAny (model prog w) A (setAttr (.ref x) name v) Q E s := by
 obtain ⟨od, J, hl⟩ := I.look
 refine PySem.W.set_plain X J hs (PySem.W.osa_open (s := { s with toks := s.toks + 1 }) (r := none) X J hp ht fun b => ?_)
 obtain ⟨cd, hc, hd'⟩ := PySem.W.any_some hh
 have hx : s.heap.get? x = some ⟨.ref C, some dx, .plain, #[]⟩ := I.obj
 refine wpAny_bind (wpAny_pure (wpAny_bind (wpAny_bind (wpAny_loadPart hx (wpAny_bind (PySem.W.Looks.here (s := { s with toks := s.toks + 1 }) (PySem.W.looks_clsIn X hc) ?_))))))
 rw [hd']
 refine wpAny_pure (a := some dx) (wpAny_bind (wpAny_pure (wpAny_bind ?_)))
 refine wpAny_nsSet1 (s := { s with toks := s.toks + 1 }) I.ns fun h' hn2 hs2 => ?_
 obtain ⟨oD, esD, epD, hoD, hdD, hcD⟩ := hn2.count (PySem.Within.cons name v hw)
 refine wpAny_bind (wpAny_lookBehind hoD (by rw [hdD]; exact pastItsLine_dict (Nat.le_trans hcD (by rw [List.length_cons]; lia))) ?_)
 exact wpAny_pure (h _ ⟨(hs2.2 _ (Ne.symm I.ne)).trans I.obj, hn2, I.ne⟩ hs2)
theorem RE {R : Result -> Shared -> Prop} {vs : List Value} {kw : List (Str × Value)} (X : K.In s.heap) (hm : PySem.W.makesIn K C = true)
  (hi : PySem.W.findIn K (.ref C) "__init__" = some (some (.ref f))) (hf : PySem.W.typeIn K (.ref f) = some (.type "function"))
  (h : codeAny (model prog w) (A.under (.builtin "type.__call__" ⟨.ref C :: vs, kw⟩)) (.call (.ref f) ⟨.ref (s.heap.objs.size + 1) :: vs, kw⟩) (PySem.W.InitBack (s.heap.objs.size + 1) R)
   { s with heap := (s.heap.push PySem.W.emptyDict).push (PySem.W.instObj C s.heap.objs.size) }) :
  codeAny (model prog w) A (.call (.ref C) ⟨vs, kw⟩) R s := by
 obtain ⟨hh, g, d, t, os⟩ := s
 exact PySem.W.make_core (PySem.W.makes_of X hm) (PySem.W.looks_findIn X hi) (fun self => PySem.W.bind_fn X self hf) (.inl rfl) h
end
def BB (f : Str) (v : V) : List (Str × V) -> List (Str × V)
 | [] => [(f, v)]
 | (g, x) :: r => if g = f then (g, v) :: r else (g, x) :: BB f v r
theorem Ay (f g : Str) (v : V) : ∀ fs : List (Str × V), (BB f v fs).lookup g = if g = f then some v else fs.lookup g
 | [] => by
  show List.lookup g [(f, v)] = _
  by_cases h : g = f
  ·have hb : (g == f) = true := beq_iff_eq.mpr h
   simp only [List.lookup, hb, if_pos h]
  ·have hb : (g == f) = false := beq_eq_false_iff_ne.mpr h
   simp only [List.lookup, hb, if_neg h]
 | (k, x) :: r => by
  have ih := Ay f g v r
  rw [show BB f v ((k, x) :: r) = (if k = f then (k, v) :: r else (k, x) :: BB f v r) from rfl]
  by_cases hk : k = f
  ·rw [if_pos hk]
   by_cases h : g = k
   ·have hb : (g == k) = true := beq_iff_eq.mpr h
    simp only [List.lookup, hb, if_pos (h.trans hk)]
   ·have hb : (g == k) = false := beq_eq_false_iff_ne.mpr h
    simp only [List.lookup, hb, if_neg (fun e : g = f => h (e.trans hk.symm))]
  ·rw [if_neg hk]
   by_cases h : g = k
   ·have hb : (g == k) = true := beq_iff_eq.mpr h
    simp only [List.lookup, hb, if_neg (fun e : g = f => hk (h.symm.trans e))]
   ·have hb : (g == k) = false := beq_eq_false_iff_ne.mpr h
    simp only [List.lookup, hb]
    exact ih
theorem IA (f : Str) (v : V) : ∀ fs : List (Str × V), f ∈ (BB f v fs).map (·.1) /\ ∀ g, g ∈ fs.map (·.1) -> g ∈ (BB f v fs).map (·.1)
 | [] => ⟨by simp [BB], fun g h => by simp at h⟩
 | (k, x) :: r => by
  obtain ⟨i1, i2⟩ := IA f v r
  rw [show BB f v ((k, x) :: r) = (if k = f then (k, v) :: r else (k, x) :: BB f v r) from rfl]
  by_cases hk : k = f
  ·rw [if_pos hk]
   subst hk
   exact ⟨by simp, fun g h => by simpa using h⟩
  ·rw [if_neg hk]
   refine ⟨?_, fun g h => ?_⟩
   ·rw [List.map_cons]
    exact List.mem_cons_of_mem _ i1
   ·rw [List.map_cons] at h ⊢
    rcases List.mem_cons.mp h with e | e
    ·exact List.mem_cons.mpr (.inl e)
    ·exact List.mem_cons_of_mem _ (i2 g e)
theorem IJ (f : Str) (v : V) : ∀ fs : List (Str × V), (BB f v fs).length <= fs.length + 1
 | [] => by simp [BB]
 | (k, x) :: r => by
  have ih := IJ f v r
  rw [show BB f v ((k, x) :: r) = (if k = f then (k, v) :: r else (k, x) :: BB f v r) from rfl]
  by_cases hk : k = f
  ·rw [if_pos hk, List.length_cons, List.length_cons]; lia
  ·rw [if_neg hk, List.length_cons, List.length_cons]; lia
theorem FT.some_of {v : V} {o : Option Value} (r : FT (some v) o) : ∃ u, o = some u /\ Bb v u := by
 cases o with
 | none => exact (show False from r).elim
 | some u => exact ⟨u, rfl, r⟩
theorem FT.none_of {o : Option Value} (r : FT none o) : o = none := by
 cases o with
 | none => rfl
 | some u => exact (show False from r).elim
theorem Ql {v : V} {u : Value} (r : Bb v u) : PySem.W.handedIn u = true := by
 cases v with
 | non => cases (show u = Value.none from r); rfl
 | bl b => cases (show u = Value.bool b from r); rfl
 | int i => obtain ⟨t, e⟩ := (show ∃ t, u = Value.int i t from r); cases e; rfl
 | str x => obtain ⟨t, e⟩ := (show ∃ t, u = Value.str x t from r); cases e; rfl
 | byt b => obtain ⟨t, e⟩ := (show ∃ t, u = Value.bytes b t from r); cases e; rfl
 | flt b => obtain ⟨t, e⟩ := (show ∃ t, u = Value.float b t from r); cases e; rfl
 | ref a => cases (show u = Value.ref a from r); rfl
 | ty n => cases (show u = Value.type n from r); rfl
section
variable {P : Program} {w : World} {H H' : Hp} {h h' : Heap} {a C dx : Addr} {fs fs' : List (Str × V)}
theorem Jj (hok : HOk P w H h) (e : H a = some (.ins C dx fs)) : ∃ mA, Oz h a dx C mA /\ (∀ f, FT (fs.lookup f) (mA f)) /\ PySem.Within mA (fs.map (·.1)) /\ fs.length <= 1000 /\ H dx = some (.own a) := by
 obtain ⟨d, z, ne, ob, mA, n, r, q⟩ := (show Bm P w H h a (.ins C dx fs) from hok a _ e)
 exact ⟨mA, ⟨ob, n, ne⟩, r, q, z, d⟩
end
structure Cls (K : PySem.W.Frag) (C : Addr) : Prop where
 pg : PySem.W.plainGet K C Str.empty = true
 hd : PySem.W.hasDictIn K C = true
 po : PySem.W.plainOver K C = true
 sa : PySem.W.findIn K (.ref C) "__setattr__" = some (some (.builtin "object.__setattr__"))
theorem Cls.get {K : PySem.W.Frag} {C : Addr} (c : Cls K C) (f : Str) : PySem.W.plainGet K C f = true := c.pg
def EB (K : PySem.W.Frag) (C : Addr) (f : Str) : Prop := PySem.W.findIn K (.ref C) f = some none
theorem EB.taker {K : PySem.W.Frag} {C : Addr} {f : Str} (n : EB K C f) : PySem.W.takerIn K C f = some none := by
 unfold PySem.W.takerIn
 rw [show PySem.W.findIn K (.ref C) f = some none from n]
 rfl
structure GF (K : PySem.W.Frag) (C : Addr) (m : Str) (f : Addr) : Prop where
 at_ : PySem.W.findIn K (.ref C) m = some (some (.ref f))
 fn : PySem.W.isFn K (.ref f) = true
 kp : PySem.W.keepIn K (.ref f) = true
section
variable {X : Cx} {pins : List (Addr × Obj)} {σ : St} {H : Hp} {s : Shared} {a C dx : Addr} {fs : List (Str × V)} {f : Str} {v : V} {A : Around} {E : Value -> Shared -> Prop}
theorem Oq {b : Bool} {Q : Value -> Shared -> Prop} (I : Inv X pins σ H s) (e : H a = some (.ins C dx fs)) (c : Cls X.K C) (n : EB X.K C f) (l : fs.lookup f = some v)
  (h : ∀ u s', Inv X pins σ H s' -> Bb v u -> Q u s') : wpAny (model X.prog X.w) A (getAttr (.ref a) f b) Q E s := by
 obtain ⟨mA, O, r, _, _, _⟩ := Jj I.hok e
 obtain ⟨u, hu, ru⟩ := FT.some_of (v := v) (o := mA f) (by rw [<- l]; exact r f)
 exact get_map I.kIn O (c.get f) c.hd n hu (Ql ru) (h u _ (I.tok _) ru)
theorem Op {m : Str} {g : Addr} {pl : Sem Bool} {Q : Value × List Value -> Shared -> Prop} (I : Inv X pins σ H s) (e : H a = some (.ins C dx fs)) (c : Cls X.K C) (k : GF X.K C m g) (l : fs.lookup m = none)
  (h : Q (.ref g, [.ref a]) s) : wpAny (model X.prog X.w) A (getMethod (.ref a) m pl) Q E s := by
 obtain ⟨mA, O, r, _, _, _⟩ := Jj I.hok e
 have hn : mA m = none := FT.none_of (by rw [<- l]; exact r m)
 exact RQ I.kIn O (c.get m) k.at_ k.fn hn h
theorem NW {y : V} {u : Value} {Q : Unit -> Shared -> Prop} (I : Inv X pins σ H s) (e : H a = some (.ins C dx fs)) (c : Cls X.K C) (n : EB X.K C f) (hl : fs.length < 1000) (ry : Bb y u)
  (h : ∀ s', Inv X pins σ (upd H a (.ins C dx (BB f y fs))) s' -> Q () s') : wpAny (model X.prog X.w) A (setAttr (.ref a) f u) Q E s := by
 obtain ⟨mA, O, r, wi, _, ho⟩ := Jj I.hok e
 have hz : (fs.map (·.1)).length <= sizeLine := by rw [List.length_map, sizeLine_eq]; lia
 refine set_map I.kIn O c.sa c.po n.taker c.hd wi hz fun h' O' sb => h _ ?_
 have hd : ∃ o, h'.get? dx = some o := let ⟨o, _, _, e', _⟩ := O'.ns; ⟨o, e'⟩
 refine I.write (x := a) (e := dx) (by rw [e]; exact True.intro) (.inr ho) (fun b q hb z => (sb.2 b hb).trans z) hd ?_
 refine ⟨by rw [Av O.ne]; exact ho, ?_, O.ne, O'.obj, _, O'.ns, fun g => ?_, fun g hg => ?_⟩
 ·have := IJ f y fs; lia
 ·show FT ((BB f y fs).lookup g) (if g = f then some u else mA g)
  rw [Ay]
  by_cases q : g = f
  ·rw [if_pos q, if_pos q]; exact ry
  ·rw [if_neg q, if_neg q]; exact r g
 ·by_cases q : g = f
  ·rw [q]; exact (IA f y fs).1
  ·refine (IA f y fs).2 g (wi g fun z => hg ?_)
   show (if g = f then some u else mA g) = none
   rw [if_neg q]; exact z
theorem Inv.made (I : Inv X pins σ H s) : Inv X pins σ (upd (upd H s.heap.objs.size (.own (s.heap.objs.size + 1))) (s.heap.objs.size + 1) (.ins C s.heap.objs.size []))
  { s with heap := (s.heap.push PySem.W.emptyDict).push (PySem.W.instObj C s.heap.objs.size) } := by
 have e1 : (s.heap.push PySem.W.emptyDict).get? s.heap.objs.size = some PySem.W.emptyDict := Heap.get?_push_size s.heap rfl
 have e2 : ((s.heap.push PySem.W.emptyDict).push (PySem.W.instObj C s.heap.objs.size)).get? (s.heap.objs.size + 1) = some (PySem.W.instObj C s.heap.objs.size) := by
  have := Heap.get?_push_size (s.heap.push PySem.W.emptyDict) (o := PySem.W.instObj C s.heap.objs.size) rfl
  rwa [Heap.size_push] at this
 have e3 : (s.heap.push PySem.W.emptyDict).Ns s.heap.objs.size (fun _ => none) := ⟨PySem.W.emptyDict, #[], _, e1, rfl, (fun e he => absurd he (by simp)), fun _ => rfl⟩
 have I1 := I.laid (a := s.heap.objs.size) (o := .own (s.heap.objs.size + 1)) (h' := s.heap.push PySem.W.emptyDict) (t' := s.toks) (fun b u q => Heap.get?_push_of_some _ q) (Nat.le_refl _) ⟨_, e1⟩
 refine I1.laid (a := s.heap.objs.size + 1) (o := .ins C s.heap.objs.size []) (t' := s.toks) (fun b u q => Heap.get?_push_of_some _ q) (Nat.le_of_eq (Heap.size_push _ _)) ?_
 have ne : s.heap.objs.size ≠ s.heap.objs.size + 1 := Nat.ne_of_lt (Nat.lt_succ_self _)
 refine ⟨by rw [Av ne, Ai], Nat.zero_le _, ne, e2, fun _ => none, (Heap.Ns1.of_empty e3).at fun o q => Heap.get?_push_of_some _ q, fun _ => True.intro, fun y hy => absurd rfl hy⟩
theorem attr_of {prog : Program} {w : World} {env : Env} {e : Expr} {f : Str} {pos : Pos} {s : Shared} {Q : Value -> Shared -> Prop} (hb : attributeBase e f env (eval e env) = eval e env)
  (h : wpAny (model prog w) A (eval e env) (fun o s₁ => wpAny (model prog w) A (getAttr o f true) Q E s₁) E s) : wpAny (model prog w) A (eval (.Attribute e f pos) env) Q E s :=
 Attribute_any_ h (by rw [arm_eval_Attribute, hb])
end
def tFld (K : PySem.W.Frag) (ta : TE) (f : Str) : TE := fun σ H Q => ta σ H fun x H1 => ∃ a C dx fs v, x = .ref a /\ H1 a = some (.ins C dx fs) /\ Cls K C /\ EB K C f /\ fs.lookup f = some v /\ Q v H1
def sFld (K : PySem.W.Frag) (ta tv : TE) (f : Str) : TS := fun D σ H => tv σ H fun y H1 => ta σ H1 fun x H2 => ∃ a C dx fs, x = .ref a /\ H2 a = some (.ins C dx fs) /\ Cls K C /\ EB K C f /\ fs.length < 1000 /\
 D.nx σ (upd H2 a (.ins C dx (BB f y fs)))
section
variable {X : Cx} {o e value : Expr} {f : Str} {pos pos' tpos : Pos} {ta tv : TE}
theorem AQ (he : PE X e ta) (hb : attributeBase e f X.env (eval e X.env) = eval e X.env) : PE X (.Attribute e f pos) (tFld X.K ta f) := by
 intro pins s σ H Q I h
 refine attr_of hb (thn (he pins s σ H _ I h) fun u s1 ⟨x, H1, I1, rx, a, C, dx, fs, v, ex, ea, c, n, l, q⟩ => ?_)
 subst ex
 obtain rfl : u = Value.ref a := rx
 exact Oq I1 ea c n l fun u' s2 I2 ru => ⟨v, H1, I2, ru, q⟩
theorem Io (ha : PE X o ta) (hv : PE X value tv) (hs : swapsWith value (some (.Attribute o f pos')) pos.line X.env = pure false) : PS X (.Assign [.Attribute o f pos'] value pos) (sFld X.K ta tv f) := by
 intro pins s σ H D I h
 refine plainObj_wpAny_Assign_Attribute (thn (hv pins s σ H _ I h) fun u s1 ⟨y, H1, I1, ry, q⟩ => thn (ha pins s1 σ H1 _ I1 q) fun ov s2 ⟨x, H2, I2, rx, a, C, dx, fs, ex, ea, c, n, l, q2⟩ => ?_) hs
 subst ex
 obtain rfl : ov = Value.ref a := rx
 exact NW I2 ea c n l ry fun s3 I3 => ⟨σ, _, I3, q2⟩
end
section
variable {X : Cx} {pins : List (Addr × Obj)} {σ : St} {H : Hp} {s : Shared} {A : Around} {E : Value -> Shared -> Prop} {Q : Value -> Shared -> Prop} {c : Value} {b : Bool}
inductive IC (K : PySem.W.Frag) (H : Hp) : V -> Value -> Prop where
 | non : IC K H .non (.type "NoneType")
 | bl (x : Bool) : IC K H (.bl x) (.type "bool")
 | int (i : Int) : IC K H (.int i) (.type "int")
 | str (x : Str) : IC K H (.str x) (.type "str")
 | flt (x : UInt64) : IC K H (.flt x) (.type "float")
 | lst {a : Addr} {xs : List V} (e : H a = some (.lst xs)) : IC K H (.ref a) (.type "list")
 | frz {a : Addr} {o : Obj} {xs : List V} (e : H a = some (.frz o (.lst xs))) : IC K H (.ref a) (.type "list")
 | tup {a : Addr} {xs : List V} (e : H a = some (.tup xs)) : IC K H (.ref a) (.type "tuple")
 | dK {a : Addr} {kvs : List (Key × V)} (e : H a = some (.dK kvs)) : IC K H (.ref a) (.type "dict")
 | dT {a : Addr} {kvs : List (List Key × V)} (e : H a = some (.dT kvs)) : IC K H (.ref a) (.type "dict")
 | ins {a C dx : Addr} {fs : List (Str × V)} (e : H a = some (.ins C dx fs)) (cl : Cls K C) (ha : PySem.W.findIn K (.ref C) "__class__" = some (some (.builtin "object.__class__")))
   (hn : PySem.W.specialIn K (.builtin "object.__class__") "__get__" = some (some (.builtin "getset_descriptor.__get__"))) (htk : PySem.W.takesIn K (.builtin "object.__class__") = some true)
   (hm : PySem.W.mroIn K C (.type "object") = some true) : IC K H (.ref a) (.ref C)
theorem Qh {x : V} {u t : Value} (I : Inv X pins σ H s) (rx : Bb x u) (ty : IC X.K H x t) (e : PySem.W.kitOne X.K t c = some b) (h : ∀ tk, Q (.bool b) { s with toks := tk }) :
  wpAny (model X.prog X.w) A (call (.builtin "isinstance") [u, c]) Q E s := by
 cases ty with
 | non => cases (show u = Value.none from rx); exact PySem.W.kia_one PySem.W.kitx_none I.kIn True.intro e (fun z => nomatch z) h
 | bl y => cases (show u = Value.bool y from rx); exact PySem.W.kia_one PySem.W.kitx_bool I.kIn True.intro e (fun z => nomatch z) h
 | int i => obtain ⟨t, q⟩ := (show ∃ t, u = Value.int i t from rx); cases q; exact PySem.W.kia_one PySem.W.kitx_int I.kIn True.intro e (fun z => nomatch z) h
 | str y => obtain ⟨t, q⟩ := (show ∃ t, u = Value.str y t from rx); cases q; exact PySem.W.kia_one PySem.W.kitx_str I.kIn True.intro e (fun z => nomatch z) h
 | flt y => obtain ⟨t, q⟩ := (show ∃ t, u = Value.float y t from rx); cases q; exact PySem.W.kia_one PySem.W.kitx_float I.kIn True.intro e (fun z => nomatch z) h
 | @lst a xs ea =>
  cases (show u = Value.ref a from rx)
  obtain ⟨_, _, n, _, h1⟩ := (show Bm X.prog X.w H s.heap a (.lst xs) from I.hok a _ ea)
  exact PySem.W.kia_one PySem.W.kitx_list I.kIn ⟨_, h1, rfl⟩ e (fun z => nomatch z) h
 | @frz a ob xs ea =>
  cases (show u = Value.ref a from rx)
  obtain ⟨_, _, _, n, _, h1⟩ := (show Bm X.prog X.w H s.heap a (.frz ob (.lst xs)) from I.hok a _ ea)
  exact PySem.W.kia_one PySem.W.kitx_list I.kIn ⟨_, h1, rfl⟩ e (fun z => nomatch z) h
 | @tup a xs ea =>
  cases (show u = Value.ref a from rx)
  obtain ⟨_, _, _, p⟩ := (show Bm X.prog X.w H s.heap a (.tup xs) from I.hok a _ ea)
  obtain ⟨o, h1, h2, _⟩ := p
  exact PySem.W.kia_one PySem.W.kitx_tuple I.kIn ⟨o, h1, h2⟩ e (fun z => nomatch z) h
 | @dK a kvs ea =>
  cases (show u = Value.ref a from rx)
  obtain ⟨_, _, vs, _, p⟩ := (show Bm X.prog X.w H s.heap a (.dK kvs) from I.hok a _ ea)
  obtain ⟨o, es, ep, h1, h2, _⟩ := p
  exact PySem.W.kia_one PySem.W.kitx_dict I.kIn ⟨o, h1, h2.1⟩ e (fun z => nomatch z) h
 | @dT a kvs ea =>
  cases (show u = Value.ref a from rx)
  obtain ⟨_, _, xs, _, o, es, ep, h1, h2, _⟩ := (show Bm X.prog X.w H s.heap a (.dT kvs) from I.hok a _ ea)
  exact PySem.W.kia_one PySem.W.kitx_dict I.kIn ⟨o, h1, h2.1⟩ e (fun z => nomatch z) h
 | @ins a C dx fs ea cl ha hn htk hm =>
  cases (show u = Value.ref a from rx)
  obtain ⟨mA, O, _⟩ := Jj I.hok ea
  obtain ⟨od, J, _⟩ := O.look
  exact PySem.W.kia_one (PySem.W.kitx_own (cl.get _) cl.hd ha hn htk hm) I.kIn J e (fun z => nomatch z) h
end
end L2
namespace L2
open PySem PySem.Spec PyProof.Rows
structure CL (k : Nat) (A : Around) : Prop where
 hd : A.handled = none
 dp : A.depth + 3 * k + 5 < recursionLimit
 un : A.units + 16 * k + 200 < cLine
theorem CL.mono {j k : Nat} {A : Around} (r : CL k A) (h : j <= k) : CL j A := ⟨r.hd, by have := r.dp; lia, by have := r.un; lia⟩
theorem CL.deeper {k : Nat} {A : Around} (r : CL (k + 1) A) (env : Env) : CL k (A.deeper env) :=
 ⟨r.hd, by have := r.dp; show A.depth + 1 + 3 * k + 5 < _; lia, by have := r.un; show A.units + 3 + 16 * k + 200 < _; lia⟩
theorem CL.in1 {k : Nat} {A : Around} (r : CL (k + 1) A) : CL k A.in1 :=
 ⟨r.hd, by have := r.dp; show A.depth + 3 * k + 5 < _; lia, by have := r.un; show A.units + 1 + 16 * k + 200 < _; lia⟩
theorem On {A : Around} {C : Addr} {us : List Value} {kw : List (Str × Value)} : (A.under (.builtin "type.__call__" ⟨.ref C :: us, kw⟩)).depth = A.depth + 1 := by
 first | rfl | simp [Around.under, Code.weight, Code.isCreation, Code.isGuard, Code.isCaller, Code.frames, Code.isFrame, guardIds]
theorem Om {A : Around} {C : Addr} {us : List Value} {kw : List (Str × Value)} : (A.under (.builtin "type.__call__" ⟨.ref C :: us, kw⟩)).units = A.units + 1 := by
 first | rfl | simp [Around.under, Code.cUnits, Code.frames, Code.isFrame]
theorem CL.make {k : Nat} {A : Around} (r : CL (k + 1) A) (C : Addr) (us : List Value) (kw : List (Str × Value)) : CL k (A.under (.builtin "type.__call__" ⟨.ref C :: us, kw⟩)) :=
 ⟨r.hd, by have := r.dp; rw [On]; lia, by have := r.un; rw [Om]; lia⟩
theorem CL.depth {k : Nat} {A : Around} (r : CL k A) : A.depth < recursionLimit := by have := r.dp; lia
theorem CL.units {k : Nat} {A : Around} (r : CL k A) : A.units + 64 < cLine := by have := r.un; lia
def tNil : TA := fun _ H Q => Q [] H
def MK (ta : TE) (tr : TA) : TA := fun σ H Q => ta σ H fun x H1 => tr σ H1 fun xs H2 => Q (x :: xs) H2
section
variable {X : Cx} {e : Expr} {es : List Expr} {te : TE} {t : TA} {pos : Pos}
theorem Ae : PA X [] tNil := fun _ _ _ _ H Q I h => Calls.spliced_nil ⟨[], H, I, .nil, h⟩
theorem Aa (ha : PE X e te) (hr : PA X es t) (hs : starEach (e :: es) X.env = (false, eval e X.env) :: starEach es X.env := by rfl) : PA X (e :: es) (MK te t) := by
 intro pos pins s σ H Q I h
 rw [hs]
 show wpAny _ _ (spliced ((false, eval e X.env) :: backTo pos (starEach es X.env))) _ _ s
 refine Calls.spliced_cons (thn (ha pins s σ H _ I h) fun u s1 ⟨x, H1, I1, r1, q1⟩ => ?_)
 exact thn (hr pos pins s1 σ H1 _ I1 q1) fun us s2 ⟨xs, H2, I2, r2, q2⟩ => ⟨x :: xs, H2, I2, .cons r1 r2, q2⟩
def tTup (t : TA) : TE := fun σ H Q => t σ H fun xs H1 => xs.length <= sizeLine /\ ∀ p, H1 p = none -> Q (.ref p) (upd H1 p (.tup xs))
def tLst (t : TA) : TE := fun σ H Q => t σ H fun xs H1 => xs.length <= sizeLine /\ ∀ p, H1 p = none -> Q (.ref p) (upd H1 p (.lst xs))
theorem Cc {x1} (h : PA X es t) : PE X (.Tuple es x1 pos) (tTup t) := by
 intro pins s σ H Q I hq
 refine wpAny_Tuple_spliced (thn (h pos pins s σ H _ I hq) fun us s1 ⟨xs, H1, I1, r, z, q⟩ => ⟨by rw [<- r.length]; exact z, ?_⟩)
 have hf : H1 s1.heap.objs.size = none := I1.hok.fresh (Nat.le_refl _)
 refine ⟨.ref s1.heap.objs.size, upd H1 s1.heap.objs.size (.tup xs), I1.laid (t' := s1.toks) (fun b u e => Heap.get?_push_of_some _ e) (Nat.le_refl _) ?_, rfl, q _ hf⟩
 exact ⟨z, us, r, ⟨_, Heap.get?_push_size _ rfl, rfl, _, rfl⟩⟩
theorem EV (h : PA X es t) : PE X (.List es pos) (tLst t) := by
 intro pins s σ H Q I hq
 refine wpAny_List_spliced (thn (h pos pins s σ H _ I hq) fun us s1 ⟨xs, H1, I1, r, z, q⟩ => ⟨by rw [<- r.length]; exact z, ?_⟩)
 have hf : H1 s1.heap.objs.size = none := I1.hok.fresh (Nat.le_refl _)
 refine ⟨.ref s1.heap.objs.size, upd H1 s1.heap.objs.size (.lst xs), I1.laid (t' := s1.toks) (fun b u e => Heap.get?_push_of_some _ e) (Nat.le_refl _) ?_, rfl, q _ hf⟩
 exact ⟨z, us, 0, r, Heap.get?_push_size _ rfl⟩
end
abbrev Sp := List V -> Hp -> VK -> XK -> Prop
abbrev CXT := List Env -> Hp -> Shared -> XK -> Value -> Shared -> Prop
structure IU (P : Program) (w : World) (K : PySem.W.Frag) (mg : Str -> Option Value) (base : Heap) (A : Around) (outer : List Env) (s : Shared) (H : Hp) : Prop where
 frames : A.frames = some outer
 mod : Mod K mg base
 bs : ∀ b o, base.get? b = some o -> s.heap.get? b = some o /\ H b = none
 bsz : base.objs.size <= s.heap.objs.size
 funs : s.heap.FunFrames base outer
 frf : ∀ b ∈ frs outer, H b = none
 hok : HOk P w H s.heap
 bare : AllBare s.gens
def CE (outer : List Env) (P : Program) (w : World) (H : Hp) (s : Shared) (Q : VK) (u : Value) (s' : Shared) : Prop :=
 ∃ v H', s'.os = s.os /\ AllBare s'.gens /\ Un (frs outer) [] H H' s.heap s'.heap /\ HOk P w H' s'.heap /\ Bb v u /\ Q v H'
def CR (CX : CXT) (outer : List Env) (P : Program) (w : World) (H : Hp) (s : Shared) (Q : VK) (E : XK) (r : Result) (s' : Shared) : Prop :=
 match r with
 | .ok (.ret u) => CE outer P w H s Q u s'
 | .ok _ => False
 | .error e => CX outer H s E e s'
structure AY (P : Program) (w : World) (K : PySem.W.Frag) (mg : Str -> Option Value) (base : Heap) (CX : CXT) (k : Nat) (f : Addr) (fd : FuncData) (ps : List Str) (sp : Sp) : Prop where
 len : ∀ vs H Q E, sp vs H Q E -> vs.length = ps.length
 run : ∀ (A : Around) (outer : List Env) (s : Shared) (H : Hp) (args : Args) (us : List Value) (vs : List V) (Q : VK) (E : XK), CL k A -> IU P w K mg base A outer s H -> BindsTo s fd args (ps.zip us) -> Ba vs us -> sp vs H Q E ->
  codeAny (model P w) A (.call (.ref f) args) (CR CX outer P w H s Q E) s
theorem IU.make {P : Program} {w : World} {K : PySem.W.Frag} {mg : Str -> Option Value} {base : Heap} {A : Around} {outer : List Env} {s : Shared} {H : Hp} (e : IU P w K mg base A outer s H) (C : Addr) (us : List Value) (kw : List (Str × Value)) :
  IU P w K mg base (A.under (.builtin "type.__call__" ⟨.ref C :: us, kw⟩)) outer s H := ⟨by first | exact e.frames | (simpa [Around.under, Code.envs, Code.isFrame, pushEnvs] using e.frames), e.mod, e.bs, e.bsz, e.funs, e.frf, e.hok, e.bare⟩
theorem IU.in1 {P : Program} {w : World} {K : PySem.W.Frag} {mg : Str -> Option Value} {base : Heap} {A : Around} {outer : List Env} {s : Shared} {H : Hp} (e : IU P w K mg base A outer s H) :
  IU P w K mg base A.in1 outer s H := ⟨e.frames, e.mod, e.bs, e.bsz, e.funs, e.frf, e.hok, e.bare⟩
section
variable {X : Cx} {pins : List (Addr × Obj)} {σ : St} {H : Hp} {s s' : Shared}
theorem Inv.env0 (I : Inv X pins σ H s) : IU X.prog X.w X.K X.mg X.base X.A X.stack s H :=
 ⟨I.ok.frames, I.ok.mod, I.bs, Nat.le_trans I.ok.bsz I.sz, I.stack, I.stkFree, I.hok, I.bare⟩
theorem Inv.after {Q : VK} {u : Value} (I : Inv X pins σ H s) (h : CE X.stack X.prog X.w H s Q u s') : EP X pins σ Q u s' := by
 obtain ⟨v, H', os, bare, un, hok, r, q⟩ := h
 obtain ⟨hh, g, d, t, os'⟩ := s'
 obtain rfl : os' = s.os := os
 exact ⟨v, H', I.call (h' := hh) (g' := g) (d' := d) (t' := t) (ch := []) un hok bare (fun b z => absurd z (by simp)), r, q⟩
end
def tCall (sp : Sp) (dvs : List V) (E : XK) (t : TA) : TE := fun σ H Q => t σ H fun vs H1 => sp (vs ++ dvs) H1 Q E
def tMeth (C : Addr) (m : Str) (sp : Sp) (dvs : List V) (E : XK) (ta : TE) (t : TA) : TE := fun σ H Q => ta σ H fun x H1 => ∃ a dx fs, x = .ref a /\ H1 a = some (.ins C dx fs) /\ fs.lookup m = none /\
 t σ H1 fun vs H2 => sp (x :: (vs ++ dvs)) H2 Q E
def tMake (C : Addr) (sp : Sp) (dvs : List V) (E : XK) (t : TA) : TE := fun σ H Q => t σ H fun vs H1 => ∀ x dx, H1 x = none -> H1 dx = none -> dx ≠ x ->
 sp (.ref x :: (vs ++ dvs)) (upd (upd H1 dx (.own x)) x (.ins C dx [])) (fun v H2 => v = .non /\ Q (.ref x) H2) E
def DA (K : PySem.W.Frag) (fd : FuncData) (ps : List Str) (ds : List Value) : Prop :=
 ∀ (s : Shared) (us : List Value), K.In s.heap -> (us ++ ds).length = ps.length -> BindsTo s fd ⟨us, []⟩ (ps.zip (us ++ ds))
theorem DA.all {K : PySem.W.Frag} {fd : FuncData} {ps : List Str} (h : ∀ us : List Value, us.length = ps.length -> bindArgs fd ⟨us, []⟩ = pure (ps.zip us)) : DA K fd ps [] := fun s us _ hl => by
 rw [List.append_nil] at hl ⊢
 exact .of_eq (h us hl)
def FU (CX : CXT) (X : Cx) (E : XK) : Prop := ∀ (pins : List (Addr × Obj)) (σ : St) (H : Hp) (s : Shared) (e : Value) (s' : Shared), Inv X pins σ H s -> CX X.stack H s E e s' -> X.xe e s'
section
variable {X : Cx} {CX : CXT} {k : Nat} {f C : Addr} {fd : FuncData} {ps : List Str} {sp : Sp} {dvs : List V} {ds : List Value} {E : XK} {x m : Str} {p pos apos : Pos} {e o : Expr} {es : List Expr} {ta : TE} {t : TA}
theorem QT {pins : List (Addr × Obj)} {σ : St} {H : Hp} {s : Shared} {Q : VK} {us : List Value} {vs : List V} (F : AY X.prog X.w X.K X.mg X.base CX k f fd ps sp) (hr : CL k X.A) (hb : DA X.K fd ps ds) (hd : Ba dvs ds) (hx : FU CX X E)
  (I : Inv X pins σ H s) (r : Ba vs us) (h : sp (vs ++ dvs) H Q E) : wpAny (model X.prog X.w) X.A (call (.ref f) us) (EP X pins σ Q) X.xe s := by
 have r2 : Ba (vs ++ dvs) (us ++ ds) := r.append hd
 have hl : (us ++ ds).length = ps.length := by rw [<- r2.length]; exact F.len _ _ _ _ h
 refine wpAny_call (codeAny_mono (F.run X.A X.stack s H ⟨us, []⟩ (us ++ ds) (vs ++ dvs) Q E hr I.env0 (hb s us I.kIn hl) r2 h) fun r s' hq => ?_)
 cases r with
 | error e => exact hx pins σ H s e s' I hq
 | ok fl =>
  cases fl with
  | ret u => exact I.after hq
  | next => exact False.elim hq
  | brk => exact False.elim hq
  | cont => exact False.elim hq
theorem pe_call (F : AY X.prog X.w X.K X.mg X.base CX k f fd ps sp) (hr : CL k X.A) (hg : Gl X x) (hm : X.mg x = some (.ref f)) (hk : PySem.W.keepIn X.K (.ref f) = true) (hb : DA X.K fd ps ds) (hd : Ba dvs ds) (hx : FU CX X E)
  (ha : PA X (e :: es) t) (hdb : (x == ("__debug__" : Str)) = false := by decide) (he : starEach (e :: es) X.env = (false, eval e X.env) :: starEach es X.env := by rfl) (hpl : (backTo pos (starEach es X.env)).any (·.1) = false := by rfl) :
  PE X (.Call (.Name x p) (e :: es) [] pos) (tCall sp dvs E t) := by
 intro pins s σ H Q I h
 refine wpAny_Call_Name_kw (Mn I hg hm ?_ hdb)
 refine PySem.W.callWith_K (h₀ := X.base) I.ok.mod.kin hk (thn (ha pos pins s σ H _ I h) fun us s1 ⟨vs, H1, I1, r, q⟩ => ⟨I1.kIn, ?_⟩) he hpl
 exact QT F hr hb hd hx I1 r q
theorem pe_meth {pl : Sem Bool} (he : PE X o ta) (c : Cls X.K C) (hm : GF X.K C m f) (F : AY X.prog X.w X.K X.mg X.base CX k f fd ps sp) (hr : CL k X.A) (hb : DA X.K fd ps ds) (hd : Ba dvs ds) (hx : FU CX X E) (ha : PA X (e :: es) t)
  (hst : starEach (e :: es) X.env = (false, eval e X.env) :: starEach es X.env := by rfl) (hpl : (backTo pos (starEach es X.env)).any (·.1) = false := by rfl)
  (ht : eval (.Call (.Attribute o m apos) (e :: es) [] pos) X.env = (do
   let ov <- eval o X.env
   standAt apos.atName
   let (f, first) <- holding [ov] (getMethod ov m pl)
   callWith pos f first (backTo pos (starEach (e :: es) X.env)) (backToKw pos (keywordEach [] X.env))) := by rfl) :
  PE X (.Call (.Attribute o m apos) (e :: es) [] pos) (tMeth C m sp dvs E ta t) := by
 intro pins s σ H Q I h
 refine PySem.W.methodCall_KW (pl := pl) (thn (he pins s σ H _ I h) fun u s1 ⟨x, H1, I1, rx, a, dx, fs, ex, ea, l, q⟩ => ?_) ht
 subst ex
 obtain rfl : u = Value.ref a := rx
 refine Op I1 ea c hm l ?_
 refine PySem.W.callWith_K (first := [.ref a]) (h₀ := X.base) I.ok.mod.kin hm.kp (thn (ha pos pins s1 σ H1 _ I1 q) fun us s2 ⟨vs, H2, I2, r, q2⟩ => ⟨I2.kIn, ?_⟩) hst hpl
 exact QT (us := .ref a :: us) (vs := .ref a :: vs) F hr hb hd hx I2 (.cons rfl r) q2
structure Mk (K : PySem.W.Frag) (C f : Addr) : Prop where
 makes : PySem.W.makesIn K C = true
 init : PySem.W.findIn K (.ref C) "__init__" = some (some (.ref f))
 fn : PySem.W.isFn K (.ref f) = true
 kp : PySem.W.keepIn K (.ref C) = true
theorem QS {pins : List (Addr × Obj)} {σ : St} {H : Hp} {s : Shared} {Q : VK} {us : List Value} {vs : List V} (M : Mk X.K C f) (F : AY X.prog X.w X.K X.mg X.base CX k f fd ps sp) (hr : CL (k + 1) X.A) (hb : DA X.K fd ps ds) (hd : Ba dvs ds)
  (hx : FU CX X E) (I : Inv X pins σ H s) (r : Ba vs us)
  (h : ∀ x dx, H x = none -> H dx = none -> dx ≠ x -> sp (.ref x :: (vs ++ dvs)) (upd (upd H dx (.own x)) x (.ins C dx [])) (fun v H2 => v = .non /\ Q (.ref x) H2) E) :
  wpAny (model X.prog X.w) X.A (call (.ref C) us) (EP X pins σ Q) X.xe s := by
 have hq := h (s.heap.objs.size + 1) s.heap.objs.size (I.hok.fresh (Nat.le_succ _)) (I.hok.fresh (Nat.le_refl _)) (Nat.ne_of_lt (Nat.lt_succ_self _))
 have I2 := Inv.made (C := C) I
 have r2 : Ba (V.ref (s.heap.objs.size + 1) :: (vs ++ dvs)) (Value.ref (s.heap.objs.size + 1) :: (us ++ ds)) := .cons rfl (r.append hd)
 have hl : (Value.ref (s.heap.objs.size + 1) :: us ++ ds).length = ps.length := by
  have e := r2.length
  rw [F.len _ _ _ _ hq] at e
  exact e.symm
 refine wpAny_call (RE (f := f) I.kIn M.makes M.init (beq_iff_eq.mp M.fn) (codeAny_mono (F.run _ X.stack _ _ ⟨Value.ref (s.heap.objs.size + 1) :: us, []⟩ (Value.ref (s.heap.objs.size + 1) :: (us ++ ds)) _ _ E (hr.make C us [])
  (I2.env0.make C us []) (hb _ (Value.ref (s.heap.objs.size + 1) :: us) I2.kIn hl) r2 hq) fun r s' hq' => ?_))
 cases r with
 | error e => exact hx pins σ _ _ e s' I2 hq'
 | ok fl =>
  cases fl with
  | ret u =>
   obtain ⟨v, H', I3, rv, ev, q3⟩ := I2.after hq'
   subst ev
   exact ⟨rv, ⟨V.ref (s.heap.objs.size + 1), H', I3, rfl, q3⟩⟩
  | next => exact False.elim hq'
  | brk => exact False.elim hq'
  | cont => exact False.elim hq'
theorem Ra (M : Mk X.K C f) (F : AY X.prog X.w X.K X.mg X.base CX k f fd ps sp) (hr : CL (k + 1) X.A) (hg : Gl X x) (hm : X.mg x = some (.ref C)) (hb : DA X.K fd ps ds) (hd : Ba dvs ds) (hx : FU CX X E)
  (hdb : (x == ("__debug__" : Str)) = false := by decide) : PE X (.Call (.Name x p) [] [] pos) (tMake C sp dvs E tNil) := by
 intro pins s σ H Q I h
 refine wpAny_Call_Name_kw (Mn I hg hm ?_ hdb)
 exact PySem.W.callWith_K0 I.kIn M.kp (QS (us := []) M F hr hb hd hx I .nil h)
end
def PK (X : Cx) (kws : List Keyword) (t : TA) : Prop :=
 ∀ (pos : Pos) (pins : List (Addr × Obj)) (s : Shared) (σ : St) (H : Hp) (Q : List V -> Hp -> Prop), Inv X pins σ H s -> t σ H Q -> wpAny (model X.prog X.w) X.A (evalAll ((backToKw pos (keywordEach kws X.env)).map (·.2))) (AP X pins σ Q) X.xe s
section
variable {X : Cx} {CX : CXT} {k : Nat} {f C : Addr} {fd : FuncData} {ps ks : List Str} {sp : Sp} {E : XK} {x m : Str} {p pos apos kpos : Pos} {e o : Expr} {es : List Expr} {kws : List Keyword} {te ta : TE} {t tk : TA} {nm : Option Str}
theorem pk_nil : PK X [] tNil := fun _ _ _ _ H Q I h => wpAny_evalAll_nil ⟨[], H, I, .nil, h⟩
theorem pk_cons (ha : PE X e te) (hr : PK X kws t) : PK X (⟨nm, e, kpos⟩ :: kws) (MK te t) := by
 intro pos pins s σ H Q I h
 show wpAny _ _ (evalAll ((do let v <- eval e X.env; standAt pos; pure v) :: (backToKw pos (keywordEach kws X.env)).map (·.2))) _ _ s
 refine wpAny_evalAll_cons (wpAny_bind (thn (ha pins s σ H _ I h) fun u s1 ⟨x, H1, I1, r1, q1⟩ => wpAny_bind (wpAny_standAt (wpAny_pure ?_))))
 exact thn (hr pos pins s1 σ H1 _ I1 q1) fun us s2 ⟨xs, H2, I2, r2, q2⟩ => ⟨x :: xs, H2, I2, .cons r1 r2, q2⟩
variable {g : List Value -> List Value -> List Value} {gV : List V -> List V -> List V}
end
structure Az (N P : List Str) (sc : Scope) : Prop where
 kind : sc.kind = .function
 co : sc.isCoroutine = false
 gen : sc.isGenerator = false
 nd : N.Nodup
 pre : N.take P.length = P
 par : ∀ x ∈ P, sc.names.lookup x = some .local \/ sc.names.lookup x = some .cell
 nofree : ∀ y ∈ sc.names, y.2 ≠ .free
theorem LD {kindOf : Str -> Option NameKind} {x : Str} : ∀ {binds : List (Str × Value)} {m : Str -> Option Value}, (∀ v, (x, v) ∉ binds) -> bindL kindOf binds m x = m x
 | [], _, _ => rfl
 | (n, v) :: r, m, h => by
  unfold bindL
  rw [LD fun w hw => h w (List.mem_cons_of_mem _ hw)]
  split
  ·have : x ≠ n := by rintro rfl; exact h v List.mem_cons_self
   simp [this]
  ·rfl
theorem LG {kindOf : Str -> Option NameKind} {x : Str} : ∀ {binds : List (Str × Value)} {m : Str -> Option Value}, (∀ v, (x, v) ∉ binds) -> bindC kindOf binds m x = m x
 | [], _, _ => rfl
 | (n, v) :: r, m, h => by
  unfold bindC
  rw [LG fun w hw => h w (List.mem_cons_of_mem _ hw)]
  split
  ·rfl
  ·have : x ≠ n := by rintro rfl; exact h v List.mem_cons_self
   simp [this]
theorem LE {kindOf : Str -> Option NameKind} {x : Str} {v : Value} : ∀ {P : List Str} {vs : List Value} {i : Nat} {m : Str -> Option Value}, P.Nodup -> P[i]? = some x -> vs[i]? = some v -> kindOf x = some .local ->
  bindL kindOf (P.zip vs) m x = some v
 | [], _, _, _, _, h, _, _ => by simp at h
 | _ :: _, [], _, _, _, _, h, _ => by simp at h
 | p :: P, w :: vs, 0, m, nd, h1, h2, hk => by
  simp at h1 h2; subst h1; subst h2
  show bindL kindOf ((p, w) :: P.zip vs) m p = _
  unfold bindL
  rw [LD fun v hv => (List.nodup_cons.mp nd).1 (List.of_mem_zip hv).1, if_pos hk]
  simp
 | p :: P, w :: vs, i + 1, m, nd, h1, h2, hk => by
  show bindL kindOf ((p, w) :: P.zip vs) m x = _
  unfold bindL
  exact LE (i := i) (List.nodup_cons.mp nd).2 (by simpa using h1) (by simpa using h2) hk
theorem LH {kindOf : Str -> Option NameKind} {x : Str} {v : Value} : ∀ {P : List Str} {vs : List Value} {i : Nat} {m : Str -> Option Value}, P.Nodup -> P[i]? = some x -> vs[i]? = some v -> kindOf x ≠ some .local ->
  bindC kindOf (P.zip vs) m x = some v
 | [], _, _, _, _, h, _, _ => by simp at h
 | _ :: _, [], _, _, _, _, h, _ => by simp at h
 | p :: P, w :: vs, 0, m, nd, h1, h2, hk => by
  simp at h1 h2; subst h1; subst h2
  show bindC kindOf ((p, w) :: P.zip vs) m p = _
  unfold bindC
  rw [LG fun v hv => (List.nodup_cons.mp nd).1 (List.of_mem_zip hv).1, if_neg hk]
  simp
 | p :: P, w :: vs, i + 1, m, nd, h1, h2, hk => by
  show bindC kindOf ((p, w) :: P.zip vs) m x = _
  unfold bindC
  exact LH (i := i) (List.nodup_cons.mp nd).2 (by simpa using h1) (by simpa using h2) hk
def IF (N : List Str) (vs : List V) : St := vs.map some ++ List.replicate (N.length - vs.length) none
def Qr (CX : CXT) (P : Program) (w : World) (K : PySem.W.Frag) (mg : Str -> Option Value) (base : Heap) (N : List Str) (qual : Str) (scope : Scope) (f : Addr) (cd : Value) (A : Around) (outer : List Env) (s : Shared) (H : Hp) (E : XK) : Cx where
 prog := P
 w := w
 K := K
 mg := mg
 base := base
 A := A.deeper (envOfC qual scope s.heap.objs.size f cd)
 N := N
 s₀ := s
 H₀ := H
 env := envOfC qual scope s.heap.objs.size f cd
 outer := outer
 stack := envOfC qual scope s.heap.objs.size f cd :: outer
 ex := []
 calm := true
 fn := fun _ => true
 pn := []
 xe := fun e s' => wpAny (model P w) (A.deeper (envOfC qual scope s.heap.objs.size f cd)) (leaving (envOfC qual scope s.heap.objs.size f cd) e) (fun _ s'' => CX outer H s E e s'') (fun e' s'' => CX outer H s E e' s'') s'
theorem NH {sc : Scope} {n : Nat} {x : Str} (h : sc.names.lookup x = some .cell) : ∃ c, (cellsFrom n sc.names []).lookup x = some c := by
 have q := PySem.W.cellsFrom_some sc.names n [] (.inl h)
 exact Option.isSome_iff_exists.mp q
theorem Qi {CX : CXT} {P : Program} {w : World} {K : PySem.W.Frag} {mg : Str -> Option Value} {base : Heap} {N ps : List Str} {qual : Str} {scope : Scope} {f : Addr} {cd : Value} {A : Around} {outer : List Env} {s s1 : Shared} {H : Hp} {E : XK} {us : List Value} {vs : List V}
  (S : Az N ps scope) (hd : A.handled = none) (e0 : IU P w K mg base A outer s H) (hl : vs.length = ps.length) (r : Ba vs us)
  (x : InCallC s s.heap.objs.size (bindL (envOfC qual scope s.heap.objs.size f cd).kindOf (ps.zip us) fun _ => none) (cellsFrom (s.heap.objs.size + 1) scope.names []) (bindC (envOfC qual scope s.heap.objs.size f cd).kindOf (ps.zip us) fun _ => none) s1) :
  Inv (Qr CX P w K mg base N qual scope f cd A outer s H E) [] (IF N vs) H s1 := by
 have hpl : ps.length <= N.length := by have := congrArg List.length S.pre; rw [List.length_take] at this; lia
 obtain ⟨h1, tk, rfl, hk⟩ := x.done
 have noA : ∀ b : Addr, b ∉ (Qr CX P w K mg base N qual scope f cd A outer s H E).ex := fun b z => absurd (show b ∈ ([] : List Addr) from z) (by simp)
 refine ⟨⟨e0.mod, S.kind, rfl, rfl, Nat.le_refl _, fun y z c h1 h2 => ?_, fun y hy => ?_, fun y c _ h => ?_, fun _ => hd, Around.frames_deeper e0.frames, .inr ⟨rfl, rfl⟩, fun b z => absurd z (noA b), e0.bs, e0.bsz, fun b _ _ => noA b, fun b z => absurd z (noA b), e0.funs, e0.frf⟩,
  rfl, e0.bare, Un.kept hk, ⟨_, x.toInCall.ns, fun i y v h1 h2 h3 => ?_⟩, fun y c h => ⟨_, x.cell y c h⟩, e0.hok.fresh (Nat.le_refl _), fun y c h => ?_, fun p hp => absurd (show p ∈ ([] : List (Addr × Obj)) from hp) (by simp), e0.hok.kept hk, ?_⟩
 ·exact name_of_addr x.apart (PySem.mem_of_lookup h1) (PySem.mem_of_lookup h2)
 ·have hy : scope.names.lookup y = some .cell \/ scope.names.lookup y = some .free := hy
  rcases hy with hy | hy
  ·exact NH hy
  ·exact absurd rfl (S.nofree _ (PySem.mem_of_lookup hy))
 ·exact Nat.le_of_lt (x.above y c (PySem.mem_of_lookup h))
 ·have hi : i < vs.length := by
   unfold IF at h2
   by_cases hi : i < vs.length
   ·exact hi
   ·rw [List.getElem?_append_right (by simpa using hi)] at h2
    rw [List.getElem?_replicate] at h2
    split at h2 <;> cases h2
  have ha : vs[i]? = some v := by
   unfold IF at h2
   rw [List.getElem?_append_left (by simpa using hi), List.getElem?_map] at h2
   cases e : vs[i]? with
   | none => rw [e] at h2; cases h2
   | some a => rw [e] at h2; cases h2; rfl
  obtain ⟨u, hu, rv⟩ := r.get ha
  have hp : ps[i]? = some y := by
   rw [<- S.pre, List.getElem?_take_of_lt (by lia)]; exact h1
  have ndP : ps.Nodup := by rw [<- S.pre]; exact S.nd.sublist (List.take_sublist _ _)
  refine ⟨u, rv, ?_⟩
  rcases S.par y (List.mem_of_getElem? hp) with k | k
  ·exact .inl ⟨k, LE ndP hp hu k⟩
  ·obtain ⟨c, e⟩ := NH (n := s.heap.objs.size + 1) k
   refine .inr ⟨.inl k, c, e, ?_⟩
   have q := x.cell y c e
   rw [LH ndP hp hu (by show scope.names.lookup y ≠ _; rw [k]; decide)] at q
   exact q
 ·exact e0.hok.fresh (Nat.le_of_lt (x.above y c (PySem.mem_of_lookup h)))
 ·unfold IF
  show _ = N.length
  rw [List.length_append, List.length_map, List.length_replicate]
  lia
theorem fn_of {CX : CXT} {P : Program} {w : World} {K : PySem.W.Frag} {mg : Str -> Option Value} {base : Heap} {k : Nat} {f : Addr} {name qual : Str} {params : Arguments} {body : List Stmt} {scope : Scope} {dV kV doc pm cdv ct oc : Value} {an od : Option Addr}
  {osl : Array (Option Value)} {N ps : List Str} {sp : Sp} (lk : K.lookup f = some ⟨oc, od, .func (PySem.W.fnOf name qual params body scope dV kV doc pm an cdv ct), osl⟩) (hcd : PySem.W.codeIn K cdv qual = true) (S : Az N ps scope)
  (len : ∀ vs H Q E, sp vs H Q E -> vs.length = ps.length)
  (hbody : ∀ (A : Around) (outer : List Env) (s : Shared) (H : Hp) (vs : List V) (Q : VK) (E : XK), CL k (A.deeper (envOfC qual scope s.heap.objs.size f cdv)) -> sp vs H Q E ->
   ∃ t, PSs (Qr CX P w K mg base N qual scope f cdv A outer s H E) body t /\ t { nx := fun _ H' => Q .non H', rt := Q } (IF N vs) H) :
  AY P w K mg base CX (k + 1) f (PySem.W.fnOf name qual params body scope dV kV doc pm an cdv ct) ps sp := by
 refine ⟨len, fun A outer s H args us vs Q E hr e0 hb r hsp => ?_⟩
 have hl := len _ _ _ _ hsp
 have KX : K.In s.heap := e0.mod.kin.keeps fun b o e => (e0.bs b o e).1
 have lim : s.heap.NoLimit := e0.mod.nolimit.keeps fun b o e => (e0.bs b o e).1
 have hkind : ∀ y ∈ ps.zip us, scope.names.lookup y.1 = some .local \/ (scope.names.lookup y.1 = some .cell /\ ((cellsFrom (s.heap.objs.size + 1) scope.names []).lookup y.1).isSome = true) := fun ⟨n, v⟩ hy => by
  rcases S.par n (List.of_mem_zip hy).1 with q | q
  ·exact .inl q
  ·exact .inr ⟨q, PySem.W.cellsFrom_some _ _ _ (.inl q)⟩
 refine codeAny_call_function hr.depth (KX _ _ lk) rfl S.co S.gen rfl (PySem.W.codeRec_of KX hcd) (hb _ _ _ _ ?_)
 refine wpAny_newFunctionEnv_cells S.kind hkind fun env he s1 x => ?_
 subst he
 refine ⟨lim.keeps x.toInCall.keep, codeAny_func ?_⟩
 obtain ⟨t, ht, hq⟩ := hbody A outer s H vs Q E (hr.deeper _) hsp
 have I : Inv (Qr CX P w K mg base N qual scope f cdv A outer s H E) [] (IF N vs) H s1 := Qi S hr.hd e0 hl r x
 refine wpAny_mono (ht [] s1 (IF N vs) H _ I hq) (fun fl s' hs => ?_) fun e s' hs => hs
 have fin : ∀ {σ' : St} {H' : Hp} {v : V} {u : Value}, Inv (Qr CX P w K mg base N qual scope f cdv A outer s H E) [] σ' H' s' -> Bb v u -> Q v H' -> CE outer P w H s Q u s' :=
  fun {σ' H' v u} J rv q => ⟨v, H', J.os, J.bare, J.base, J.hok, rv, q⟩
 cases fl with
 | ret u =>
  obtain ⟨v, σ', H', J, rv, q⟩ := hs
  exact fin J rv q
 | next =>
  obtain ⟨σ', H', J, q⟩ := hs
  exact fin (v := V.non) (u := Value.none) J rfl q
 | brk =>
  obtain ⟨_, _, _, q⟩ := hs
  exact False.elim q
 | cont =>
  obtain ⟨_, _, _, q⟩ := hs
  exact False.elim q
end L2
namespace L2
open PySem PySem.Spec PyProof.Rows
section
variable {X : Cx} {x : Str} {p pos : Pos} {e : Expr} {es : List Expr} {t : TA} {id T : String} {r : List V -> Hp -> VK -> Prop}
def tCB (r : List V -> Hp -> VK -> Prop) (t : TA) : TE := fun σ H Q => t σ H fun vs H1 => r vs H1 Q
theorem AN (hc : Go X (.builtin id) r) (hg : Gl X x) (hm : X.mg x = none) (hv : bootBuiltins x = some (.builtin id)) (ha : PA X (e :: es) t) (hn : x ≠ "__name__" := by decide) (hdb : (x == ("__debug__" : Str)) = false := by decide)
  (he : starEach (e :: es) X.env = (false, eval e X.env) :: starEach es X.env := by rfl) (hpl : (backTo pos (starEach es X.env)).any (·.1) = false := by rfl) : PE X (.Call (.Name x p) (e :: es) [] pos) (tCB r t) := by
 intro pins s σ H Q I h
 refine wpAny_Call_Name_kw (GO I hg hm hv ?_ hn hdb)
 exact PyProof.Rows.callWith_builtin1 (thn (ha pos pins s σ H _ I h) fun us s1 ⟨vs, H1, I1, r1, q1⟩ => hc pins s1 σ H1 vs us Q I1 r1 q1) he hpl
theorem Fy (hc : Go X (.type T) r) (hg : Gl X x) (hm : X.mg x = none) (hv : bootBuiltins x = some (.type T)) (ha : PA X (e :: es) t) (hn : x ≠ "__name__" := by decide) (hdb : (x == ("__debug__" : Str)) = false := by decide)
  (he : starEach (e :: es) X.env = (false, eval e X.env) :: starEach es X.env := by rfl) (hpl : (backTo pos (starEach es X.env)).any (·.1) = false := by rfl) : PE X (.Call (.Name x p) (e :: es) [] pos) (tCB r t) := by
 intro pins s σ H Q I h
 refine wpAny_Call_Name_kw (GO I hg hm hv ?_ hn hdb)
 exact PyProof.Rows.callWith_type1 (thn (ha pos pins s σ H _ I h) fun us s1 ⟨vs, H1, I1, r1, q1⟩ => hc pins s1 σ H1 vs us Q I1 r1 q1) he hpl
end
end L2
namespace HT
open PySem PyProof.Rows
section
open PySem.SeqAt
open PySem.AutoSeq1 (wpAny_loadPart')
open PySem.MeetsSeq PySem.MeetsSeq2 PySem.MeetsSeq3
end
section
variable {prog : Program} {w : World} {A : Around} {E : Value -> Shared -> Prop} {s : Shared}
end
end HT
namespace L2
open PySem PySem.Spec PyProof.Rows
section
variable {X : Cx} {e : Expr} {te : TE} {lo hi : Option Expr} {tl th : TO} {pos p2 : Pos}
end
end L2
namespace L2
open PySem PySem.Spec PyProof.Rows
def ixN (n : Nat) (i : Int) : Option Nat := if 0 <= i then (if i < n then some i.toNat else none) else if -(n : Int) <= i then some (i + n).toNat else none
def atI {α : Type} (xs : List α) (i : Int) : Option α := (ixN xs.length i).bind fun j => xs[j]?
theorem Pc {n : Nat} {i : Int} {j : Nat} (h : ixN n i = some j) : seqIndex? i n = some j /\ j < n /\ -(n : Int) <= i /\ i < n := by
 unfold ixN at h
 by_cases h0 : 0 <= i
 ·rw [if_pos h0] at h
  by_cases h1 : i < n
  ·rw [if_pos h1] at h
   have e : i.toNat = j := Option.some.inj h
   exact ⟨by rw [seqIndex_of h0 h1, e], by lia, by lia, h1⟩
  ·rw [if_neg h1] at h; cases h
 ·rw [if_neg h0] at h
  by_cases h1 : -(n : Int) <= i
  ·rw [if_pos h1] at h
   have e : (i + n).toNat = j := Option.some.inj h
   exact ⟨by rw [seqIndex_neg (by lia) h1, e], by lia, h1, by lia⟩
  ·rw [if_neg h1] at h; cases h
theorem Po {α : Type} {xs : List α} {i : Int} {v : α} (h : atI xs i = some v) : ∃ j, seqIndex? i xs.length = some j /\ xs[j]? = some v /\ j < xs.length /\ -(xs.length : Int) <= i /\ i < xs.length := by
 unfold atI at h
 cases e : ixN xs.length i with
 | none => rw [e] at h; cases h
 | some j =>
  rw [e] at h
  obtain ⟨h1, h2, h3, h4⟩ := Pc e
  exact ⟨j, h1, h, h2, h3, h4⟩
theorem Af {α : Type} {xs : List α} {j : Nat} {v : α} (h : xs[j]? = some v) : atI xs (j : Int) = some v := by
 have hj : j < xs.length := (List.getElem?_eq_some_iff.mp h).1
 have e : ixN xs.length (j : Int) = some j := by
  unfold ixN
  rw [if_pos (by lia), if_pos (by lia)]; simp
 unfold atI; rw [e]; exact h
def PlainIx (b : Expr) : Prop := ∀ o i, subscripted b false o i = operate [o, i] (getItem o i)
def IxR (X : Cx) (r : R2) : Prop :=
 ∀ (value slice : Expr) (pins : List (Addr × Obj)) (s : Shared) (σ : St) (H : Hp) (x y : V) (v u : Value) (Q : VK), Inv X pins σ H s -> Bb x v -> Bb y u -> r x y H Q ->
  subscripted slice false v u = operate [v, u] (getItem v u) -> wpAny (model X.prog X.w) X.A (subscriptTail value slice v u) (EP X pins σ Q) X.xe s
def MtR (X : Cx) (id : String) (r : V -> List V -> Hp -> VK -> Prop) : Prop :=
 ∀ (pins : List (Addr × Obj)) (s : Shared) (σ : St) (H : Hp) (x : V) (xs : List V) (v : Value) (us : List Value) (Q : VK), Inv X pins σ H s -> Bb x v -> Ba xs us -> r x xs H Q ->
  wpAny (model X.prog X.w) X.A (call (.builtin id) (v :: us)) (EP X pins σ Q) X.xe s
section
variable {X : Cx} {a b : Expr} {ta tb : TE} {pos : Pos}
theorem Ak {r : R2} (hr : IxR X r) (ha : PE X a ta) (hb : PE X b tb) (hs : PlainIx b) : PE X (.Subscript a b pos) (tOp r ta tb) := by
 intro pins s σ H Q I h
 exact Subscript_ (binT ha hb I h fun v u s2 x y H2 I2 rx ry q => hr a b pins s2 σ H2 x y v u Q I2 rx ry q (hs _ _))
def rIxL (K : PySem.W.Frag) : R2 := fun x y H Q => ∃ p xs i v, x = .ref p /\ y = .int i /\ SqL K H p xs /\ atI xs i = some v /\ Q v H
def LS (K : PySem.W.Frag) : R2 := fun x y H Q => ∃ p xs i v, x = .ref p /\ y = .int i /\ SqT K H p xs /\ atI xs i = some v /\ Q v H
theorem AC : IxR X (rIxL X.K) := by
 intro value slice pins s σ H x y v u Q I rx ry h hs
 obtain ⟨p, xs, i, z, rfl, rfl, hq, he, q⟩ := h
 cases rx
 obtain ⟨t, rfl⟩ := ry
 obtain ⟨its, r, pl, hz⟩ := I.list hq
 obtain ⟨j, h1, h2, h3, h4, h5⟩ := Po he
 obtain ⟨w, ew, rw'⟩ := r.get h2
 have hl := r.length
 have hn := Mm
 have fin : EP X pins σ Q w s := ⟨z, H, I, rw', q⟩
 by_cases h0 : 0 <= i
 ·have hj : i.toNat = j := by
   rw [seqIndex_of h0 h5] at h1
   exact Option.some.inj h1
  exact item_listR pl.isList h0 (by lia) (by rw [hj]; simpa using ew) fin hs
 ·have hj : (i + (its.toArray.size : Int)).toNat = j := by
   rw [seqIndex_neg (by lia) h4] at h1
   rw [List.size_toArray, <- hl]
   exact Option.some.inj h1
  exact subscriptTail_builtinR (x := w) pl.isList.typeIs slot_list_getitem.lookup
   (wpAny_getItem_list_neg (Q := fun r s' => r = w /\ EP X pins σ Q r s') pl.isList (by lia) (by rw [List.size_toArray] <;> lia) (by lia) (by rw [hj]; simpa using ew) ⟨rfl, fin⟩) hs
theorem Am : IxR X (LS X.K) := by
 intro value slice pins s σ H x y v u Q I rx ry h hs
 obtain ⟨p, xs, i, z, rfl, rfl, hq, he, q⟩ := h
 cases rx
 obtain ⟨t, rfl⟩ := ry
 obtain ⟨its, r, pl, hz⟩ := I.tuple hq
 obtain ⟨j, h1, h2, h3, h4, h5⟩ := Po he
 obtain ⟨w, ew, rw'⟩ := r.get h2
 have hl := r.length
 have hn := Mm
 have fin : EP X pins σ Q w s := ⟨z, H, I, rw', q⟩
 exact subscriptTail_builtinR (x := w) pl.typeIs slot_tuple_getitem.lookup
  (getItem_tuple (j := j) (Q := fun r s' => r = w /\ EP X pins σ Q r s') pl (by lia) (by lia) (by rw [List.size_toArray, <- hl]; exact h1) (by simpa using ew) ⟨rfl, fin⟩) hs
theorem Ol (its : List Value) (n j : Nat) (u : Value) : Obj.mapSeq (·.setIfInBounds j u) { cls := .type "list", data := .seq its.toArray n } = { cls := .type "list", data := .seq (its.set j u).toArray n } := by
 simp [Obj.mapSeq]
theorem Inv.lst {pins : List (Addr × Obj)} {σ : St} {H : Hp} {s : Shared} {p : Addr} {xs : List V} (I : Inv X pins σ H s) (h : H p = some (.lst xs)) :
  ∃ (its : List Value) (n : Nat), Ba xs its /\ s.heap.get? p = some { cls := .type "list", data := .seq its.toArray n } /\ xs.length <= sizeLine := by
 obtain ⟨z, its, n, r, e⟩ := I.hok p _ h
 exact ⟨its, n, r, e, z⟩
theorem Inv.lstUpd {pins : List (Addr × Obj)} {σ : St} {H : Hp} {s : Shared} {p : Addr} {xs ys : List V} {its its' : List Value} {n n' : Nat} {f : Obj -> Obj} (I : Inv X pins σ H s) (h : H p = some (.lst xs))
  (ho : s.heap.get? p = some { cls := .type "list", data := .seq its.toArray n }) (hf : f { cls := .type "list", data := .seq its.toArray n } = { cls := .type "list", data := .seq its'.toArray n' }) (r : Ba ys its') (hz : ys.length <= sizeLine) (t : Nat) :
  Inv X pins σ (upd H p (.lst ys)) { s with heap := s.heap.update p f, toks := t } := by
 have e : (s.heap.update p f).get? p = some { cls := .type "list", data := .seq its'.toArray n' } := by
  rw [Heap.get?_update_self f ho (by rw [hf] <;> rfl), hf]
 refine I.write (x := p) (e := p) (by rw [h]; trivial) (.inl rfl) (fun b u hb q => (Heap.get?_update_other _ _ (Ne.symm hb)).trans q) ⟨_, e⟩ ?_
 exact ⟨hz, its', n', r, e⟩
def rSetL : V -> V -> V -> Hp -> (Hp -> Prop) -> Prop := fun o i v H Q => ∃ p xs k j, o = .ref p /\ i = .int k /\ H p = some (.lst xs) /\ ixN xs.length k = some j /\ Q (upd H p (.lst (xs.set j v)))
theorem MQ : PSet X rSetL := by
 intro pins s σ H o i v ov iv u Q I ro ri rv h
 obtain ⟨p, xs, k, j, rfl, rfl, hp, hj, q⟩ := h
 cases ro
 obtain ⟨t, rfl⟩ := ri
 obtain ⟨its, n, r, ho, hz⟩ := I.lst hp
 obtain ⟨h1, h2, h3, h4⟩ := Pc hj
 have hl := r.length
 have hn := Mm
 have I' : Inv X pins σ (upd H p (.lst (xs.set j v))) { s with heap := s.heap.update p (Obj.mapSeq (·.setIfInBounds j u)) } :=
  I.lstUpd hp ho (Ol its n j u) (r.set rv j) (by rw [List.length_set]; exact hz) s.toks
 by_cases h0 : 0 <= k
 ·have hk : k.toNat = j := by
   rw [seqIndex_of h0 h4] at h1
   exact Option.some.inj h1
  exact PySem.W.ki_setAt ho h0 (by lia) (by rw [List.size_toArray, <- hl]; exact h4) (by rw [hk]; exact ⟨_, I', q⟩)
 ·have hk : (k + (its.toArray.size : Int)).toNat = j := by
   rw [seqIndex_neg (by lia) h3] at h1
   rw [List.size_toArray, <- hl]
   exact Option.some.inj h1
  exact PySem.W.ki_setBack ho (by lia) (by rw [List.size_toArray, <- hl]; exact h3) (by lia) (by rw [hk]; exact ⟨_, I', q⟩)
theorem DR : Go X (.builtin "len") (fun xs H Q => ∃ p ys, xs = [.ref p] /\ (SqL X.K H p ys \/ SqT X.K H p ys) /\ Q (.int ys.length) H) := by
 intro pins s σ H xs us Q I r h
 obtain ⟨p, ys, rfl, hq, q⟩ := h
 obtain ⟨u, rfl, rx⟩ := OE r
 cases rx
 have hn := Mm
 rcases hq with hq | hq
 ·obtain ⟨its, r', pl, hz⟩ := I.list hq
  have hlen := r'.length
  exact Calls.call_len_list pl.isList (by simp only [List.size_toArray] <;> lia) ⟨.int ys.length, H, I.tok _, ⟨s.toks + 1, by rw [List.size_toArray, hlen]⟩, q⟩
 ·obtain ⟨its, r', pl, hz⟩ := I.tuple hq
  have hlen := r'.length
  exact len_tuple pl (by simp only [List.size_toArray] <;> lia) ⟨.int ys.length, H, I.tok _, ⟨s.toks + 1, by rw [List.size_toArray, hlen]⟩, q⟩
theorem MC : Go X (.type "list") (fun xs H Q => ∃ p ys, xs = [.ref p] /\ (SqL X.K H p ys \/ SqT X.K H p ys) /\ ∀ l, H l = none -> Q (.ref l) (upd H l (.lst ys))) := by
 intro pins s σ H xs us Q I r h
 obtain ⟨p, ys, rfl, hq, q⟩ := h
 obtain ⟨u, rfl, rx⟩ := OE r
 cases rx
 have fin : ∀ (its : List Value), Ba ys its -> ys.length <= sizeLine -> ∀ (h' : Heap) (c' : Nat), (∀ b o', s.heap.get? b = some o' -> h'.get? b = some o') ->
   h'.get? s.heap.objs.size = some { cls := .type "list", dict := none, data := .seq its.toArray c', slots := #[] } -> EP X pins σ Q (.ref s.heap.objs.size) { s with heap := h' } := fun its r' hz h' c' kp e =>
  ⟨.ref s.heap.objs.size, _, I.laid (t' := s.toks) kp (Nat.le_refl _) (show Bm X.prog X.w _ h' _ (.lst ys) from ⟨hz, its, c', r', e⟩), rfl, q _ (I.hok.fresh (Nat.le_refl _))⟩
 rcases hq with hq | hq
 ·obtain ⟨its, r', pl, hz⟩ := I.list hq
  have hlen := r'.length
  obtain ⟨o, ho, hc, n, hd⟩ := pl.isList
  exact call_list_seq p (.inl rfl) ho hc hd (fun h' c' kp e => fin its r' hz h' c' kp e) (by simp only [List.size_toArray] <;> lia)
 ·obtain ⟨its, r', pl, hz⟩ := I.tuple hq
  have hlen := r'.length
  obtain ⟨o, ho, hc, n, hd⟩ := pl
  exact call_list_seq p (.inr rfl) ho hc hd (fun h' c' kp e => fin its r' hz h' c' kp e) (by simp only [List.size_toArray] <;> lia)
theorem Em : Go X (.type "tuple") (fun xs H Q => ∃ p ys, xs = [.ref p] /\ ((SqL X.K H p ys /\ ∀ l, H l = none -> Q (.ref l) (upd H l (.tup ys))) \/ (SqT X.K H p ys /\ Q (.ref p) H))) := by
 intro pins s σ H xs us Q I r h
 obtain ⟨p, ys, rfl, h⟩ := h
 obtain ⟨u, rfl, rx⟩ := OE r
 cases rx
 rcases h with ⟨hq, q⟩ | ⟨hq, q⟩
 ·obtain ⟨its, r', pl, hz⟩ := I.list hq
  have hlen := r'.length
  refine call_tuple_list pl.isList (fun h' kp => ?_) (by simp only [List.size_toArray] <;> lia)
  have I1 : Inv X pins σ H { s with heap := h' } := I.kept (t' := s.toks) kp
  have I2 : Inv X pins σ (upd H h'.objs.size (.tup ys)) { s with heap := h'.push { cls := .type "tuple", data := .seq its.toArray } } :=
   I1.laid (t' := s.toks) (fun b o e => Heap.get?_push_of_some _ e) (Nat.le_refl _) (show Bm X.prog X.w _ _ _ (.tup ys) from ⟨hz, its, r', IsTup.new _ _⟩)
  exact ⟨.ref h'.objs.size, _, I2, rfl, q _ (I1.hok.fresh (Nat.le_refl _))⟩
 ·obtain ⟨its, r', pl, hz⟩ := I.tuple hq
  exact call_tuple_same pl ⟨.ref p, H, I, rfl, q⟩
def tyV (K : PySem.W.Frag) (T : String) (x : V) (H : Hp) : Prop := match x with
 | .str _ => T = "str"
 | .int _ => T = "int"
 | .ref p => (T = "list" /\ ∃ xs, SqL K H p xs) \/ (T = "tuple" /\ ∃ o, K.lookup p = some o /\ o.cls = .type "tuple" /\ o.dict = none) \/
   (T = "dict" /\ ((∃ kvs, H p = some (.dK kvs)) \/ ∃ kvs, H p = some (.dT kvs))) \/ (T = "set" /\ ∃ S n, H p = some (.set S n))
 | _ => False
theorem tyV_is {pins : List (Addr × Obj)} {σ : St} {H : Hp} {s : Shared} {T : String} {x : V} {v : Value} (I : Inv X pins σ H s) (r : Bb x v) (ty : tyV X.K T x H) :
  s.TypeIs v T /\ ∀ a, v = .ref a -> ∃ ob, s.heap.get? a = some ob /\ ob.dict = none := by
 cases x with
 | str z =>
  obtain ⟨t, rfl⟩ := r
  cases (show T = "str" from ty)
  exact ⟨typeIs_str s z t, fun _ e => nomatch e⟩
 | int i =>
  obtain ⟨t, rfl⟩ := r
  cases (show T = "int" from ty)
  exact ⟨typeIs_int s i t, fun _ e => nomatch e⟩
 | ref p =>
  cases r
  rcases ty with ⟨rfl, xs, hq⟩ | ⟨rfl, o, hk, hc, hd⟩ | ⟨rfl, hk⟩ | ⟨rfl, S, n, hk⟩
  ·obtain ⟨its, _, pl, _⟩ := I.list hq
   refine ⟨pl.isList.typeIs, fun a e => ?_⟩
   cases e
   obtain ⟨o, n, e, c, hd, _⟩ := pl
   exact ⟨o, e, hd⟩
  ·refine ⟨⟨o, I.kIn p o hk, hc⟩, fun a e => ?_⟩
   cases e
   exact ⟨o, I.kIn _ o hk, hd⟩
  ·have z : ∃ o, s.heap.get? p = some o /\ o.ExactDict := by
    rcases hk with ⟨kvs, hk⟩ | ⟨kvs, hk⟩
    ·obtain ⟨_, _, _, _, o, _, _, e, ex, _⟩ := I.hok p _ hk
     exact ⟨o, e, ex⟩
    ·obtain ⟨_, _, _, _, o, _, _, e, ex, _⟩ := I.hok p _ hk
     exact ⟨o, e, ex⟩
   obtain ⟨o, e, ex⟩ := z
   refine ⟨⟨o, e, ex.1⟩, fun a e2 => ?_⟩
   cases e2
   exact ⟨o, e, ex.2.1⟩
  ·obtain ⟨o, _, _, _, e, ex, _⟩ := I.hok p _ hk
   refine ⟨⟨o, e, ex.1⟩, fun a e2 => ?_⟩
   cases e2
   exact ⟨o, e, ex.2.1⟩
 | _ => exact False.elim ty
def tBM (K : PySem.W.Frag) (T : String) (r : V -> List V -> Hp -> VK -> Prop) (to : TE) (t : TA) : TE := fun σ H Q => to σ H fun x H1 => tyV K T x H1 /\ t σ H1 fun xs H2 => r x xs H2 Q
variable {o e : Expr} {es : List Expr} {to : TE} {t : TA} {name : Str} {apos cpos : Pos} {T id : String} {r : V -> List V -> Hp -> VK -> Prop}
theorem JE (pa : PlainAttrs T) (slot : Slot T name id) (hty : typeOf (.builtin id) = pure (.type "method_descriptor")) (hm : MtR X id r) (ho : PE X o to) (ha : PA X (e :: es) t)
  (hbase : attributeBase o name X.env (eval o X.env) = eval o X.env := by rfl)
  (hfew : ((backTo cpos (starEach (e :: es) X.env)).all (fun x => !x.1) && (backToKw cpos (keywordEach [] X.env)).all (fun x => x.1.isSome)
   && decide ((e :: es).length + ([] : List Keyword).length + (if ([] : List Keyword).isEmpty then 0 else 1) < 30)) = true := by rfl)
  (hline : (apos.endLine == cpos.line) = true := by rfl) (hs : starEach (e :: es) X.env = (false, eval e X.env) :: starEach es X.env := by rfl) (hplain : (backTo cpos (starEach es X.env)).any (·.1) = false := by rfl) :
  PE X (.Call (.Attribute o name apos) (e :: es) [] cpos) (tBM X.K T r to t) := by
 intro pins s σ H Q I h
 refine wpAny_Call_method_late hbase hfew hline rfl (thn (ho pins s σ H _ I h) fun v s1 ⟨x, H1, I1, r1, ty, q1⟩ => ?_)
 obtain ⟨h1, h2⟩ := tyV_is I1 r1 ty
 refine ⟨T, id, pa, slot, hty, h1, h2, ?_⟩
 have hA := ha cpos pins s1 σ H1 _ I1 q1
 rw [hs] at hA ⊢
 refine Calls.callWith_builtin (by show (false || (backTo cpos (starEach es X.env)).any (·.1)) = false; rw [hplain] <;> rfl) (Calls.evalArgs_plain ?_)
 exact thn hA fun us s2 ⟨vs, H2, I2, r2, q2⟩ => hm pins s2 σ H2 x vs v us Q I2 r1 r2 q2
/- xs.append(e), list.index on a module's tuple .. are MtR facts of 06m -/
end
end L2
namespace L2
open PySem PySem.Spec PyProof.Rows
def MtM (X : Cx) (id : String) (r : V -> List V -> Hp -> VK -> Prop) : Prop :=
 ∀ (pins : List (Addr × Obj)) (s : Shared) (σ : St) (H : Hp) (x : V) (xs : List V) (v : Value) (us : List Value) (Q : VK), Inv X pins σ H s -> Bb x v -> Ba xs us -> r x xs H Q ->
  wpAny (model X.prog X.w) X.A (call (.builtin id) (v :: us)) (EP X pins σ Q) X.xe s
theorem Ba.one : ∀ {x : V} {us : List Value}, Ba [x] us -> ∃ u, us = [u] /\ Bb x u
 | _, _, .cons r .nil => ⟨_, rfl, r⟩
section
variable {X : Cx} {pins : List (Addr × Obj)} {σ : St} {H : Hp} {s : Shared} {l b : Addr} {xs ys zs : List V}
theorem Inv.lset {its its' : List Value} {n : Nat} {f : Array Value -> Array Value} {t' : Nat} (I : Inv X pins σ H s) (hH : H l = some (.lst xs))
  (e : s.heap.get? l = some { cls := .type "list", data := .seq its.toArray n }) (hf : f its.toArray = its'.toArray) (hv : Ba ys its') (hz : ys.length <= sizeLine) :
  Inv X pins σ (upd H l (.lst ys)) { s with heap := s.heap.update l (Obj.mapSeq f), toks := t' } := by
 have q := PySem.IsL.update e f
 rw [hf] at q
 refine I.write (x := l) (e := l) (by rw [hH]; exact trivial) (.inl rfl) (fun b' u hb hu => (Heap.get?_update_other s.heap (Obj.mapSeq f) (Ne.symm hb)).trans hu) ⟨_, q⟩ ?_
 exact ⟨hz, its', _, hv, q⟩
theorem Inv.fresh (I : Inv X pins σ H s) : H s.heap.objs.size = none := I.hok.fresh (Nat.le_refl _)
theorem Inv.lstM (I : Inv X pins σ H s) (hH : H l = some (.lst xs)) : xs.length <= sizeLine /\ ∃ (its : List Value) (n : Nat), Ba xs its /\ xs.length = its.length /\ s.heap.get? l = some { cls := .type "list", data := .seq its.toArray n } := by
 obtain ⟨z, its, n, r, e⟩ := I.hok l _ hH
 exact ⟨z, its, n, r, r.length, e⟩
end
section
variable {X : Cx}
def rAppend : V -> List V -> Hp -> VK -> Prop := fun x vs H Q => ∃ l xs y, x = .ref l /\ vs = [y] /\ H l = some (.lst xs) /\ xs.length < sizeLine /\ Q .non (upd H l (.lst (xs ++ [y])))
theorem Eh : MtM X "list.append" rAppend := by
 intro pins s σ H x vs v us Q I rx rv h
 obtain ⟨l, xs, y, rfl, rfl, hH, hz, q⟩ := h
 cases rx
 obtain ⟨u, rfl, ru⟩ := rv.one
 obtain ⟨z, its, n, r, hl, e⟩ := I.lstM hH
 refine call_meets F.slot_list_append ⟨_, e, rfl⟩ F.entry_list_append (F.args_list_append_2 _ _) (PySem.list_append l its.toArray n u (by rw [List.size_toArray]; lia)) ⟨e, ?_⟩
 refine ⟨.non, _, I.lset (its' := its ++ [u]) hH e (by simp) (r.append (.cons ru .nil)) ?_, rfl, q⟩
 rw [List.length_append, List.length_singleton]
 lia
end
section
variable {prog : Program} {w : World} {A : Around} {E : Value -> Shared -> Prop} {s : Shared}
end
section
variable {X : Cx}
end
end L2
namespace Att
open PySem PySem.W PySem.Calls PyProof.Rows
theorem IR {P : Params} {h : Heap} : ∀ (ns : List Int) (vs : List Value), WellAll P h vs (ns.map WData.int) -> IntsAre vs ns := by
 intro ns
 induction ns with
 | nil =>
  intro vs w
  rw [List.map_nil] at w
  cases w
  exact .nil
 | cons n ns ih =>
  intro vs w
  rw [List.map_cons] at w
  cases w with
  | cons a b =>
   cases a
   exact .cons _ _ (ih _ b)
theorem PL {l : OpenLaw} {n : Nat} (hn : l.most = some n) {P : Params} {h : Heap} {args : List WData} {vals : List Value}
  (hpre : l.row.toRowW.claim.pre args = true) (hwl : WellAll P h vals args) :
  ∃ a vs ns, vals = [Value.ref a] /\ args = [WData.list (ns.map WData.int)] /\ h.get? a = some { cls := .type "list", data := .seq vs.toArray } /\ IntsAre vs ns /\ ns.length <= n := by
 have hsh : WShape.hasAll [] args [.list .int] = true := (pre_splitW hpre).1
 have hc : l.pre.holds [] { args := args } = true := (pre_splitW hpre).2
 obtain ⟨d, r, rfl, h1, h2⟩ := hasAllW_cons hsh
 obtain rfl := hasAllW_nil h2
 obtain ⟨xs, rfl, h3⟩ := hasW_list h1
 obtain ⟨ns, rfl⟩ := items_int h3
 have hlen : ns.length <= n := by
  unfold OpenLaw.pre at hc
  have h4 : (WTm.not (.lt (.lit (.int (n : Int))) (.len (.arg 0)))).holds [] { args := [.list (ns.map .int)] } = true := by
   have h4 := (holds_andW hc).1
   rw [hn] at h4
   exact h4
  have h5 := condW_of h4 (w_not (w_lt w_lit (w_len_list (w_arg rfl))))
  rw [List.length_map] at h5
  refine Nat.le_of_not_lt fun q => ?_
  have q' : (n : Int) < ((ns.length : Nat) : Int) := by lia
  first
   | (rw [decide_eq_true q'] at h5; exact absurd h5 (by decide))
   | (simp at h5; lia)
 cases hwl with
 | cons w1 w2 =>
  cases w2
  cases w1 with
  | list ho hall => exact ⟨_, _, ns, rfl, rfl, ho, IR ns _ hall, hlen⟩
theorem PO (l : OpenLaw) (args : List WData) : l.row.toRowW.claim.post args (.bool true) args = true :=
 postW_of (r := l.row.toRowW) (X := (true == true))
  (show WShape.has [] (.bool true) .bool = true by first | rfl | decide | simp [WShape.has, WShape.arms, WShape.armsAll])
  (show (WTm.eq .res (.lit (.bool true))).value [] { args := args, res := some (.bool true), after := args } = some (.bool (true == true)) from w_eq_bool (w_res rfl) w_lit) rfl
theorem NI {l : OpenLaw} {n : Nat} {q : Program} {loose : List Str} {XP : (Str -> Option Value) -> Heap -> Prop} {YP : World -> Heap -> Prop} {d : DefRec}
  (hn : l.most = some n) (hdf : d.params.defaults = [])
  (call : ∀ (w : World) (s₀ s₁ : Shared) (mg mb : Str -> Option Value) (fa : Addr) (o : Obj) (pm cd doc : Value) (a : Addr) (vs : List Value) (ns : List Int),
   Ground q loose [] XP w s₀ mg mb s₁.heap -> YP w s₁.heap ->
   s₁.heap.get? fa = some o -> o.data = .func (docDef d.name d.params d.body d.scope pm cd doc) -> s₁.heap.CodeRec cd d.name -> mg d.name = some (.ref fa) ->
   s₁.heap.get? a = some { cls := .type "list", data := .seq vs.toArray } -> IntsAre vs ns -> ns.length <= n -> s₁.gens = #[] ->
   codeAny (model l.prog w) callerA (.call (.ref fa) ⟨[.ref a], []⟩) (fun r s' => r = .ok (.ret (.bool true)) /\ OldK s₁.heap s'.heap /\ s'.os = s₁.os /\ AllBare s'.gens) s₁) :
  WalkO q loose XP YP l.row.toRowW d [] (fun f vs => PySem.call f vs) := by
 intro w s₀ s₁ mg mb G Y fa o pm cd doc dV kV ho hd hcd hD hmg hg args vals as hpre hlay hrd hwl hlo
 obtain rfl : dV = .none := Dflts.none hD hdf
 obtain rfl : kV = .none := Dflts.noKw hD
 obtain ⟨a, vs, ns, rfl, rfl, hobj, hints, hlen⟩ := PL hn hpre hwl
 refine enter_call (codeAny_mono (call w s₀ s₁ mg mb fa o pm cd doc a vs ns G Y ho (fd_plain hd) hcd hmg hobj hints hlen hg) fun r s' hq => ?_)
 obtain ⟨rfl, h2, h3, h4⟩ := hq
 exact ⟨.inl ⟨.bool true, .bool true, [], rfl, fun _ => rfl, .bool true, PO l _, fun _ => ⟨List.Pairwise.nil, fun _ hm => (nomatch hm)⟩⟩, h2, h3, h4⟩
section
variable {prog : Program} {w : World} {A : Around} {E : Value -> Shared -> Prop} {s : Shared} {K : Frag}
end
end Att
namespace L2
open PySem PySem.Spec PyProof.Rows
theorem Lk : ∀ {vs : List Value} {ns : List Int}, IntsAre vs ns -> Ba (ns.map V.int) vs
 | _, _, .nil => .nil
 | _, _, .cons n t h => .cons ⟨t, rfl⟩ (Lk h)
def Only (H : Hp) : Prop := ∀ b, H b = none \/ ∃ o xs, H b = some (.frz o (.lst xs))
theorem RI {P : Program} {w : World} {K : PySem.W.Frag} {mg mb : Str -> Option Value} {CX : CXT} {k : Nat} {fa a : Addr} {fd : FuncData} {x : Str} {sp : Sp} {s₁ : Shared} {vs : List Value} {ns : List Int}
  (KX : K.In s₁.heap) (hns : s₁.heap.Ns mainGlobals mg) (hb : s₁.heap.Ns builtinsNs mb) (hbb : ∀ x : Str, x ≠ "__name__" -> mb x = bootBuiltins x) (hlim : s₁.heap.NoLimit) (hg : s₁.gens = #[])
  (ha : s₁.heap.get? a = some { cls := .type "list", data := .seq vs.toArray }) (hi : IntsAre vs ns) (hl : ns.length <= sizeLine) (hr : CL k callerA)
  (F : ∀ base : Heap, K.In base -> base.Ns mainGlobals mg -> AY P w K mg base CX k fa fd [x] sp) (hbind : ∀ (s : Shared) (u : Value), BindsTo s fd ⟨[u], []⟩ [(x, u)])
  (hsp : ∀ H : Hp, Only H -> SqL K H a (ns.map V.int) -> sp [.ref a] H (fun v _ => v = .bl true) fun _ _ _ => False)
  (hCX : ∀ H e s', CX [] H s₁ (fun _ _ _ => False) e s' -> False) :
  codeAny (model P w) callerA (.call (.ref fa) ⟨[.ref a], []⟩) (fun r s' => r = .ok (.ret (.bool true)) /\ OldK s₁.heap s'.heap /\ s'.os = s₁.os /\ AllBare s'.gens) s₁ := by
 have rv := Lk hi
 have lenV := hi.length
 have core : ∀ H : Hp, Only H -> SqL K H a (ns.map V.int) -> HOk P w H s₁.heap -> (∀ b, H b ≠ none -> b = a) -> (H a ≠ none -> K.lookup a = none) ->
   codeAny (model P w) callerA (.call (.ref fa) ⟨[.ref a], []⟩) (fun r s' => r = .ok (.ret (.bool true)) /\ OldK s₁.heap s'.heap /\ s'.os = s₁.os /\ AllBare s'.gens) s₁ := by
  intro H hO hS hok hA hK
  have base_of : ∀ {b : Addr} {o : Obj}, s₁.heap.get? b = some o -> H b = none -> (Mu s₁.heap H).get? b = some o := fun e n => RO e n
  have noA : ∀ {b : Addr} {o : Obj} {es : Array DictEntry} {ep : Nat}, s₁.heap.get? b = some o -> o.data = .dict es ep -> H b = none := fun {b o es ep} e d => by
   cases q : H b with
   | none => rfl
   | some u =>
    have e' : b = a := hA b (by rw [q]; simp)
    subst e'
    rw [ha] at e; cases e
    have d' : Data.seq vs.toArray _ = Data.dict es ep := d
    cases d'
  have nsK : ∀ {b : Addr} {m : Str -> Option Value}, s₁.heap.Ns b m -> (Mu s₁.heap H).Ns b m := fun {b m} ⟨o, es, ep, e, d, r⟩ => ⟨o, es, ep, base_of e (noA e d), d, r⟩
  have hKb : K.In (Mu s₁.heap H) := fun b o e => base_of (KX b o e) (by
   cases q : H b with
   | none => rfl
   | some u =>
    have e' : b = a := hA b (by rw [q]; simp)
    subst e'
    rw [hK (by rw [q]; simp)] at e; cases e)
  have hM : Mod K mg (Mu s₁.heap H) := ⟨hKb, nsK hns, ⟨mb, nsK hb, hbb⟩, let ⟨mc, h1, h2⟩ := hlim; ⟨mc, nsK h1, h2⟩⟩
  have e0 : IU P w K mg (Mu s₁.heap H) callerA [] s₁ H := ⟨rfl, hM, fun b o e => of_hidT e, Nat.le_of_eq (Qk _ _), trivial, fun b hb => absurd (show b ∈ ([] : List Addr) from hb) (by simp), hok, .of_eq hg⟩
  refine codeAny_mono ((F _ hKb (nsK hns)).run callerA [] s₁ H ⟨[.ref a], []⟩ [.ref a] [.ref a] _ _ hr e0 (hbind s₁ (.ref a)) (.cons rfl .nil) (hsp H hO hS)) fun r s' h => ?_
  cases r with
  | error e => exact (hCX H e s' h).elim
  | ok fl =>
   cases fl with
   | next => exact False.elim h
   | brk => exact False.elim h
   | cont => exact False.elim h
   | ret u =>
    obtain ⟨v, H', os, bare, un, hok', r', q⟩ := h
    have q' : v = .bl true := q
    subst q'
    obtain rfl : u = Value.bool true := r'
    refine ⟨rfl, OldK.of_keep fun b o e => ?_, os, bare⟩
    cases q : H b with
    | none => exact un.keep b o e q (by intro z; exact absurd (show b ∈ ([] : List Addr) from z) (by simp)) (by simp)
    | some u =>
     rcases hO b with z | ⟨ob, xs, z⟩
     ·rw [q] at z; cases z
     ·have z2 := un.frzs b ob _ z
      obtain ⟨e1, _⟩ := hok b _ z
      obtain ⟨e2, _⟩ := hok' b _ z2
      rw [e] at e1; cases e1
      exact e2
 cases hk : K.lookup a with
 | some o =>
  have e := KX a o hk
  rw [ha] at e
  cases e
  refine core (fun _ => none) (fun _ => .inl rfl) (.inr ⟨_, vs.toArray, _, hk, rfl, rfl, rfl, by rw [List.size_toArray, lenV]; exact hl, by simpa using rv⟩) (fun b u z => by have z' : (none : Option HO) = some u := z; cases z') (fun b z => absurd rfl z) fun z => absurd rfl z
 | none =>
  refine core (fun b => if b = a then some (.frz { cls := .type "list", data := .seq vs.toArray } (.lst (ns.map V.int))) else none) (fun b => ?_) (.inl (.inr ⟨{ cls := .type "list", data := .seq vs.toArray }, if_pos rfl⟩)) (fun b u z => ?_) (fun b z => ?_) fun _ => hk
  ·by_cases hb : b = a
   ·exact .inr ⟨_, _, if_pos hb⟩
   ·exact .inl (if_neg hb)
  ·by_cases hb : b = a
   ·have z' := (if_pos hb).symm.trans z
    cases z'
    subst hb
    exact ⟨ha, by rw [List.length_map]; exact hl, vs, _, rv, ha⟩
   ·have z' := (if_neg hb).symm.trans z
    cases z'
  ·by_cases hb : b = a
   ·exact hb
   ·exact absurd (if_neg hb) z
end L2
namespace L2
open PySem PySem.Spec PyProof.Rows
theorem OC {l : PySem.W.OpenLaw} {n k : Nat} {q : Program} {loose : List Str} {XP : (Str -> Option Value) -> Heap -> Prop} {YP : World -> Heap -> Prop} {d : DefRec} {K : Params -> PySem.W.Frag} {CX : World -> CXT} {sp : World -> Sp} {x : Str}
  (hn : l.most = some n) (hn2 : n <= sizeLine) (hdf : d.params.defaults = []) (hr : CL k callerA)
  (hY : ∀ (w : World) (h : Heap), YP w h -> (K w.params).In h)
  (F : ∀ (w : World) (mg : Str -> Option Value) (fa : Addr) (h : Heap), (K w.params).In h -> h.Ns mainGlobals mg -> mg d.name = some (.ref fa) ->
   ∃ fd : FuncData, (∀ (s : Shared) (u : Value), BindsTo s fd ⟨[u], []⟩ [(x, u)]) /\
    ∀ base : Heap, (K w.params).In base -> base.Ns mainGlobals mg -> AY l.prog w (K w.params) mg base (CX w) k fa fd [x] (sp w))
  (hsp : ∀ (w : World) (H : Hp) (a : Addr) (ns : List Int), ns.length <= n -> Only H -> SqL (K w.params) H a (ns.map V.int) -> sp w [.ref a] H (fun v _ => v = .bl true) fun _ _ _ => False)
  (hCX : ∀ (w : World) (H : Hp) (s : Shared) (e : Value) (s' : Shared), CX w [] H s (fun _ _ _ => False) e s' -> False) :
  PySem.W.WalkO q loose XP YP l.row.toRowW d [] (fun f vs => PySem.call f vs) := by
 refine Att.NI hn hdf fun w s₀ s₁ mg mb fa o pm cd doc a vs ns G Y ho hd hcd hmg hobj hints hlen hg => ?_
 have KX := hY w _ Y
 obtain ⟨fd, hb, hF⟩ := F w mg fa _ KX G.T.g hmg
 exact RI KX G.T.g G.T.b G.T.builtins G.T.nolimit hg hobj hints (Nat.le_trans hlen hn2) hr hF hb (fun H hO hS => hsp w H a ns hlen hO hS) fun H e s' => hCX w H s₁ e s'
end L2
/- THE LAST THEOREM (shape; LID, My.* are yours):
 My.Adr: a structure of the addresses that your layer names (classes, functions); My.Txt K t: a structure (Prop) of the equations over K;
 My.txt_mk : {K} {implicit addresses ..} (e1 : nsIn K mainGlobals "law" = some (some (.ref f))) (e2 : K.lookup f = some ⟨oc, od, .func (fnOf "law" "law" params body scope dV kV doc pm an cdv ct), sl⟩) (e3 : codeIn K cdv "law" = true) .. : ∃ t, My.Txt K t
set_option maxRecDepth 100000 in
set_option maxHeartbeats 0 in
theorem PySem.Challenge.cw_LID_holds : PySem.Challenge.rw_LID.Holds := by
 w_on; o_law; k_head; (case hw => w_witness2)
 k_fill
 refine L2.OC (l := PySem.Challenge.rw_LID) (n := 63) (k := 40) (x := "script") (CX := fun w => ..) (sp := fun _ => My.sp_law) rfl (by decide) rfl ⟨rfl, by decide, by decide⟩ (fun w h Y => PySem.W.kIn_of Y) ?F ?S ?C
 case F =>
  intro w mg fa h KX G hmg
  have T : ∃ t, My.Txt (L2.KOf KX) t := by
   dsimp only [L2.KOf]                          -- K must stand as «<heap const> w.params» for k_is
   refine' My.txt_mk ?e1 ?e2 ?e3 ..
   (case e1 => PySem.W.k_is)                    -- in the order: a name -> its address -> its object -> its parts
   (case e2 => PySem.W.k_is)
   ..
  obtain ⟨t, T⟩ := T
  have e0 := hmg.symm.trans (PySem.W.mg_of KX G T.law)
  cases e0                                       -- fa is the law's own address
  exact ⟨_, fun s u => .of_eq rfl, fun base kb nb => My.law_fn T kb nb⟩     -- if «.of_eq rfl» comes too early: refine' ⟨_, ?b, fun base kb nb => My.law_fn T kb nb⟩; exact fun s u => .of_eq rfl
 case S => exact fun w H a ns hl hO hS => ..
 case C => exact ..
(the tactic k_is has no namespace: write k_is) -/
namespace L2
open PySem PySem.Spec PyProof.Rows
def Dh (s : Stmt) (j : Nat) : Stmt := match s with
 | .ClassDef _ _ _ body _ _ _ _ _ _ _ => body.getD j (.Pass ⟨0, 0, 0, 0⟩)
 | _ => .Pass ⟨0, 0, 0, 0⟩
def Ax (s : Stmt) : Arguments := match s with
 | .FunctionDef _ a _ _ _ _ _ _ _ _ => a
 | _ => { posonlyargs := [], args := [], vararg := none, kwonlyargs := [], kw_defaults := [], kwarg := none, defaults := [] }
def Au (s : Stmt) : List Stmt := match s with
 | .FunctionDef _ _ b _ _ _ _ _ _ _ => b
 | _ => []
def Ah (s : Stmt) : Scope := match s with
 | .FunctionDef _ _ _ _ _ _ sc _ _ _ => sc
 | _ => { kind := .function, names := [], isGenerator := false, isCoroutine := false }
abbrev CX0 : CXT := fun _ _ _ _ _ _ => False
abbrev E0 : XK := fun _ _ _ => False
theorem Ar {X : Cx} : FU CX0 X E0 := fun _ _ _ _ _ _ _ h => h.elim
structure Fun (K : PySem.W.Frag) (x qual : Str) (st : Stmt) (f : Addr) (fd : FuncData) : Prop where
 ex : ∃ (oc : Value) (od : Option Addr) (kV doc pm : Value) (an : Option Addr) (cdv ct : Value) (osl : Array (Option Value)),
  fd = PySem.W.fnOf x qual (Ax st) (Au st) (Ah st) .none kV doc pm an cdv ct /\ K.lookup f = some ⟨oc, od, .func fd, osl⟩ /\ PySem.W.codeIn K cdv qual = true
 kp : PySem.W.keepIn K (.ref f) = true
section
variable {P : Program} {w : World} {K : PySem.W.Frag} {mg : Str -> Option Value} {base : Heap}
theorem Fun.ok {x qual : Str} {st : Stmt} {f : Addr} {fd : FuncData} {N ps : List Str} {k : Nat} {sp : Sp} (F : Fun K x qual st f fd) (S : Az N ps (Ah st)) (len : ∀ vs H Q E, sp vs H Q E -> vs.length = ps.length)
  (hbody : ∀ (cdv : Value) (A : Around) (outer : List Env) (s : Shared) (H : Hp) (vs : List V) (Q : VK) (E : XK), CL k (A.deeper (envOfC qual (Ah st) s.heap.objs.size f cdv)) -> sp vs H Q E ->
   ∃ t, PSs (Qr CX0 P w K mg base N qual (Ah st) f cdv A outer s H E).nox (Au st) t /\ t { nx := fun _ H' => Q .non H', rt := Q } (IF N vs) H) : AY P w K mg base CX0 (k + 1) f fd ps sp := by
 obtain ⟨oc, od, kV, doc, pm, an, cdv, ct, osl, rfl, lk, hcd⟩ := F.ex
 refine fn_of lk hcd S len fun A outer s H vs Q E hr hsp => ?_
 obtain ⟨t, h, q⟩ := hbody cdv A outer s H vs Q E hr hsp
 exact ⟨t, h.nox, q⟩
theorem Fun.binds {x qual : Str} {st : Stmt} {f : Addr} {fd : FuncData} {ps : List Str} (F : Fun K x qual st f fd)
  (h : ∀ (kV doc pm : Value) (an : Option Addr) (cdv ct : Value) (us : List Value), us.length = ps.length -> bindArgs (PySem.W.fnOf x qual (Ax st) (Au st) (Ah st) .none kV doc pm an cdv ct) ⟨us, []⟩ = pure (ps.zip us)) : DA K fd ps [] := by
 obtain ⟨oc, od, kV, doc, pm, an, cdv, ct, osl, rfl, lk, hcd⟩ := F.ex
 exact .all (h kV doc pm an cdv ct)
theorem AE {x qual : Str} {st : Stmt} {f : Addr} {oc : Value} {od an : Option Addr} {osl : Array (Option Value)} {kV doc pm cdv ct : Value} (l : K.lookup f = some ⟨oc, od, .func (PySem.W.fnOf x qual (Ax st) (Au st) (Ah st) .none kV doc pm an cdv ct), osl⟩)
  (c : PySem.W.codeIn K cdv qual = true) (k : PySem.W.keepIn K (.ref f) = true) : Fun K x qual st f (PySem.W.fnOf x qual (Ax st) (Au st) (Ah st) .none kV doc pm an cdv ct) := ⟨⟨oc, od, kV, doc, pm, an, cdv, ct, osl, rfl, l, c⟩, k⟩
end
theorem FW {A : Around} {k : Nat} (hr : CL k A) : A.units + 1 < cLine := Nat.lt_of_le_of_lt (Nat.add_le_add_left (by decide : 1 <= 64) _) hr.units
section
variable {X : Cx}
theorem pv (i : Nat) {x : Str} {pos : Pos} (hN : X.N[i]? = some x := by rfl) (hv : Vis X.env.scope x := by first | exact Or.inl rfl | exact Or.inr (Or.inl rfl) | exact Or.inr (Or.inr rfl)) (hd : (x == ("__debug__" : Str)) = false := by decide)
  (hcd : (x == ("__classdict__" : Str)) = false := by decide) : PE X (.Name x pos) (JY i) := pe_var hN hv hd hcd
end
theorem BC {A B : Prop} (h : B) : if false = true then A else B := by
 rw [if_neg Bool.false_ne_true]
 exact h
theorem Da {A B : Prop} (h : A) : if true = true then A else B := by
 rw [if_pos rfl]
 exact h
theorem Ms {c A B : Prop} [Decidable c] (h1 : c -> A) (h2 : ¬ c -> B) : if c then A else B := by
 by_cases h : c
 ·rw [if_pos h]
  exact h1 h
 ·rw [if_neg h]
  exact h2 h
theorem iteNS {c A B : Prop} [Decidable c] (hc : c) (h : B) : if (!decide c) = true then A else B := by
 rw [decide_eq_true hc]
 exact BC h
def AB (H H' : Hp) : Prop := ∀ b o, H b = some o -> H' b = some o
theorem AB.refl (H : Hp) : AB H H := fun _ _ h => h
theorem AB.trans {H H1 H2 : Hp} (a : AB H H1) (b : AB H1 H2) : AB H H2 := fun c o h => b c o (a c o h)
theorem AB.seq {K : PySem.W.Frag} {H H' : Hp} {a : Addr} {xs : List V} (e : AB H H') (h : SqL K H a xs) : SqL K H' a xs := by
 rcases h with (h | ⟨o, h⟩) | h
 ·exact .inl (.inl (e _ _ h))
 ·exact .inl (.inr ⟨o, e _ _ h⟩)
 ·exact .inr h
end L2
namespace L2
open PySem PySem.Spec PyProof.Rows
section
variable {κ : Type} [DecidableEq κ]
def Bv (kvs : List (κ × V)) (k : κ) : Option V := (kvs.find? fun kv => decide (kv.1 = k)).map (·.2)
def Di (kvs : List (κ × V)) (k : κ) (v : V) : List (κ × V) :=
 if (kvs.any fun kv => decide (kv.1 = k)) = true then kvs.map (fun kv => if kv.1 = k then (kv.1, v) else kv) else kvs ++ [(k, v)]
theorem Bz {p : κ × V} {r : List (κ × V)} {k : κ} (e : p.1 = k) : Bv (p :: r) k = some p.2 := by simp [Bv, List.find?_cons, e]
theorem Bc {p : κ × V} {r : List (κ × V)} {k : κ} (e : ¬ p.1 = k) : Bv (p :: r) k = Bv r k := by simp [Bv, List.find?_cons, e]
theorem ER (k : κ) : ∀ kvs : List (κ × V), (kvs.any fun kv => decide (kv.1 = k)) = (Bv kvs k).isSome
 | [] => rfl
 | p :: r => by
  rw [List.any_cons]
  by_cases e : p.1 = k
  ·simp only [Bz e, decide_eq_true e, Bool.true_or, Option.isSome_some]
  ·rw [Bc e, decide_eq_false e, Bool.false_or]; exact ER k r
theorem MI (k j : κ) (y : V) : ∀ kvs : List (κ × V), Bv (kvs.map fun kv => if kv.1 = k then (kv.1, y) else kv) j = (Bv kvs j).map fun x => if j = k then y else x
 | [] => rfl
 | p :: r => by
  have ih := MI k j y r
  rw [List.map_cons]
  by_cases h : p.1 = k
  ·rw [if_pos h]
   by_cases e : p.1 = j
   ·rw [Bz (p := (p.1, y)) e, Bz e, Option.map_some, if_pos (e.symm.trans h)]
   ·rw [Bc (p := (p.1, y)) e, Bc e, ih]
  ·rw [if_neg h]
   by_cases e : p.1 = j
   ·rw [Bz (p := p) e, Bz e, Option.map_some, if_neg (fun z => h (e.trans z))]
   ·rw [Bc (p := p) e, Bc e, ih]
theorem Ll (k j : κ) (y : V) : ∀ kvs : List (κ × V), Bv kvs k = none -> Bv (kvs ++ [(k, y)]) j = if j = k then some y else Bv kvs j
 | [], _ => by
  by_cases e : k = j
  ·rw [if_pos e.symm]; exact Bz (p := (k, y)) e
  ·rw [if_neg (fun z => e z.symm)]; exact Bc (p := (k, y)) e
 | p :: r, hn => by
  rw [List.cons_append]
  have hk : ¬ p.1 = k := fun z => by rw [Bz z] at hn; cases hn
  rw [Bc hk] at hn
  have ih := Ll k j y r hn
  by_cases e : p.1 = j
  ·rw [Bz e, Bz e, if_neg (fun z => hk (e.trans z))]
  ·rw [Bc e, Bc e, ih]
theorem Jr (kvs : List (κ × V)) (k j : κ) (y : V) : Bv (Di kvs k y) j = if j = k then some y else Bv kvs j := by
 unfold Di
 by_cases a : (kvs.any fun kv => decide (kv.1 = k)) = true
 ·rw [if_pos a, MI]
  rw [ER] at a
  by_cases e : j = k
  ·obtain ⟨x, hx⟩ := Option.isSome_iff_exists.mp a
   rw [if_pos e, e, hx, Option.map_some, if_pos rfl]
  ·rw [if_neg e]
   cases Bv kvs j with
   | none => rfl
   | some x => rw [Option.map_some, if_neg e]
 ·rw [if_neg a]
  refine Ll k j y kvs ?_
  rw [ER] at a
  cases q : Bv kvs k with
  | none => rfl
  | some x => rw [q] at a; exact (a rfl).elim
theorem Gf (kvs : List (κ × V)) (k : κ) (v : V) : (Di kvs k v).length <= kvs.length + 1 := by
 unfold Di
 split
 ·rw [List.length_map]; lia
 ·rw [List.length_append, List.length_cons, List.length_nil]; lia
theorem Gb {kvs : List (κ × V)} {k : κ} (v : V) (h : Bv kvs k = none) : Di kvs k v = kvs ++ [(k, v)] := by
 unfold Di
 rw [ER, h]
 exact if_neg (by decide)
theorem FT.isSome_eq {o : Option V} {u : Option Value} (r : FT o u) : o.isSome = u.isSome := by
 cases o with
 | none => cases u with
  | none => rfl
  | some _ => exact (show False from r).elim
 | some _ => cases u with
  | none => exact (show False from r).elim
  | some _ => rfl
theorem FT.getD {o : Option V} {u : Option Value} {d : V} {d' : Value} (r : FT o u) (rd : Bb d d') : Bb (o.getD d) (u.getD d') := by
 cases o with
 | none => cases u with
  | none => exact rd
  | some _ => exact (show False from r).elim
 | some _ => cases u with
  | none => exact (show False from r).elim
  | some _ => exact r
theorem KV.val {kvs : List (κ × V)} {vs : List (κ × Value)} (r : KV kvs vs) (k : κ) : FT (Bv kvs k) (valueAt vs k) := by
 unfold KV at r
 induction r with
 | nil => exact True.intro
 | @cons p q ps qs h t ih =>
  obtain ⟨h1, h2⟩ := h
  by_cases e : p.1 = k
  ·have e' : q.1 = k := h1.symm.trans e
   have b : valueAt (q :: qs) k = some q.2 := by simp [valueAt, List.find?_cons, e']
   rw [Bz e, b]; exact h2
  ·have e' : ¬ q.1 = k := fun z => e (h1.trans z)
   have b : valueAt (q :: qs) k = valueAt qs k := by simp [valueAt, List.find?_cons, e']
   rw [Bc e, b]; exact ih
theorem KV.any {kvs : List (κ × V)} {vs : List (κ × Value)} (r : KV kvs vs) (k : κ) : (kvs.any fun kv => decide (kv.1 = k)) = vs.any fun kv => decide (kv.1 = k) := by
 unfold KV at r
 induction r with
 | nil => rfl
 | cons h t ih => rw [List.any_cons, List.any_cons, ih, h.1]
theorem KV.repl {kvs : List (κ × V)} {vs : List (κ × Value)} (r : KV kvs vs) (k : κ) {y : V} {u : Value} (ry : Bb y u) :
  KV (kvs.map fun kv => if kv.1 = k then (kv.1, y) else kv) (vs.map fun kv => if kv.1 = k then (kv.1, u) else kv) := by
 unfold KV at r ⊢
 induction r with
 | nil => exact .nil
 | @cons p q ps qs h t ih =>
  rw [List.map_cons, List.map_cons]
  refine .cons ?_ ih
  obtain ⟨h1, h2⟩ := h
  by_cases e : p.1 = k
  ·rw [if_pos e, if_pos (h1.symm.trans e)]; exact ⟨h1, ry⟩
  ·rw [if_neg e, if_neg (fun z => e (h1.trans z))]; exact ⟨h1, h2⟩
theorem KV.put {kvs : List (κ × V)} {vs : List (κ × Value)} (r : KV kvs vs) (k : κ) {y : V} {u : Value} (ry : Bb y u) : KV (Di kvs k y) (stored vs k u) := by
 unfold Di stored
 rw [r.any k]
 by_cases e : (vs.any fun kv => decide (kv.1 = k)) = true
 ·rw [if_pos e, if_pos e]; exact r.repl k ry
 ·rw [if_neg e, if_neg e]; exact Paired.snoc r ⟨rfl, ry⟩
theorem KV.length {kvs : List (κ × V)} {vs : List (κ × Value)} (r : KV kvs vs) : kvs.length = vs.length := Paired.length r
end
theorem Pb {P : Program} {w : World} {k : Key} {u : Value} (r : Bb (kV k) u) : (Cf P w).is k u = true := by
 cases k with
 | inl i => obtain ⟨t, e⟩ := (show ∃ t, u = Value.int i t from r); subst e; exact Nv P w i t
 | inr x => obtain ⟨t, e⟩ := (show ∃ t, u = Value.str x t from r); subst e; exact Nt P w x t
theorem Lw {P : Program} {w : World} : ∀ {ks : List Key} {us : List Value}, Ba (ks.map kV) us -> ItemsAre (Cf P w) ks us
 | [], _, r => by rw [List.map_nil] at r; cases r; exact .nil
 | k :: ks, _, r => by
  rw [List.map_cons] at r
  cases r with
  | cons h t => exact .cons (Pb h) (Lw t)
abbrev KT (H : Hp) : List (List Key × V) -> List (List Key × Addr × Value) -> Prop := Paired fun p q => p.1 = q.1 /\ H q.2.1 = some (.tup (p.1.map kV)) /\ Bb p.2 q.2.2
theorem KT.val {H : Hp} {kvs : List (List Key × V)} {xs : List (List Key × Addr × Value)} (r : KT H kvs xs) (k : List Key) : FT (Bv kvs k) ((atKey xs k).map (·.2)) := by
 induction r with
 | nil => exact True.intro
 | @cons p q ps qs h t ih =>
  obtain ⟨h1, _, h2⟩ := h
  by_cases e : p.1 = k
  ·have e' : q.1 = k := h1.symm.trans e
   have b : atKey (q :: qs) k = some q.2 := by simp [atKey, List.find?_cons, e']
   rw [Bz e, b]; exact h2
  ·have e' : ¬ q.1 = k := fun z => e (h1.trans z)
   have b : atKey (q :: qs) k = atKey qs k := by simp [atKey, List.find?_cons, e']
   rw [Bc e, b]; exact ih
theorem KT.repl {H : Hp} {kvs : List (List Key × V)} {xs : List (List Key × Addr × Value)} (r : KT H kvs xs) (k : List Key) {y : V} {u : Value} (ry : Bb y u) :
  KT H (kvs.map fun kv => if kv.1 = k then (kv.1, y) else kv) (xs.map (putAt k u)) := by
 induction r with
 | nil => exact .nil
 | @cons p q ps qs h t ih =>
  rw [List.map_cons, List.map_cons]
  refine .cons ?_ ih
  obtain ⟨h1, h2, h3⟩ := h
  unfold putAt
  by_cases e : p.1 = k
  ·rw [if_pos e, if_pos (h1.symm.trans e)]; exact ⟨h1, h2, ry⟩
  ·rw [if_neg e, if_neg (fun z => e (h1.trans z))]; exact ⟨h1, h2, h3⟩
theorem KT.put {H : Hp} {kvs : List (List Key × V)} {xs : List (List Key × Addr × Value)} (r : KT H kvs xs) (k : List Key) {b : Addr} {y : V} {u : Value} (hb : H b = some (.tup (k.map kV))) (ry : Bb y u) :
  KT H (Di kvs k y) (storedH xs k b u) := by
 have e : (kvs.any fun kv => decide (kv.1 = k)) = (atKey xs k).isSome := by
  rw [ER, (r.val k).isSome_eq, Option.isSome_map]
 unfold Di storedH
 rw [e]
 by_cases q : (atKey xs k).isSome = true
 ·rw [if_pos q, if_pos q]; exact r.repl k ry
 ·rw [if_neg q, if_neg q]; exact Paired.snoc r ⟨rfl, hb, ry⟩
theorem KT.keeps {H H' : Hp} {kvs : List (List Key × V)} {xs : List (List Key × Addr × Value)} (r : KT H kvs xs) (ht : ∀ b ys, H b = some (.tup ys) -> H' b = some (.tup ys)) : KT H' kvs xs :=
 Paired.mapP r fun _ _ z => ⟨z.1, ht _ _ z.2.1, z.2.2⟩
section
variable {P : Program} {w : World} {H : Hp} {h : Heap} {a : Addr}
theorem rd_of {u : HO} (ok : HOk P w H h) (e : Rd H a u) : Bm P w H h a u := e.ok ok
theorem NB {kvs : List (Key × V)} (ok : HOk P w H h) (e : Rd H a (.dK kvs)) : kvs.length <= sizeLine /\ (a == sysModules) = false /\ ∃ vs, KV kvs vs /\ h.DictOf (Cf P w) a vs :=
 show Bm P w H h a (.dK kvs) from rd_of ok e
theorem dk_of {kvs : List (Key × V)} (ok : HOk P w H h) (e : H a = some (.dK kvs)) : kvs.length <= sizeLine /\ (a == sysModules) = false /\ ∃ vs, KV kvs vs /\ h.DictOf (Cf P w) a vs := NB ok (.inl e)
theorem Mq {ks : List Key} (ok : HOk P w H h) (e : H a = some (.tup (ks.map kV))) : (tupleKind (Cf P w)).is h ks a := by
 obtain ⟨_, its, r, o, h1, h2, n, h3⟩ := (show Bm P w H h a (.tup (ks.map kV)) from ok a _ e)
 exact ⟨o, its.toArray, n, h1, h2, h3, by simpa using Lw r⟩
theorem Lz {kvs : List (List Key × V)} (ok : HOk P w H h) (e : Rd H a (.dT kvs)) : kvs.length <= sizeLine /\ (a == sysModules) = false /\
  ∃ xs, KT H kvs xs /\ h.DictOfH (tupleKind (Cf P w)) a xs := by
 obtain ⟨z, y, xs, r, o, es, ep, h1, h2, h3, h4, h5⟩ := (show Bm P w H h a (.dT kvs) from rd_of ok e)
 refine ⟨z, y, xs, r, o, es, ep, h1, h2, h3, h4, fun x hx => ?_, h5⟩
 have all : ∀ {l : List (List Key × V)} {m : List (List Key × Addr × Value)}, KT H l m -> ∀ x ∈ m, (tupleKind (Cf P w)).is h x.1 x.2.1 := by
  intro l m q
  induction q with
  | nil => intro x hx; exact nomatch hx
  | @cons p q ps qs hq t ih =>
   intro x hx
   rcases List.mem_cons.mp hx with e | hx
   ·subst e
    exact Mq ok (by rw [<- hq.1]; exact hq.2.1)
   ·exact ih x hx
 exact all r x hx
theorem dt_of {kvs : List (List Key × V)} (ok : HOk P w H h) (e : H a = some (.dT kvs)) : kvs.length <= sizeLine /\ (a == sysModules) = false /\
  ∃ xs, KT H kvs xs /\ h.DictOfH (tupleKind (Cf P w)) a xs := Lz ok (.inl e)
end
def IZ (H : Hp) (a : Addr) (y : V) (r : Option V) : Prop :=
 (∃ kvs k, Rd H a (.dK kvs) /\ y = kV k /\ r = Bv kvs k) \/ ∃ kvs k b, Rd H a (.dT kvs) /\ y = .ref b /\ H b = some (.tup (k.map kV)) /\ r = Bv kvs k
def IW (H : Hp) (a : Addr) (y v : V) (H' : Hp) : Prop :=
 (∃ kvs k, H a = some (.dK kvs) /\ y = kV k /\ kvs.length < sizeLine /\ H' = upd H a (.dK (Di kvs k v))) \/
 ∃ kvs k b, H a = some (.dT kvs) /\ y = .ref b /\ H b = some (.tup (k.map kV)) /\ kvs.length < sizeLine /\ H' = upd H a (.dT (Di kvs k v))
theorem IZ.k {H : Hp} {a : Addr} {kvs : List (Key × V)} {k : Key} (e : H a = some (.dK kvs)) : IZ H a (kV k) (Bv kvs k) := .inl ⟨kvs, k, .inl e, rfl, rfl⟩
theorem IZ.t {H : Hp} {a b : Addr} {kvs : List (List Key × V)} {k : List Key} (e : H a = some (.dT kvs)) (eb : H b = some (.tup (k.map kV))) : IZ H a (.ref b) (Bv kvs k) := .inr ⟨kvs, k, b, .inl e, rfl, eb, rfl⟩
theorem IW.k {H : Hp} {a : Addr} {kvs : List (Key × V)} {k : Key} {v : V} (e : H a = some (.dK kvs)) (hl : kvs.length < sizeLine) : IW H a (kV k) v (upd H a (.dK (Di kvs k v))) := .inl ⟨kvs, k, e, rfl, hl, rfl⟩
theorem IW.t {H : Hp} {a b : Addr} {kvs : List (List Key × V)} {k : List Key} {v : V} (e : H a = some (.dT kvs)) (eb : H b = some (.tup (k.map kV))) (hl : kvs.length < sizeLine) :
  IW H a (.ref b) v (upd H a (.dT (Di kvs k v))) := .inr ⟨kvs, k, b, e, rfl, eb, hl, rfl⟩
section
variable {X : Cx} {pins : List (Addr × Obj)} {σ : St} {H : Hp} {s : Shared} {a : Addr} {y v : V} {u r : Value} {o : Option V} {A : Around} {E : Value -> Shared -> Prop}
theorem Inv.big (I : Inv X pins σ H s) : sysModules < s.heap.objs.size := by
 have h : mainGlobals < s.heap.objs.size := (I.mod.glob.keeps I.bk).lt
 exact Nat.lt_trans (by decide) h
theorem Qq {Q : Value -> Shared -> Prop} (hu : A.units + 1 < cLine) (I : Inv X pins σ H s) (g : IZ H a y (some v)) (ry : Bb y u) (h : ∀ w' s', Inv X pins σ H s' -> Bb v w' -> Q w' s') :
  wpAny (model X.prog X.w) A (getItem (.ref a) u) Q E s := by
 rcases g with ⟨kvs, k, e, ey, l⟩ | ⟨kvs, k, b, e, ey, eb, l⟩
 ·subst ey
  obtain ⟨z, hd, vs, rel, dd⟩ := NB I.hok e
  obtain ⟨w', hw, rw'⟩ := FT.some_of (v := v) (o := valueAt vs k) (by rw [l]; exact rel.val k)
  exact wpAny_getItem_of (Pb ry) dd.mapOf hw (h w' _ (I.tok _) rw')
 ·subst ey
  cases (show u = Value.ref b from ry)
  obtain ⟨z, hd, xs, rel, dd⟩ := Lz I.hok e
  obtain ⟨w', hw, rw'⟩ := FT.some_of (v := v) (o := (atKey xs k).map (·.2)) (by rw [l]; exact rel.val k)
  obtain ⟨p, hp, hp2⟩ := Option.map_eq_some_iff.mp hw
  refine wpAny_getItem_heap (tupleKind_room_in1 hu) (Mq I.hok eb) dd hp ?_
  rw [hp2]
  exact h w' _ (I.tok _) rw'
theorem Jo {h' : Heap} {t' : Nat} {ob : HO} (I : Inv X pins σ H s) (mu : Mut (H a)) (hs : Heap.SameBut a s.heap h') (he : ∃ q, h'.get? a = some q) (new : Bm X.prog X.w (upd H a ob) h' a ob) :
  Inv X pins σ (upd H a ob) { s with heap := h', toks := t' } :=
 I.write (x := a) (e := a) mu (.inl rfl) (fun b q hb z => (hs.2 b hb).trans z) he new
theorem dk_new {P : Program} {w : World} {H' : Hp} {h' : Heap} {kvs : List (Key × V)} {vs : List (Key × Value)} (z : kvs.length <= sizeLine) (hd : (a == sysModules) = false) (rel : KV kvs vs) (dd : h'.DictOf (Cf P w) a vs) :
  Bm P w H' h' a (.dK kvs) := ⟨z, hd, vs, rel, dd⟩
theorem Qp {H' : Hp} {Q : Unit -> Shared -> Prop} (hu : A.units + 1 < cLine) (I : Inv X pins σ H s) (g : IW H a y v H') (ry : Bb y u) (rv : Bb v r) (h : ∀ s', Inv X pins σ H' s' -> Q () s') :
  wpAny (model X.prog X.w) A (setItem (.ref a) u r) Q E s := by
 rcases g with ⟨kvs, k, e, ey, l, eH⟩ | ⟨kvs, k, b, e, ey, eb, l, eH⟩
 ·subst ey eH
  obtain ⟨z, hd, vs, rel, dd⟩ := dk_of I.hok e
  have hz : vs.length <= sizeLine := by rw [<- rel.length]; exact z
  have hl : (Di kvs k v).length <= sizeLine := by have := Gf kvs k v; lia
  refine wpAny_setItem_pairs (hsz := hz) (Pb ry) dd fun h' dd' hs => h _ ?_
  have he : ∃ q, h'.get? a = some q := let ⟨q, _, _, hq, _⟩ := dd'; ⟨q, hq⟩
  exact Jo I (by rw [e]; exact True.intro) hs he (dk_new hl hd (rel.put k rv) dd')
 ·subst ey eH
  cases (show u = Value.ref b from ry)
  obtain ⟨z, hd, xs, rel, dd⟩ := dt_of I.hok e
  have hz : xs.length <= sizeLine := by rw [<- Paired.length rel]; exact z
  have hl : (Di kvs k v).length <= sizeLine := by have := Gf kvs k v; lia
  refine wpAny_setItem_heap (hsz := hz) (tupleKind_room_in1 hu) (Mq I.hok eb) dd fun h' dd' hs => h _ ?_
  obtain ⟨q, es, ep, hq, h2, h3, h4, _, h5⟩ := dd'
  refine Jo I (by rw [e]; exact True.intro) hs ⟨q, hq⟩ ⟨hl, hd, _, (rel.put k eb rv).keeps fun c ys ec => ?_, q, es, ep, hq, h2, h3, h4, h5⟩
  rw [Av (Bn ec e (fun z => nomatch z))]
  exact ec
end
section
variable {X : Cx} {pins : List (Addr × Obj)} {σ : St} {H : Hp} {s : Shared} {a : Addr} {kvs : List (Key × V)} {k : Key} {u : Value} {A : Around} {E : Value -> Shared -> Prop}
end
def NoSl (i : Expr) : Prop := ∀ ov iv, subscripted i false ov iv = operate [ov, iv] (getItem ov iv)
theorem subD_of {prog : Program} {w : World} {A : Around} {E : Value -> Shared -> Prop} {s : Shared} {env : Env} {value slice : Expr} {pos : Pos} {T id : String} {Q : Value -> Shared -> Prop}
  (hl : typeLookup (.type T) "__getitem__" = pure (some (.builtin id))) (hs : NoSl slice)
  (h : wpAny (model prog w) A (eval value env) (fun o s₁ => wpAny (model prog w) A (eval slice env) (fun i s₂ => s₂.TypeIs o T /\ wpAny (model prog w) A (getItem o i) Q E s₂) E s₁) E s) :
  wpAny (model prog w) A (eval (.Subscript value slice pos) env) Q E s := by
 refine Subscript_ (wpAny_mono h (fun o s₁ h₁ => wpAny_mono h₁ (fun i s₂ h₂ => ?_) fun _ _ x => x) fun _ _ x => x)
 obtain ⟨hT, h₂⟩ := h₂
 unfold subscriptTail
 refine wpAny_bind ?_
 rw [getitemInPython_of_ne hT.not_modules]
 refine wpAny_bind (wpAny_specialOf hT hl ?_)
 have fin : wpAny (model prog w) A (subscripted slice false o i) (fun r s₃ => wpAny (model prog w) A (letTemporaryGo value o r >>= fun _ => pure r) Q E s₃) E s₂ := by
  rw [hs o i]
  exact wpAny_operating (wpAny_mono h₂ (fun r s₃ h₃ => wpAny_bind (wpAny_letTemporaryGo (wpAny_pure h₃))) fun _ _ x => x)
 first
  | exact wpAny_pure (wpAny_bind fin)
  | exact wpAny_bind (wpAny_pure (wpAny_bind fin))
  | exact wpAny_bind fin
theorem NC {X : Cx} {pins : List (Addr × Obj)} {σ : St} {H : Hp} {s : Shared} {a : Addr} {y : V} {o : Option V} (I : Inv X pins σ H s) (g : IZ H a y o) : s.TypeIs (.ref a) "dict" := by
 rcases g with ⟨kvs, k, e, _, _⟩ | ⟨kvs, k, b, e, _, _, _⟩
 ·obtain ⟨_, _, vs, _, dd⟩ := NB I.hok e
  exact dd.typeIs
 ·obtain ⟨_, _, xs, _, dd⟩ := Lz I.hok e
  exact dd.typeIs
def tDGet (td ty : TE) : TE := fun σ H Q => td σ H fun x H1 => ty σ H1 fun y H2 => ∃ a v, x = .ref a /\ IZ H2 a y (some v) /\ Q v H2
def sDPut (td ty tv : TE) : TS := fun D σ H => tv σ H fun v H1 => td σ H1 fun x H2 => ty σ H2 fun y H3 => ∃ a H4, x = .ref a /\ IW H3 a y v H4 /\ D.nx σ H4
section
variable {X : Cx} {o i e value : Expr} {pos pos' tpos : Pos} {td ty tv : TE}
theorem OR (hu : X.A.units + 1 < cLine) (ho : PE X o td) (hi : PE X i ty) (hs : NoSl i) : PE X (.Subscript o i pos) (tDGet td ty) := by
 intro pins s σ H Q I h
 refine subD_of PySem.F.slot_dict_getitem.lookup hs (thn (ho pins s σ H _ I h) fun u s1 ⟨x, H1, I1, rx, q1⟩ => thn (hi pins s1 σ H1 _ I1 q1) fun iv s2 ⟨y, H2, I2, ry, a, v, ex, g, q2⟩ => ?_)
 subst ex
 obtain rfl : u = Value.ref a := rx
 exact ⟨NC I2 g, Qq hu I2 g ry fun w' s3 I3 rw' => ⟨v, H2, I3, rw', q2⟩⟩
theorem FP (hu : X.A.units + 1 < cLine) (ho : PE X o td) (hi : PE X i ty) (hv : PE X value tv) (hs : swapsWith value (some (.Subscript o i pos')) pos.line X.env = pure false) :
  PS X (.Assign [.Subscript o i pos'] value pos) (sDPut td ty tv) := by
 intro pins s σ H D I h
 refine wpAny_Assign_Subscript (thn (hv pins s σ H _ I h) fun r s1 ⟨v, H1, I1, rv, q1⟩ => thn (ho pins s1 σ H1 _ I1 q1) fun u s2 ⟨x, H2, I2, rx, q2⟩ => thn (hi pins s2 σ H2 _ I2 q2) fun iv s3 ⟨y, H3, I3, ry, a, H4, ex, g, q3⟩ => ?_) hs
 subst ex
 obtain rfl : u = Value.ref a := rx
 exact Qp hu I3 g ry rv fun s4 I4 => ⟨σ, H4, I4, q3⟩
end
theorem Sb {P : Program} {w : World} {H : Hp} (h : Heap) (hb : sysModules < h.objs.size) : Bm P w H (h.push { cls := .type "dict", data := .dict #[] }) h.objs.size (.dK []) :=
 ⟨Nat.zero_le _, beq_eq_false_iff_ne.mpr (Ne.symm (Nat.ne_of_lt hb)), [], .nil, Heap.DictOf.new h⟩
theorem Sa {P : Program} {w : World} {H : Hp} (h : Heap) (hb : sysModules < h.objs.size) : Bm P w H (h.push { cls := .type "dict", data := .dict #[] }) h.objs.size (.dT []) :=
 ⟨Nat.zero_le _, beq_eq_false_iff_ne.mpr (Ne.symm (Nat.ne_of_lt hb)), [], .nil, _, #[], 0, Heap.get?_push_size _ rfl, ⟨rfl, rfl, rfl⟩, rfl, rfl, List.nodup_nil⟩
def tDNewK : TE := fun _ H Q => ∀ p, H p = none -> Q (.ref p) (upd H p (.dK []))
def tDNewT : TE := fun _ H Q => ∀ p, H p = none -> Q (.ref p) (upd H p (.dT []))
section
variable {X : Cx} {pos : Pos}
theorem Nc : PE X (.Dict [] [] pos) tDNewK := fun pins s σ H Q I h =>
 wpAny_Dict_empty ⟨.ref s.heap.objs.size, _, I.laid (a := s.heap.objs.size) (o := .dK []) (t' := s.toks) (fun _ _ q => Heap.get?_push_of_some _ q) (Nat.le_refl _) (Sb s.heap I.big), rfl, h _ (I.hok.fresh (Nat.le_refl _))⟩
theorem GZ : PE X (.Dict [] [] pos) tDNewT := fun pins s σ H Q I h =>
 wpAny_Dict_empty ⟨.ref s.heap.objs.size, _, I.laid (a := s.heap.objs.size) (o := .dT []) (t' := s.toks) (fun _ _ q => Heap.get?_push_of_some _ q) (Nat.le_refl _) (Sa s.heap I.big), rfl, h _ (I.hok.fresh (Nat.le_refl _))⟩
end
structure M1 (X : Cx) (o : Expr) (m : Str) (apos : Pos) (e : Expr) (cpos : Pos) : Prop where
 base : attributeBase o m X.env (eval o X.env) = eval o X.env
 few : ((backTo cpos (starEach [e] X.env)).all (fun x => !x.1) && (backToKw cpos (keywordEach [] X.env)).all (fun x => x.1.isSome)
  && decide (([e] : List Expr).length + ([] : List Keyword).length + (if ([] : List Keyword).isEmpty then 0 else 1) < 30)) = true
 line : (apos.endLine == cpos.line) = true
 trees : backTo cpos (starEach [e] X.env) = [(false, eval e X.env)]
def IsD (H : Hp) (a : Addr) : Prop := (∃ kvs, Rd H a (.dK kvs)) \/ ∃ kvs, Rd H a (.dT kvs)
theorem isD_at {X : Cx} {pins : List (Addr × Obj)} {σ : St} {H : Hp} {s : Shared} {a : Addr} (I : Inv X pins σ H s) (d : IsD H a) :
  s.TypeIs (.ref a) "dict" /\ (∀ b, Value.ref a = .ref b -> ∃ ob, s.heap.get? b = some ob /\ ob.dict = none) /\ (a == sysModules) = false := by
 rcases d with ⟨kvs, e⟩ | ⟨kvs, e⟩
 ·obtain ⟨_, hd, vs, _, dd⟩ := NB I.hok e
  refine ⟨dd.typeIs, fun b q => ?_, hd⟩
  cases q
  obtain ⟨ob, _, _, h1, h2, _⟩ := dd
  exact ⟨ob, h1, h2.2.1⟩
 ·obtain ⟨_, hd, xs, _, dd⟩ := Lz I.hok e
  refine ⟨dd.typeIs, fun b q => ?_, hd⟩
  cases q
  obtain ⟨ob, _, _, h1, h2, _⟩ := dd
  exact ⟨ob, h1, h2.2.1⟩
section
variable {X : Cx} {pins : List (Addr × Obj)} {σ : St} {H : Hp} {s : Shared} {a : Addr} {y d : V} {u r : Value} {o : Option V} {A : Around} {E : Value -> Shared -> Prop}
theorem d_get1 {Q : Value -> Shared -> Prop} (hu : A.units + 1 < cLine) (I : Inv X pins σ H s) (g : IZ H a y o) (ry : Bb y u) (h : ∀ w' s', Inv X pins σ H s' -> Bb (o.getD .non) w' -> Q w' s') :
  wpAny (model X.prog X.w) A (call (.builtin "dict.get") [.ref a, u]) Q E s := by
 rcases g with ⟨kvs, k, e, ey, l⟩ | ⟨kvs, k, b, e, ey, eb, l⟩
 ·subst ey
  obtain ⟨z, hd, vs, rel, dd⟩ := NB I.hok e
  refine call_meetsIn PySem.F.slot_dict_get dd.typeIs PySem.F.entry_dict_get (PySem.F.args_dict_get_2 _ _) (meets_dict_get (Cf X.prog X.w) a (Pb ry) hd) ⟨_, dd.mapOf, h _ _ (I.tok _) ?_⟩
  rw [l]
  exact (rel.val k).getD rfl
 ·subst ey
  cases (show u = Value.ref b from ry)
  obtain ⟨z, hd, xs, rel, dd⟩ := Lz I.hok e
  refine call_meetsIn PySem.F.slot_dict_get dd.typeIs PySem.F.entry_dict_get (PySem.F.args_dict_get_2 _ _) (meetsH_dict_get (tupleKind (Cf X.prog X.w)) a b hd) ⟨tupleKind_room_in1 hu, k, xs, Mq I.hok eb, dd, h _ _ (I.tok _) ?_⟩
  rw [l]
  exact (rel.val k).getD rfl
end
def tDGet1 (td ty : TE) : TE := fun σ H Q => td σ H fun x H1 => ∃ a, x = .ref a /\ IsD H1 a /\ ty σ H1 fun y H2 => ∃ o, IZ H2 a y o /\ Q (o.getD .non) H2
section
variable {X : Cx} {o e f : Expr} {apos cpos : Pos} {td ty tx : TE}
theorem JD (hu : X.A.units + 1 < cLine) (ho : PE X o td) (he : PE X e ty) (m : M1 X o "get" apos e cpos) : PE X (.Call (.Attribute o "get" apos) [e] [] cpos) (tDGet1 td ty) := by
 intro pins s σ H Q I h
 refine wpAny_Call_method m.base m.few m.line PySem.F.plainAttrs_dict PySem.F.slot_dict_get PySem.F.type_dict_get (thn (ho pins s σ H _ I h) fun u s1 ⟨x, H1, I1, rx, a, ex, d, q1⟩ => ?_)
 subst ex
 obtain rfl : u = Value.ref a := rx
 obtain ⟨t1, t2, _⟩ := isD_at I1 d
 refine ⟨t1, t2, ?_⟩
 rw [m.trees]
 refine Calls.callWith_builtin rfl (Calls.evalArgs_plain (Calls.spliced_cons (thn (he pins s1 σ H1 _ I1 q1) fun iv s2 ⟨y, H2, I2, ry, ov, g, q2⟩ => Calls.spliced_nil ?_)))
 exact d_get1 hu I2 g ry fun w' s3 I3 rw' => ⟨_, H2, I3, rw', q2⟩
end
section
variable {X : Cx} {pins : List (Addr × Obj)} {σ : St} {H : Hp} {s : Shared} {a : Addr} {kvs : List (Key × V)} {A : Around} {E : Value -> Shared -> Prop}
end
section
variable {X : Cx} {pins : List (Addr × Obj)} {σ : St} {H : Hp} {s : Shared} {a : Addr} {y : V} {u : Value} {A : Around} {E : Value -> Shared -> Prop}
end
end L2
namespace L2
open PySem PySem.Spec PyProof.Rows
section
variable {X : Cx}
end
section
variable {κ : Type} [DecidableEq κ]
theorem Qz {kvs : List (κ × V)} {k : κ} (h : Bv kvs k = none) : ¬ k ∈ kvs.map (·.1) := by
 intro m
 obtain ⟨p, hp, e⟩ := List.mem_map.mp m
 have q : (kvs.any fun kv => decide (kv.1 = k)) = true := List.any_eq_true.mpr ⟨p, hp, decide_eq_true e⟩
 rw [ER, h] at q
 exact absurd q (by simp)
theorem OU : ∀ {l : List κ} {k : κ}, l.Nodup -> ¬ k ∈ l -> (l ++ [k]).Nodup
 | [], k, _, _ => by simp
 | a :: r, k, h, hk => by
  obtain ⟨h1, h2⟩ := List.nodup_cons.mp h
  show (a :: (r ++ [k])).Nodup
  refine List.nodup_cons.mpr ⟨fun m => ?_, OU h2 fun m => hk (List.mem_cons.mpr (Or.inr m))⟩
  rcases List.mem_append.mp m with q | q
  ·exact h1 q
  ·exact hk (List.mem_cons.mpr (Or.inl (List.mem_singleton.mp q).symm))
theorem OV {kvs : List (κ × V)} {k : κ} (v : V) (hn : (kvs.map (·.1)).Nodup) (h : Bv kvs k = none) : ((Di kvs k v).map (·.1)).Nodup := by
 rw [Gb v h, List.map_append]
 exact OU hn (Qz h)
end
end L2
namespace L2
open PySem PySem.Spec PyProof.Rows
section
variable {P : Program} {w : World} {K : PySem.W.Frag} {mg : Str -> Option Value} {base : Heap} {N : List Str} {qual : Str} {scope : Scope} {f : Addr} {cd : Value} {A : Around} {outer : List Env} {s : Shared} {H : Hp} {E : XK}
end
end L2
namespace L2
open PySem PySem.Spec PyProof.Rows
section
variable {X : Cx} {C : Addr} {x : Str} {np cpos pos : Pos} {e : Expr} {es : List Expr} {t : TA} {E : XK}
end
section
variable {X : Cx} {CX : CXT} {k : Nat} {f : Addr} {fd : FuncData} {ps : List Str} {sp : Sp} {dvs : List V} {ds : List Value} {E : XK} {x : Str} {p pos : Pos} {e : Expr} {es : List Expr} {t : TA} {S : St -> Prop}
end
def isExc (a D : Addr) : HO := .ext fun h => ∃ o, h.get? a = some o /\ o.cls = .ref D /\ PySem.W.notCls o = true
theorem Inv.track {X : Cx} {pins : List (Addr × Obj)} {σ : St} {H : Hp} {s : Shared} {a : Addr} {o : HO} (I : Inv X pins σ H s) (ha : H a = none) (h0 : X.s₀.heap.get? a = none) (hb : X.base.get? a = none) (hL : X.env.locals ≠ a) (hc : ∀ x c, X.env.cells.lookup x = some c -> c ≠ a)
  (hp : ∀ p, p ∈ X.pn ++ pins -> p.1 ≠ a) (hs : ∀ b, b ∈ X.fs -> b ≠ a) (new : Bm X.prog X.w (upd H a o) s.heap a o) : Inv X pins σ (upd H a o) s := by
 have ne : ∀ b u, H b = some u -> b ≠ a := fun b u q z => by rw [z, ha] at q; cases q
 refine ⟨I.ok, I.os, I.bare, ⟨I.base.keep, I.base.slot, fun b u q n x => ?_, I.base.there, fun b xs q => ?_, fun b u v q => ?_, fun b ps q => ?_⟩, I.loc, I.cell, ?_, fun x c q => ?_, fun p z => ?_, fun b u q => ?_, I.len⟩
 ·rw [Av (fun z => by rw [z, h0] at q; cases q)]
  exact I.base.free b u q n x
 ·have z := I.base.tups b xs q
  rw [Av (ne _ _ z)]; exact z
 ·have z := I.base.frzs b u v q
  rw [Av (ne _ _ z)]; exact z
 ·obtain ⟨m, z⟩ := I.base.tbls b ps q
  exact ⟨m, by rw [Av (ne _ _ z)]; exact z⟩
 ·rw [Av hL]; exact I.free
 ·rw [Av (hc x c q)]; exact I.freeC x c q
 ·obtain ⟨e, n, r⟩ := I.pin p z
  exact ⟨e, by rw [Av (hp p z)]; exact n, r⟩
 ·by_cases z : b = a
  ·subst z
   rw [Ai] at q
   cases q
   exact new
  ·rw [Av z] at q
   exact (I.hok b u q).stay (fun c v _ r => r) (fun c r => by rw [Av (ne _ _ r)]; exact r) fun c xs r => by rw [Av (ne _ _ r)]; exact r
end L2
namespace L2
open PySem PySem.Spec PyProof.Rows
section
variable {X : Cx} {C : Addr} {x n : Str} {np hpos pos : Pos} {i : Nat} {b₀ : Stmt} {suite body : List Stmt} {S : St -> Prop} {tb : XK -> TS} {th : TS}
end
section
variable {P : Program} {w : World} {K : PySem.W.Frag} {mg : Str -> Option Value} {base : Heap}
end
section
variable {X : Cx} {k : Nat} {f : Addr} {fd : FuncData} {ps : List Str} {sp : Sp} {x : Str} {p pos : Pos} {e : Expr} {es : List Expr} {t : TA}
end
end L2
namespace L2
open PySem PySem.Spec PyProof.Rows
section
variable {X : Cx} {tg : Expr}
end
end L2
namespace L2
open PySem PySem.Spec PyProof.Rows
section
variable {X : Cx} {iter : Expr} {ti : TE} {x G : Str} {px px1 px2 cpos pos : Pos} {scope : Scope} {g : Str}
end
structure SA (K : PySem.W.Frag) (D : Addr) : Prop where
 hd : PySem.W.hasDictIn K D = true
 ga : PySem.W.findIn K (.ref D) "__getattribute__" = some (some (.builtin "BaseException.__getattribute__"))
 gt : PySem.W.findIn K (.ref D) "__getattr__" = some none
 cl : PySem.W.findIn K (.ref D) "__class__" = some (some (.builtin "object.__class__"))
 sp : PySem.W.specialIn K (.builtin "object.__class__") "__get__" = some (some (.builtin "getset_descriptor.__get__"))
 tk : PySem.W.takesIn K (.builtin "object.__class__") = some true
 mo : PySem.W.mroIn K D (.type "object") = some true
 mb : PySem.W.mroIn K D (.type "BaseException") = some true
section
variable {K : PySem.W.Frag} {prog : Program} {w : World} {A : Around} {E : Value -> Shared -> Prop} {s : Shared} {a D : Addr} {o : Obj}
open PySem.W Builtin Builtin.ObjectAttr Builtin.Getset_descriptor
theorem RZ {M : Model} {h : Heap} (X : K.In h) (f : SA K D) : Looks M h (find (.ref a) (.ref D) "__class__") (.bind (.builtin "getset_descriptor.__get__") (.builtin "object.__class__")) :=
 (looks_findIn X f.cl).andThen ((looks_specialIn X f.sp).andThen ((show Looks M h (dataDescriptor? (some (.builtin "object.__class__")) (some (.builtin "getset_descriptor.__get__"))) (some (.builtin "getset_descriptor.__get__", .builtin "object.__class__")) from (looks_takesIn X f.tk).andThen .now).andThen (Looks.tag .now)))
theorem exc_get {R : Result -> Shared -> Prop} {tp : Value} (X : K.In s.heap) (f : SA K D) (he : s.heap.get? a = some o) (hc : o.cls = .ref D) (hq : R (.ok (.ret (.ref D))) s) :
  codeAny (model prog w) A (.call (.builtin "getset_descriptor.__get__") ⟨[.builtin "object.__class__", .ref a, tp], []⟩) R s := by
 obtain ⟨h, g, d, t, os⟩ := s
 have L0 : Looks (model prog w) h (typeOf (.ref a)) (.ref D) := hc ▸ (Looks.ld he).andThen .now
 have L1 := looks_mroIn (M := model prog w) X f.mo
 refine codeAny_call_builtin KF.slot_gs.plain KF.entry_gs (KF.slot_gs.check _ _ _ _ _ _ _ _ KF.type_class (KF.args_gs _ _ _) ?_)
 unfold Builtin.«getset_descriptor.__get__» descrGet
 rw [dga_obj]
 refine wpAny_bind (wpAny_pure ?_)
 unfold descrGetter descrCheckInstance descrNameAndClass isInstance
 simp only [KF.owner_class]
 repeat lk
 refine ⟨Code.quiet_builtin _ (by decide +kernel), codeAny_builtin KF.entry_class ?_⟩
 unfold Builtin.«object.__class__» shownTypeOf
 repeat lk
 exact hq
theorem Qn {Q : Option Value -> Shared -> Prop} (X : K.In s.heap) (f : SA K D) (he : s.heap.get? a = some o) (hc : o.cls = .ref D) (hq : Q (some (.ref D)) { s with toks := s.toks + 1 }) :
  wpAny (model prog w) A (getAttr? (.ref a) "__class__") Q E s := by
 obtain ⟨h, g, d, t, os⟩ := s
 have L0 : Looks (model prog w) h (typeOf (.ref a)) (.ref D) := hc ▸ (Looks.ld he).andThen .now
 have L1 := looks_findIn (M := model prog w) X f.ga
 have L2 := looks_findIn (M := model prog w) X f.gt
 have L3 := RZ (M := model prog w) (a := a) X f
 have L4 : Looks (model prog w) h (isInstance (.ref a) (.type "BaseException")) true := L0.andThen (looks_mroIn X f.mb)
 unfold getAttr? getAttrBy? getAttrBy
 refine wpAny_bind (wpAny_mkText (wpAny_bind (wpAny_attempt (wpAny_holding (wpAny_bind (L0.at (wpAny_bind (L1.at ?_))))))))
 dsimp only
 have n0 : (Value.builtin "BaseException.__getattribute__" == Value.builtin "object.__getattribute__") = false := by decide +kernel
 rw [if_neg (by rw [n0, Bool.and_false]; exact Bool.false_ne_true)]
 unfold getAttrByItsOwn hookBefore
 rw [if_pos (by rfl)]
 refine wpAny_bind (L2.at ?_)
 refine wpAny_bind (wpAny_attempt (wpAny_holding ?_))
 unfold callGetattribute
 rw [if_neg (by decide)]
 unfold boundAndCalled
 refine wpAny_bind (wpAny_of_eq (PySem.F.excAttr_ValueError.ga.bind (.ref a)) ?_)
 dsimp only
 refine wpAny_call (codeAny_call_builtin PySem.F.excAttr_ValueError.ga.plain PySem.F.entry_bexc_ga ?_)
 have hk : builtinKind "BaseException.__getattribute__" = some .slot := by decide +kernel
 have hsp : splitId "BaseException.__getattribute__" = some ("BaseException", "__getattribute__") := by decide +kernel
 have har := PySem.F.args_bexc_ga (.ref a) (.str "__class__" t)
 simp only [checkBuiltinCall, hk, hsp]
 refine wpAny_bind (L4.at ?_)
 rw [if_neg (by decide)]
 refine wpAny_of_eq (a := ()) har ?_
 unfold Builtin.«object.__getattribute__»
 dsimp only at L3
 repeat ((fail_if_success (with_reducible show wpAny _ _ (call _ _) _ _ _)); lk)
 refine wpAny_call (exc_get (s := ⟨h, g, d, t + 1, os⟩) X f he hc ?_)
 dsimp only
 repeat lk
 exact hq
end
end L2
namespace L2
open PySem PySem.Spec PyProof.Rows
inductive TyX (K : PySem.W.Frag) (H : Hp) : V -> Value -> Prop where
 | of {x : V} {t : Value} (h : IC K H x t) : TyX K H x t
 | exc {a D : Addr} (e : H a = some (isExc a D)) (f : SA K D) : TyX K H (.ref a) (.ref D)
theorem RK {K : PySem.W.Frag} {a D : Addr} (f : SA K D) : PySem.W.KitX K (.ref a) (.ref D) (fun h => ∃ o, h.get? a = some o /\ o.cls = .ref D /\ PySem.W.notCls o = true) where
 ty := fun M h X ⟨o, e, c, _⟩ => c ▸ (PySem.W.Looks.ld e).andThen .now
 it := fun M h X _ => by
  obtain ⟨cd, hc, _⟩ := PySem.W.any_some f.hd
  unfold PySem.W.clsIn at hc
  split at hc
  ·rename_i c' d' cd' sl' ho
   intro A' Q' E' s' k q
   unfold isType loadHead
   exact wpAny_bind (wpAny_loadPart (k _ _ (X _ _ ho)) (wpAny_pure q))
  ·cases hc
 ne := fun h tp dd its n sl X htp => by
  obtain ⟨cd, hc, _⟩ := PySem.W.any_some f.hd
  refine Bool.eq_false_iff.mpr fun q => ?_
  have e : D = tp := Value.ref.inj (beq_iff_eq.mp q)
  subst e
  unfold PySem.W.clsIn at hc
  split at hc
  ·rename_i c' d' cd' sl' ho
   have z := (X _ _ ho).symm.trans htp
   cases z
  ·cases hc
 ca := fun X ⟨o, e, c, _⟩ k => Qn X f e c k
def clsV : V -> Option Value
 | .ty n => some (.type n)
 | .ref C => some (.ref C)
 | _ => none
theorem Gk {X : Cx} : Go X (.builtin "isinstance") (fun xs H Q => ∃ x c cv t b, xs = [x, c] /\ clsV c = some cv /\ TyX X.K H x t /\ PySem.W.kitOne X.K t cv = some b /\ Q (.bl b) H) := by
 intro pins s σ H xs us Q I r h
 obtain ⟨x, c, cv, t, b, rfl, hc, ty, hk, q⟩ := h
 cases r with
 | @cons _ u _ _ rx rr =>
  cases rr with
  | @cons _ v _ _ rc rn =>
   cases rn
   have ev : v = cv := by
    cases c with
    | ty n => cases hc; exact rc
    | ref C => cases hc; exact rc
    | _ => cases hc
   subst ev
   cases ty with
   | of ty => exact Qh I rx ty hk fun tk => ⟨.bl b, H, I.tok tk, rfl, q⟩
   | @exc a D e f =>
    cases (show u = Value.ref a from rx)
    obtain ⟨p, _, _⟩ := (show Bm X.prog X.w H s.heap a (isExc a D) from I.hok a _ e)
    exact PySem.W.kia_one (RK f) I.kIn p hk (fun z => nomatch z) fun tk => ⟨.bl b, H, I.tok tk, rfl, q⟩
section
variable {X : Cx} {c : Expr} {a b : List Stmt} {tc : TT} {t u : TS} {pos : Pos}
end
end L2
namespace L2
open PySem PySem.Spec PyProof.Rows
def Fm (env : Env) (a : List (Str × Addr)) (x : Str × NameKind) : List (Str × Addr) := if (x.2 == NameKind.free) = true then (x.1, (env.cells.lookup x.1).getD 0) :: a else a
def Ow (env : Env) (l : List (Str × NameKind)) : List (Str × Addr) := l.foldl (Fm env) []
theorem Os {α β : Type} {l : List α} {f : α -> β -> Sem (ForInStep β)} {g : β -> α -> β} (h : ∀ x ∈ l, ∀ b, f x b = pure (.yield (g b x))) : ∀ b, forIn l b f = pure (l.foldl g b) := by
 induction l with
 | nil => intro b; rfl
 | cons x l ih =>
  intro b
  rw [List.forIn_cons, h x List.mem_cons_self, pure_bind]
  exact ih (fun y hy => h y (List.mem_cons_of_mem _ hy)) _
theorem JV {scope : Scope} {env : Env} (h : ∀ y ∈ scope.names, y.2 = .free -> ∃ c, env.cells.lookup y.1 = some c) : closureFor scope env = pure (Ow env scope.names) := by
 simp only [closureFor]
 rw [Os (g := Fm env) (fun x hx c => by
  obtain ⟨n, k⟩ := x
  by_cases hk : k = .free
  ·subst hk
   obtain ⟨a, ha⟩ := h _ hx rfl
   have e : cellOf env n = pure a := by unfold cellOf; rw [show env.cells.lookup n = some a from ha]
   simp only [Fm, beq_self_eq_true, if_true, e, show env.cells.lookup n = some a from ha, Option.getD_some]
   rfl
  ·have hb : (k == NameKind.free) = false := by simpa using hk
   simp only [Fm, hb, Bool.false_eq_true, if_false])]
 rfl
theorem LC (env : Env) {y : Str} {c : Addr} : ∀ (l : List (Str × NameKind)) (a : List (Str × Addr)), (l.foldl (Fm env) a).lookup y = some c -> a.lookup y = some c \/ ((y, NameKind.free) ∈ l /\ c = (env.cells.lookup y).getD 0)
 | [], a, h => .inl h
 | (n, k) :: r, a, h => by
  rw [List.foldl_cons] at h
  rcases LC env r _ h with z | ⟨z, e⟩
  ·unfold Fm at z
   split at z
   ·rename_i hk
    have hk' : k = .free := by simpa using hk
    rw [List.lookup_cons] at z
    split at z
    ·rename_i hy
     have hy' : y = n := by simpa using hy
     subst hy' hk'
     exact .inr ⟨List.mem_cons_self, (Option.some.inj z).symm⟩
    ·exact .inl z
   ·exact .inl z
  ·exact .inr ⟨List.mem_cons_of_mem _ z, e⟩
theorem NF (env : Env) {y : Str} : ∀ (l : List (Str × NameKind)) (a : List (Str × Addr)), (∃ c, a.lookup y = some c) -> ∃ c, (l.foldl (Fm env) a).lookup y = some c
 | [], _, h => h
 | (n, k) :: r, a, h => by
  rw [List.foldl_cons]
  refine NF env r _ ?_
  unfold Fm
  split
  ·rw [List.lookup_cons]
   split
   ·exact ⟨_, rfl⟩
   ·exact h
  ·exact h
theorem Ov (env : Env) {y : Str} : ∀ (l : List (Str × NameKind)) (a : List (Str × Addr)), (y, NameKind.free) ∈ l -> ∃ c, (l.foldl (Fm env) a).lookup y = some c
 | [], _, h => by simp at h
 | (n, k) :: r, a, h => by
  rw [List.foldl_cons]
  rcases List.mem_cons.mp h with e | h
  ·cases e
   refine NF env r _ ⟨(env.cells.lookup y).getD 0, ?_⟩
   unfold Fm
   simp only [beq_self_eq_true, if_true, List.lookup_cons]
  ·exact Ov env r _ h
theorem JA {env : Env} {y : Str} : ∀ {names : List (Str × NameKind)}, (∀ z ∈ names, z.2 ≠ .cell) ->
  ((names.map fun (n, k) => if (k == NameKind.free && env.scope.kind == .function && env.kindOf n == some .cell) then (n, NameKind.cell) else (n, k)).lookup y = some .cell \/
   (names.map fun (n, k) => if (k == NameKind.free && env.scope.kind == .function && env.kindOf n == some .cell) then (n, NameKind.cell) else (n, k)).lookup y = some .free) -> (y, NameKind.free) ∈ names
 | [], _, h => by simp at h
 | (n, k) :: r, hc, h => by
  have ih := @JA env y r (fun z hz => hc z (List.mem_cons_of_mem _ hz))
  have h' : List.lookup y ((if (k == NameKind.free && env.scope.kind == .function && env.kindOf n == some .cell) = true then (n, NameKind.cell) else (n, k)) :: (r.map fun (n, k) => if (k == NameKind.free && env.scope.kind == .function && env.kindOf n == some .cell) then (n, NameKind.cell) else (n, k))) = some .cell \/
   List.lookup y ((if (k == NameKind.free && env.scope.kind == .function && env.kindOf n == some .cell) = true then (n, NameKind.cell) else (n, k)) :: (r.map fun (n, k) => if (k == NameKind.free && env.scope.kind == .function && env.kindOf n == some .cell) then (n, NameKind.cell) else (n, k))) = some .free := h
  clear h
  by_cases hb : (k == NameKind.free && env.scope.kind == .function && env.kindOf n == some .cell) = true
  ·rw [if_pos hb] at h'
   have hk : k = .free := by
    simp only [Bool.and_eq_true, beq_iff_eq] at hb
    exact hb.1.1
   simp only [List.lookup_cons] at h'
   cases hy : y == n with
   | true =>
    have : y = n := by simpa using hy
    subst this hk
    exact List.mem_cons_self
   | false =>
    rw [hy] at h'
    exact List.mem_cons_of_mem _ (ih h')
  ·rw [if_neg hb] at h'
   simp only [List.lookup_cons] at h'
   cases hy : y == n with
   | true =>
    rw [hy] at h'
    have : y = n := by simpa using hy
    subst this
    rcases h' with z | z
    ·exact absurd (Option.some.inj z) (hc (y, k) List.mem_cons_self)
    ·cases Option.some.inj z
     exact List.mem_cons_self
   | false =>
    rw [hy] at h'
    exact List.mem_cons_of_mem _ (ih h')
theorem GW {env : Env} {y : Str} : ∀ {names : List (Str × NameKind)}, names.lookup y = some .free ->
  ((names.map fun (n, k) => if (k == NameKind.free && env.scope.kind == .function && env.kindOf n == some .cell) then (n, NameKind.cell) else (n, k)).lookup y = some .cell \/
   (names.map fun (n, k) => if (k == NameKind.free && env.scope.kind == .function && env.kindOf n == some .cell) then (n, NameKind.cell) else (n, k)).lookup y = some .free)
 | [], h => by simp at h
 | (n, k) :: r, h => by
  have ih := @GW env y r
  show List.lookup y ((if (k == NameKind.free && env.scope.kind == .function && env.kindOf n == some .cell) = true then (n, NameKind.cell) else (n, k)) :: (r.map fun (n, k) => if (k == NameKind.free && env.scope.kind == .function && env.kindOf n == some .cell) then (n, NameKind.cell) else (n, k))) = some .cell \/
   List.lookup y ((if (k == NameKind.free && env.scope.kind == .function && env.kindOf n == some .cell) = true then (n, NameKind.cell) else (n, k)) :: (r.map fun (n, k) => if (k == NameKind.free && env.scope.kind == .function && env.kindOf n == some .cell) then (n, NameKind.cell) else (n, k))) = some .free
  rw [List.lookup_cons] at h
  by_cases hb : (k == NameKind.free && env.scope.kind == .function && env.kindOf n == some .cell) = true
  ·rw [if_pos hb]
   simp only [List.lookup_cons]
   cases hy : y == n with
   | true => exact .inl rfl
   | false => rw [hy] at h; exact ih h
  ·rw [if_neg hb]
   simp only [List.lookup_cons]
   cases hy : y == n with
   | true => rw [hy] at h; exact .inr h
   | false => rw [hy] at h; exact ih h
section
variable {prog : Program} {w : World} {A : Around} {R : Result -> Shared -> Prop} {s : Shared}
abbrev OI (ifs : List Expr) (env : Env) : Sem Bool := forIn ifs true fun c r => if r = true then do let ok <- isTrue c env (eval c env); pure (ForInStep.yield ok) else pure (ForInStep.yield r)
theorem ND {elt target iter : Expr} {ifs : List Expr} {scope : Scope} {pos : Pos} {it acc : Value} {env : Env} (I : Nat -> Shared -> Prop)
  (turn : ∀ n s, I n s -> wpAny (model prog w) A (pyNext it) (fun r s₁ => match r with
   | none => R (.ok .next) s₁
   | some v => wpAny (model prog w) A (letOwnedTupleGo target it v) (fun _ s₀ => wpAny (model prog w) A (assign target env v) (fun _ s₂ =>
     wpAny (model prog w) A (OI ifs env) (fun ok s₃ =>
      if ok = true then wpAny (model prog w) A (eval elt env) (fun x s₄ =>
       wpAny (model prog w) A (call (.builtin "list.append") [acc, x]) (fun _ s₅ => ∃ m, m < n /\ I m s₅) (fun _ _ => False) s₄) (fun _ _ => False) s₃
      else ∃ m, m < n /\ I m s₃) (fun _ _ => False) s₂) (fun _ _ => False) s₀) (fun _ _ => False) s₁) (fun _ _ => False) s)
  (n : Nat) (h : I n s) : codeAny (model prog w) A (.compLoop (.ListComp elt [⟨target, iter, ifs, 0⟩] scope pos) 0 it acc env) R s := by
 refine codeAny_loop rfl I (fun n s hI => ?_) n h
 show wpAny _ A ((compTurn (.ListComp elt [⟨target, iter, ifs, 0⟩] scope pos) 0 it acc env).onRaise (fun x => do noteFrame x env; theTreesLotGoes x)) _ _ s
 refine wpAny_noted ?_
 rw [compTurn_list]
 refine wpAny_bind (wpAny_standAt (wpAny_bind (wpAny_mono (turn n s hI) (fun r s₁ h₁ => ?_) fun _ _ h' => h'.elim)))
 cases r with
 | none => exact wpAny_pure h₁
 | some v =>
  refine wpAny_bind (wpAny_mono h₁ (fun _ s₀ h₀ => ?_) fun _ _ h' => h'.elim)
  refine wpAny_bind (wpAny_mono h₀ (fun _ s₂ h₂ => wpAny_bind (wpAny_mono h₂ (fun ok s₃ h₃ => ?_) fun _ _ h' => h'.elim)) fun _ _ h' => h'.elim)
  cases ok with
  | false => exact wpAny_pure ⟨rfl, h₃⟩
  | true =>
   exact wpAny_bind (wpAny_bind (wpAny_mono h₃ (fun x s₄ h₄ => wpAny_bind (wpAny_mono h₄ (fun _ s₅ h₅ => wpAny_pure (wpAny_pure ⟨rfl, h₅⟩)) fun _ _ h' => h'.elim)) fun _ _ h' => h'.elim))
end
def IS (cs : List Nat) (σ : St) : St := cs.map fun j => (σ[j]?).getD none
def cxC (X : Cx) (scope : Scope) (N : List Str) (s : Shared) (H : Hp) (ex : List Addr) : Cx :=
 { X with N := N, s₀ := s, H₀ := H, env := compEnvC scope (Ow X.env scope.names) s.heap.objs.size X.env, outer := X.stack, stack := X.stack, ex := ex, fn := fun _ => false, pn := [], xe := fun _ _ => False }
def PTs (X : Cx) (ifs : List Expr) (t : TT) : Prop :=
 ∀ (pins : List (Addr × Obj)) (s : Shared) (σ : St) (H : Hp) (Q : Bool -> Hp -> Prop), Inv X pins σ H s -> t σ H Q -> wpAny (model X.prog X.w) X.A (OI ifs X.env) (TP X pins σ Q) X.xe s
def tYes : TT := fun _ H Q => Q true H
theorem ED {X : Cx} : PTs X [] tYes := fun _ _ _ H _ I h => wpAny_tests_nil ⟨H, I, h⟩
structure Db (X : Cx) (scope : Scope) (N : List Str) (k : Nat) (cs : List Nat) : Prop where
 cell : ∀ y ∈ scope.names, y.2 ≠ .cell
 kind : scope.kind = .function
 names : ∀ y ∈ scope.names, y.2 = .local -> scope.names.lookup y.1 = some .local
 free : ∀ y ∈ scope.names, y.2 = .free -> X.env.scope.names.lookup y.1 = some .cell \/ X.env.scope.names.lookup y.1 = some .free
 len : N.length = k + cs.length
 cap : ∀ j, j < cs.length -> ∃ x, N[k + j]? = some x /\ X.N[cs.getD j 0]? = some x /\ scope.names.lookup x = some .free
def FK (k : Nat) (cs : List Nat) (g : TG) (tc : TT) (te : TE) (J : It) (σ : St) (H1 : Hp) (fin : List V -> Hp -> Prop) : Prop :=
 ∃ W : Nat -> Nat -> List V -> Hp -> Prop, (∃ m, W 0 m [] H1) /\ ∀ i m acc H, W i m acc H ->
  (J.stop i H /\ fin acc H) \/ (J.go i H /\ ∃ Nx : List V -> Hp -> Prop, (∀ acc' H', Nx acc' H' -> ∃ m', m' < m /\ W (i + 1) m' acc' H') /\ ∀ x H', J.yld i H x H' -> g x (List.replicate k none ++ IS cs σ) H' fun σ2 H2 => (∃ ts : St, ts.length = k /\ σ2 = ts ++ IS cs σ) /\ acc.length < sizeLine /\
   tc σ2 H2 fun b H3 => if b = true then te σ2 H3 fun v H4 => Nx (acc ++ [v]) H4 else Nx acc H3)
def tComp (k : Nat) (cs : List Nat) (wi : TI) (g : TG) (tc : TT) (te : TE) : TE := fun σ H Q => wi σ H fun J H1 => FK k cs g tc te J σ H1 fun acc H2 => ∀ p, H2 p = none -> Q (.ref p) (upd H2 p (.lst acc))
section
variable {X : Cx} {tg iter elt : Expr} {ifs : List Expr} {scope : Scope} {pos : Pos} {wi : TI} {g : TG} {tc : TT} {te : TE} {N : List Str} {k : Nat} {cs : List Nat}
theorem Inv.block {pins : List (Addr × Obj)} {σ : St} {H : Hp} {s s' : Shared} {ex : List Addr} (hc : X.calm = true) (S : Db X scope N k cs) (I : Inv X pins σ H s)
  (hex : ∀ b ∈ ex, DS X pins H b /\ ∃ o, s.heap.get? b = some o) (hos : s'.os = s.os) (hg : AllBare s'.gens) (hk : ∀ b o, s.heap.get? b = some o -> s'.heap.get? b = some o) (hn : ∃ m, s'.heap.Ns s.heap.objs.size m) :
  Inv (cxC X scope N s H ex) [] (List.replicate k none ++ IS cs σ) H s' := by
 have lk : ∀ {x c}, (Ow X.env scope.names).lookup x = some c -> X.env.cells.lookup x = some c := fun {x c} h => by
  rcases LC X.env _ _ h with z | ⟨z, e⟩
  ·simp at z
  ·obtain ⟨a, ha⟩ := I.ok.has x (S.free _ z rfl)
   rw [e, ha]; rfl
 have nex : ∀ b, b ∈ ex -> b ≠ s.heap.objs.size := fun b hb z => by
  obtain ⟨_, o, ho⟩ := hex b hb
  exact absurd (Heap.lt_size ho) (by rw [z]; exact Nat.lt_irrefl _)
 refine ⟨⟨I.ok.mod, S.kind, I.ok.glob, I.ok.blt, Nat.le_refl _, fun x y c h1 h2 => I.ok.inj x y c (lk h1) (lk h2), fun x hx => ?_, fun x c h _ => (nomatch h), I.ok.hd, I.ok.frames, .inl rfl, fun b hb => ⟨nex b hb, fun x c h => ?_⟩, I.bs, ?_, fun b o e hb => ?_, fun b hb hf => ?_, I.stack, I.stkFree⟩,
  hos, hg, Un.kept hk, ?_, fun x c h => ?_, I.hok.fresh (Nat.le_refl _), fun x c h => I.freeC x c (lk h), fun p hp => absurd (show p ∈ ([] : List (Addr × Obj)) from hp) (by simp), I.hok.kept hk, ?_⟩
 ·exact Ov X.env _ _ (JA S.cell hx)
 ·exact (hex b hb).1.2.2.2.2.1 x c (lk h)
 ·exact Nat.le_trans I.ok.bsz I.sz
 ·rcases (hex b hb).1.2.2.2.1 with z | z
  ·exact I.ok.noex b o e z
  ·exact absurd (Nat.lt_of_lt_of_le (Heap.lt_size e) (Nat.le_trans I.ok.bsz z)) (Nat.lt_irrefl _)
 ·rcases List.mem_cons.mp (I.stkSub b hf) with z | z
  ·exact (hex b hb).1.2.1 z
  ·exact (hex b hb).1.2.2.1 z
 ·obtain ⟨m, hm⟩ := hn
  obtain ⟨mo, hmo, hlo⟩ := I.loc
  refine ⟨m, hm, fun i x v h1 h2 h3 => ?_⟩
  have hi : k <= i := by
   by_cases z : i < k
   ·rw [List.getElem?_append_left (by simpa using z), List.getElem?_replicate, if_pos z] at h2
    cases h2
   ·lia
  obtain ⟨j, rfl⟩ : ∃ j, i = k + j := ⟨i - k, by lia⟩
  rw [List.getElem?_append_right (by simp), List.length_replicate, Nat.add_sub_cancel_left] at h2
  unfold IS at h2
  rw [List.getElem?_map] at h2
  have hj : j < cs.length := by
   by_cases z : j < cs.length
   ·exact z
   ·rw [List.getElem?_eq_none (by lia)] at h2
    cases h2
  obtain ⟨x', e1, e2, e3⟩ := S.cap j hj
  rw [show N[k + j]? = some x from h1] at e1
  cases e1
  rw [List.getElem?_eq_getElem hj] at h2
  have h2' : (σ[cs[j]]?).getD none = some v := Option.some.inj h2
  rw [List.getD_eq_getElem?_getD, List.getElem?_eq_getElem hj] at e2
  have h4 : σ[cs[j]]? = some (some v) := by
   cases q : σ[cs[j]]? with
   | none => rw [q] at h2'; cases h2'
   | some w => rw [q] at h2'; rw [show w = some v from h2']
  have kO := S.free (x, .free) (PySem.mem_of_lookup e3) rfl
  obtain ⟨u, ru, l⟩ := hlo _ x v e2 h4 (.inr kO)
  refine ⟨u, ru, ?_⟩
  rcases l with ⟨z, _⟩ | ⟨_, c, hc', z⟩
  ·have z' : X.env.scope.names.lookup x = some .local := z
   rcases kO with q | q <;> · rw [z'] at q; cases q
  ·obtain ⟨c', h5⟩ := Ov X.env _ [] (PySem.mem_of_lookup e3)
   have h6 := lk h5
   rw [hc'] at h6
   cases h6
   obtain ⟨o, ho, hd⟩ := z
   exact .inr ⟨GW e3, c, h5, o, hk _ _ ho, hd⟩
 ·obtain ⟨v, o, ho, hd⟩ := I.cell x c (lk h)
  exact ⟨v, o, hk _ _ ho, hd⟩
 ·show (List.replicate k none ++ IS cs σ).length = N.length
  rw [List.length_append, List.length_replicate, S.len]
  unfold IS
  rw [List.length_map]
end
end L2
namespace L2
open PySem PySem.Spec PyProof.Rows
section
variable {X : Cx} {tg iter elt : Expr} {ifs : List Expr} {scope : Scope} {pos : Pos} {wi : TI} {g : TG} {tc : TT} {te : TE} {N : List Str} {k : Nat} {cs : List Nat} {fin : List V -> Hp -> Prop}
theorem Qs {pins : List (Addr × Obj)} {σ : St} {H2 : Hp} {sD s1 : Shared} {it D : Addr} {fp : List Addr} {tn : Nat -> Heap -> Prop} {J : It} {n0 : Nat} {RR : Result -> Shared -> Prop} (hc : X.calm = true) (S : Db X scope N k cs)
  (hg : ∀ s H ex, PG (cxC X scope N s H ex) tg g) (ht : ∀ s H ex, PTs (cxC X scope N s H ex) ifs tc) (he : ∀ s H ex, PE (cxC X scope N s H ex) elt te)
  (ID : Inv X pins σ H2 sD) (hD : sD.heap.get? D = some { cls := .type "list", data := .seq ([] : List Value).toArray n0 }) (hD0 : X.s₀.heap.objs.size <= D) (fD : DS X pins H2 D) (nfp : D ∉ fp)
  (T : NM X.prog X.w X.K tg J fp it tn) (st : tn 0 sD.heap) (f2 : ∀ b ∈ fp, DS X pins H2 b) (hb : FK k cs g tc te J σ H2 fin)
  (hos : s1.os = sD.os) (hgn : AllBare s1.gens) (hk : ∀ b o, sD.heap.get? b = some o -> s1.heap.get? b = some o) (hn : ∃ m, s1.heap.Ns sD.heap.objs.size m)
  (hRR : ∀ (H' : Hp) (acc : List V) (s4 : Shared), fin acc H' -> H' D = none -> Inv X pins σ (upd H' D (.lst acc)) s4 -> (∃ m, s4.heap.Ns sD.heap.objs.size m) -> DS X pins (upd H' D (.lst acc)) sD.heap.objs.size -> RR (.ok .next) s4) :
  codeAny (model X.prog X.w) X.A (.compLoop (.ListComp elt [⟨tg, iter, ifs, 0⟩] scope pos) 0 (.ref it) (.ref D) (compEnvC scope (Ow X.env scope.names) sD.heap.objs.size X.env)) RR s1 := by
 obtain ⟨W, ⟨m0, w0⟩, turn⟩ := hb
 have hobj : ∀ b, b ∈ D :: fp -> ∃ o, sD.heap.get? b = some o := fun b hb => by
  rcases List.mem_cons.mp hb with rfl | z
  ·exact ⟨_, hD⟩
  ·obtain ⟨o, e, _⟩ := T.obj _ _ st b z
   exact ⟨o, e⟩
 have hexx : ∀ b ∈ D :: fp, DS X pins H2 b /\ ∃ o, sD.heap.get? b = some o := fun b hb => ⟨by
  rcases List.mem_cons.mp hb with rfl | z
  ·exact fD
  ·exact f2 b z, hobj b hb⟩
 have neC : ∀ b, b ∈ D :: fp -> b ≠ sD.heap.objs.size := fun b hb z => by
  obtain ⟨o, e⟩ := hobj b hb
  exact absurd (Heap.lt_size e) (by rw [z]; exact Nat.lt_irrefl _)
 have nfr : ∀ b, b ∈ D :: fp -> b ∉ frs X.stack := fun b hb hf => by
  rcases List.mem_cons.mp (ID.stkSub b hf) with z | z
  ·exact (hexx b hb).1.2.1 z
  ·exact (hexx b hb).1.2.2.1 z
 have I0 := ID.block hc S hexx hos hgn hk hn
 have I0ok := I0.ok
 have cells : ∀ b, b ∈ D :: fp -> ∀ x c, (Ow X.env scope.names).lookup x = some c -> c ≠ b := fun b hb x c h => (I0ok.exf b hb).2 x c h
 have fpok : ∀ {H' : Hp} {pl : List (Addr × Obj)}, (∀ b ∈ fp, H' b = none) -> (∀ p ∈ pl, p.1 = D) -> ∀ b ∈ fp, DS (cxC X scope N sD H2 (D :: fp)) pl H' b := fun hn hp b hb =>
  ⟨hn b hb, neC b (.tail _ hb), nfr b (.tail _ hb), .inl (.tail _ hb), cells b (.tail _ hb), fun p hp' z => nfp (by
   have := hp p hp'
   rw [<- this, z]; exact hb)⟩
 refine ND (fun n s' => ∃ (i : Nat) (acc : List V) (its : List Value) (nn : Nat) (H' : Hp), Inv (cxC X scope N sD H2 (D :: fp)) [] (List.replicate k none ++ IS cs σ) H' s' /\ tn i s'.heap /\ (∀ b ∈ fp, H' b = none) /\ H' D = none /\ acc.length <= sizeLine /\ Ba acc its /\
  s'.heap.get? D = some { cls := .type "list", data := .seq its.toArray nn } /\ W i n acc H') ?_ m0
  ⟨0, [], [], n0, H2, I0, T.keep _ _ _ st (fun b _ o e => hk b o e), fun b hb => (f2 b hb).1, fD.1, Nat.zero_le _, .nil, hk _ _ hD, w0⟩
 rintro n s3 ⟨i, acc, its, nn, H3, I3, st3, fr3, nD3, hl3, v3, e3, w3⟩
 have I3p : Inv (cxC X scope N sD H2 (D :: fp)) [(D, { cls := .type "list", data := .seq its.toArray nn })] (List.replicate k none ++ IS cs σ) H3 s3 := I3.pins_of fun p hp => by
  rw [List.mem_singleton] at hp
  subst hp
  exact ⟨e3, nD3, neC D (.head _), nfr D (.head _), fun v z => by cases z⟩
 have one : ∀ p ∈ [((D, { cls := .type "list", data := .seq its.toArray nn }) : Addr × Obj)], p.1 = D := fun p hp => by
  rw [List.mem_singleton] at hp
  subst hp
  rfl
 rcases turn i n acc H3 w3 with ⟨stop, qf⟩ | ⟨go, Nx, hNx, step⟩
 ·refine thn (T.done (cxC X scope N sD H2 (D :: fp)) rfl rfl rfl hc i _ s3 _ H3 _ I3p (fpok fr3 one) st3 stop) fun r s4 ⟨hr, I4⟩ => ?_
  subst hr
  have IX : Inv X pins σ H3 s4 := ID.call' (ch := D :: fp) I4.os I4.base I4.hok I4.bare fun b hb => ⟨(hexx b hb).1.2.2.2.1, (hexx b hb).1.2.1, (hexx b hb).1.2.2.2.2.1, (hexx b hb).1.2.2.2.2.2⟩
  have p4 := (I4.pin (D, { cls := .type "list", data := .seq its.toArray nn }) (by show _ ∈ [] ++ [_]; simp)).1
  have IY : Inv X pins σ (upd H3 D (.lst acc)) s4 := by
   refine IX.track nD3 (Heap.get?_none_of_le hD0) (Heap.get?_none_of_le (Nat.le_trans ID.ok.bsz hD0)) (Ne.symm fD.2.1) fD.2.2.2.2.1 fD.2.2.2.2.2 (fun b hb z => fD.2.2.1 (z ▸ hb)) ?_
   exact ⟨hl3, its, nn, v3, p4⟩
  refine hRR H3 acc s4 qf nD3 IY ?_ (ID.fpOk (Nat.le_refl _) ?_)
  ·obtain ⟨m, hm, _⟩ := I4.loc
   exact ⟨m, hm⟩
  ·rw [Av (Ne.symm (neC D (.head _)))]
   exact I4.free
 ·refine thn (T.item (cxC X scope N sD H2 (D :: fp)) rfl rfl rfl hc i _ s3 _ H3 (fun _ _ => False) I3p (fpok fr3 one) st3 go) fun r s4 ⟨u, hr, h4⟩ => ?_
  subst hr
  refine thn h4 fun _ s5 ⟨x, H5, I5, r5, y5, st5, fr5⟩ => ?_
  have I5' := I5.pinned (fpok fr5 one) (T.obj _ _ st5)
  refine thn (hg sD H2 (D :: fp) _ s5 _ H5 x u _ I5' r5 (step x H5 y5)) fun _ s6 ⟨σ6, H6, I6, ⟨ts, tl, eσ⟩, hz6, q6⟩ => ?_
  refine thn (ht sD H2 (D :: fp) _ s6 σ6 H6 _ I6 q6) fun b s7 ⟨H7, I7, q7⟩ => ?_
  have weak : ∀ {pl : List (Addr × Obj)} {H' : Hp} {s' : Shared}, Inv (cxC X scope N sD H2 (D :: fp)) pl σ6 H' s' -> Inv (cxC X scope N sD H2 (D :: fp)) [] (List.replicate k none ++ IS cs σ) H' s' := fun {pl H' s'} J => by
   refine (J.weak (σ' := List.replicate k none ++ IS cs σ) ?_ fun j v e => ?_).pins_of fun p hp => absurd hp (by simp)
   ·rw [eσ, List.length_append, List.length_append, List.length_replicate, tl]
   ·by_cases z : j < k
    ·rw [List.getElem?_append_left (by simpa using z), List.getElem?_replicate, if_pos z] at e
     cases e
    ·rw [List.getElem?_append_right (by rw [List.length_replicate]; lia), List.length_replicate] at e
     rw [eσ, List.getElem?_append_right (by lia), tl]
     exact e
  have later : ∀ {pl : List (Addr × Obj)} {σ' : St} {H' : Hp} {s' : Shared}, Inv (cxC X scope N sD H2 (D :: fp)) (pl ++ Ip fp s5.heap) σ' H' s' -> tn (i + 1) s'.heap /\ ∀ b ∈ fp, H' b = none := fun {pl σ' H' s'} J =>
   ⟨T.keep _ _ _ st5 fun b hb o e => (J.pin (b, o) (List.mem_append_right _ (List.mem_append_right _ (FQ hb e)))).1, fun b hb => by
    obtain ⟨o, e, _⟩ := T.obj _ _ st5 b hb
    exact (J.pin (b, o) (List.mem_append_right _ (List.mem_append_right _ (FQ hb e)))).2.1⟩
  cases b with
  | false =>
   have q7' : Nx acc H7 := by simpa using q7
   obtain ⟨m', hm, w7⟩ := hNx _ _ q7'
   rw [if_neg Bool.false_ne_true]
   have p7 := I7.pin (D, { cls := .type "list", data := .seq its.toArray nn }) (List.mem_append_right _ (List.mem_append_left _ (List.mem_singleton.mpr rfl)))
   exact ⟨m', hm, i + 1, acc, its, nn, H7, weak I7, (later I7).1, (later I7).2, p7.2.1, hl3, v3, p7.1, w7⟩
  | true =>
   rw [if_pos rfl] at q7
   rw [if_pos rfl]
   refine thn (he sD H2 (D :: fp) _ s7 σ6 H7 _ I7 q7) fun y s8 ⟨v, H8, I8, r8, q8⟩ => ?_
   obtain ⟨m', hm, w8⟩ := hNx _ _ q8
   have p8 := I8.pin (D, { cls := .type "list", data := .seq its.toArray nn }) (List.mem_append_right _ (List.mem_append_left _ (List.mem_singleton.mpr rfl)))
   have hlen := v3.length
   refine call_meets F.slot_list_append ⟨_, p8.1, rfl⟩ F.entry_list_append (F.args_list_append_2 _ _) (PySem.list_append D its.toArray nn y (by rw [List.size_toArray]; lia)) ⟨p8.1, ?_⟩
   have q := PySem.IsL.update p8.1 (·.push y)
   have eq : its.toArray.push y = (its ++ [y]).toArray := by simp
   dsimp only at q
   rw [eq] at q
   have I8' : Inv (cxC X scope N sD H2 (D :: fp)) ([] ++ Ip fp s5.heap) σ6 H8 s8 := I8.pins_of fun p hp => I8.pin p (List.mem_append_right _ (List.mem_append_right _ hp))
   have I9 := I8'.turned (t' := s8.toks) (it := D) (h' := s8.heap.update D (Obj.mapSeq (·.push y))) (fun b o hb e => (Heap.get?_update_other s8.heap (Obj.mapSeq (·.push y)) (Ne.symm hb)).trans e) p8.2.1 (neC D (.head _)) (.inl (.head _)) (cells D (.head _))
    (fun p hp z => nfp (by
     have := (Lq (fp := fp) (h := s5.heap) (p := p) (by simpa [cxC] using hp)).1
     rw [z] at this
     exact this))
   refine ⟨m', hm, i + 1, acc ++ [v], its ++ [y], _, H8, weak I9, (later I9).1, (later I9).2, p8.2.1, ?_, v3.append (.cons r8 .nil), q, w8⟩
   rw [List.length_append, List.length_singleton]
   lia
theorem JT {pins : List (Addr × Obj)} {σ : St} {H2 : Hp} {s2 : Shared} {it : Addr} {fp : List Addr} {tn : Nat -> Heap -> Prop} {J : It} {RR : Value -> Addr -> Result -> Shared -> Prop} {E : Value -> Shared -> Prop} (hc : X.calm = true) (S : Db X scope N k cs)
  (hg : ∀ s H ex, PG (cxC X scope N s H ex) tg g) (ht : ∀ s H ex, PTs (cxC X scope N s H ex) ifs tc) (he : ∀ s H ex, PE (cxC X scope N s H ex) elt te)
  (I2 : Inv X pins σ H2 s2) (T : NM X.prog X.w X.K tg J fp it tn) (st : tn 0 s2.heap) (f2 : ∀ b ∈ fp, DS X pins H2 b) (hb : FK k cs g tc te J σ H2 fin)
  (hRR : ∀ (D C : Addr) (H' : Hp) (acc : List V) (s4 : Shared), fin acc H' -> H' D = none -> Inv X pins σ (upd H' D (.lst acc)) s4 -> (∃ m, s4.heap.Ns C m) -> DS X pins (upd H' D (.lst acc)) C -> RR (.ref D) C (.ok .next) s4) :
  wpAny (model X.prog X.w) X.A (newList []) (fun acc s₃ => wpAny (model X.prog X.w) X.A (newFunctionEnv scope X.env.globals (Ow X.env scope.names) [] X.env.qual none .none (some X.env)) (fun cenv s₄ =>
   codeAny (model X.prog X.w) X.A (.compStart (.ListComp elt [⟨tg, iter, ifs, 0⟩] scope pos) 0 (.ref it) acc { cenv with scope := relabel scope X.env }) (RR acc cenv.locals) s₄) E s₃) E s2 := by
 refine wpAny_newObj_type (wpAny_newFunctionEnv S.cell (by intro y hy; simp at hy) (fun h₁ hns₁ hsb₁ => ?_) S.kind)
 dsimp only at hns₁ hsb₁ ⊢
 have keepD : ∀ b o, s2.heap.get? b = some o -> (s2.heap.push { cls := .type "list", dict := none, data := .seq ([] : List Value).toArray }).get? b = some o := fun b o e => Heap.get?_push_of_some _ e
 have ID : Inv X pins σ H2 { s2 with heap := s2.heap.push { cls := .type "list", dict := none, data := .seq ([] : List Value).toArray } } := I2.kept (t' := s2.toks) keepD
 have hD : (s2.heap.push { cls := .type "list", dict := none, data := .seq ([] : List Value).toArray }).get? s2.heap.objs.size = some { cls := .type "list", data := .seq ([] : List Value).toArray } := Heap.get?_push_size _ rfl
 have nfp : s2.heap.objs.size ∉ fp := fun z => by
  obtain ⟨o, e, _⟩ := T.obj _ _ st _ z
  exact absurd (Heap.lt_size e) (Nat.lt_irrefl _)
 have stD : tn 0 (s2.heap.push { cls := .type "list", dict := none, data := .seq ([] : List Value).toArray }) := T.keep _ _ _ st fun b _ o e => keepD b o e
 have hk : ∀ b o, (s2.heap.push { cls := .type "list", dict := none, data := .seq ([] : List Value).toArray }).get? b = some o -> h₁.get? b = some o := fun b o e => hsb₁.extBut b o (Nat.ne_of_lt (Heap.lt_size e)) (Heap.get?_push_of_some _ e)
 have loop : ∀ s₃ : Shared, s₃ = { s2 with heap := h₁, toks := s2.toks + ([] : List (Str × Value)).length } ->
   codeAny (model X.prog X.w) X.A (.compLoop (.ListComp elt [⟨tg, iter, ifs, 0⟩] scope pos) 0 (.ref it) (.ref s2.heap.objs.size) (compEnvC scope (Ow X.env scope.names) (s2.heap.push { cls := .type "list", dict := none, data := .seq ([] : List Value).toArray }).objs.size X.env))
    (RR (.ref s2.heap.objs.size) (s2.heap.push { cls := .type "list", dict := none, data := .seq ([] : List Value).toArray }).objs.size) s₃ := by
  rintro s₃ rfl
  exact Qs (sD := { s2 with heap := s2.heap.push { cls := .type "list", dict := none, data := .seq ([] : List Value).toArray } }) hc S hg ht he ID hD I2.sz (I2.fpOk (Nat.le_refl _) I2.fresh) nfp T stD f2 hb rfl I2.bare hk ⟨_, hns₁⟩ fun H' acc s4 => hRR _ _ H' acc s4
 exact codeAny_compStart_list (loop _ rfl) (T.self _ 0 _ _ _ (T.keep _ _ _ stD fun b _ o e => hk b o e) (loop _ rfl))
theorem Fg (hc : X.calm = true) (S : Db X scope N k cs) (hi : PI X tg iter wi) (hg : ∀ s H ex, PG (cxC X scope N s H ex) tg g) (ht : ∀ s H ex, PTs (cxC X scope N s H ex) ifs tc) (he : ∀ s H ex, PE (cxC X scope N s H ex) elt te)
  (hs : ∀ x, foldedSetIterable iter X.env x = pure x := by intro _; rfl) : PE X (.ListComp elt [⟨tg, iter, ifs, 0⟩] scope pos) (tComp k cs wi g tc te) := by
 intro pins s σ H Q I h
 rw [eval_ListComp]
 refine wpAny_comprehension_free (use := none) rfl hs (JV fun y hy hf => I.ok.has _ (S.free y hy hf)) S.kind S.names (thn (hi pins s σ H _ I h) fun v s1 h1 => thn h1 fun itv s2 h2 => ?_)
 obtain ⟨it, fp, tn, J, H2, rfl, I2, T, st2, f2, hb⟩ := h2
 refine JT (RR := fun acc C => compPost (model X.prog X.w) X.A X.xe none (EP X pins σ Q) acc C) hc S hg ht he I2 T st2 f2 hb fun D C H' acc s4 qf nD J4 hn fC => ?_
 obtain ⟨m, hm⟩ := hn
 refine ⟨m, hm, fun h' sb => ⟨.ref D, upd H' D (.lst acc), ?_, rfl, qf D nD⟩⟩
 exact J4.turned (t' := s4.toks) (it := C) (fun b o hb e => (sb.2 b hb).trans e) fC.1 fC.2.1 fC.2.2.2.1 fC.2.2.2.2.1 fC.2.2.2.2.2
def QD (i k : Nat) (cs : List Nat) (wi : TI) (g : TG) (tc : TT) (te : TE) : TS := fun D σ H => wi σ H fun J H1 => FK k cs g tc te J σ H1 fun acc H2 => ∀ p, H2 p = none -> D.nx (σ.set i (some (.ref p))) (upd H2 p (.lst acc))
theorem NY {i : Nat} {y : Str} {py spos : Pos} (hc : X.calm = true) (hN : X.N.Nodup) (hi' : X.N[i]? = some y) (hy : X.env.scope.names.lookup y = some .local) (S : Db X scope N k cs) (hi : PI X tg iter wi)
  (hg : ∀ s H ex, PG (cxC X scope N s H ex) tg g) (ht : ∀ s H ex, PTs (cxC X scope N s H ex) ifs tc) (he : ∀ s H ex, PE (cxC X scope N s H ex) elt te)
  (hsw : swapsWith (.ListComp elt [⟨tg, iter, ifs, 0⟩] scope pos) (some (.Name y py)) spos.line X.env = pure true := by rfl) (hs : ∀ x, foldedSetIterable iter X.env x = pure x := by intro _; rfl) :
  PS X (.Assign [.Name y py] (.ListComp elt [⟨tg, iter, ifs, 0⟩] scope pos) spos) (QD i k cs wi g tc te) := by
 intro pins s σ H D I h
 rw [exec_Assign_Name_used _ _ _ _ hsw]
 refine wpAny_bind (wpAny_standAt (wpAny_bind ?_))
 show wpAny _ X.A (do let _ <- comprehension (.ListComp elt [⟨tg, iter, ifs, 0⟩] scope pos) scope X.env _ (newList []) false (eval iter X.env) (some (assign (.Name y py) X.env))) _ _ s
 refine wpAny_bind (wpAny_mono (wpAny_comprehension_free (use := some (assign (.Name y py) X.env)) (Q := fun _ s' => SP X pins D .next s') rfl hs (JV fun y hy hf => I.ok.has _ (S.free y hy hf)) S.kind S.names
  (thn (hi pins s σ H _ I h) fun v s1 h1 => thn h1 fun itv s2 h2 => ?_)) (fun _ s' hq => wpAny_pure (wpAny_pure hq)) fun _ _ e => e)
 obtain ⟨it, fp, tn, J, H2, rfl, I2, T, st2, f2, hb⟩ := h2
 refine JT (RR := fun acc C => compPost (model X.prog X.w) X.A X.xe (some (assign (.Name y py) X.env)) (fun _ s' => SP X pins D .next s') acc C) hc S hg ht he I2 T st2 f2 hb fun L C H' acc s4 qf nD J4 hn fC => ?_
 obtain ⟨m, hm⟩ := hn
 show wpAny _ X.A (assign (.Name y py) X.env (.ref L)) _ _ _
 refine wpAny_assign_Name (Lm J4 hN hi' (.inl hy) (v := .ref L) rfl (fun s5 J5 hsb => ?_) (.inr hy))
 obtain ⟨a, sb, ha⟩ := hsb
 have nCa : C ≠ a := by
  rcases ha with z | z
  ·rw [z]; exact fC.2.1
  ·exact fun q => fC.2.2.2.2.1 y a z q.symm
 refine ⟨m, hm.sameBut sb nCa, fun h' sb' => ⟨σ.set i (some (.ref L)), upd H' L (.lst acc), ?_, qf L nD⟩⟩
 exact J5.turned (t' := s5.toks) (it := C) (fun b o hb e => (sb'.2 b hb).trans e) fC.1 fC.2.1 fC.2.2.2.1 fC.2.2.2.2.1 fC.2.2.2.2.2
end
section
variable {K : PySem.W.Frag} {k : Nat} {cs : List Nat} {g : TG} {tc : TT} {te : TE} {σ : St} {H : Hp} {fin : List V -> Hp -> Prop}
abbrev Bt (k : Nat) (cs : List Nat) (g : TG) (tc : TT) (te : TE) (σ : St) (x : V) (acc : List V) (H : Hp) (Nx : List V -> Hp -> Prop) : Prop :=
 g x (List.replicate k none ++ IS cs σ) H fun σ2 H2 => (∃ ts : St, ts.length = k /\ σ2 = ts ++ IS cs σ) /\ acc.length < sizeLine /\ tc σ2 H2 fun b H3 => if b = true then te σ2 H3 fun v H4 => Nx (acc ++ [v]) H4 else Nx acc H3
theorem Sh {a : Addr} {xs : List V} (Pv : Nat -> List V -> Hp -> Prop) (h0 : Pv 0 [] H) (hl : ∀ i acc H, i <= xs.length -> Pv i acc H -> SqL K H a xs)
  (hs : ∀ i x acc H, xs[i]? = some x -> Pv i acc H -> Bt k cs g tc te σ x acc H (Pv (i + 1))) (hd : ∀ acc H, Pv xs.length acc H -> fin acc H) : FK k cs g tc te (Itl K a) σ H fin := by
 refine ⟨fun i m acc H => m = xs.length - i /\ i <= xs.length /\ Pv i acc H, ⟨xs.length, by simp, Nat.zero_le _, h0⟩, ?_⟩
 rintro i m acc H ⟨rfl, hi, p⟩
 have q := hl i acc H hi p
 by_cases hlt : i < xs.length
 ·refine .inr ⟨⟨xs, xs[i], q, by simp [hlt]⟩, Pv (i + 1), fun acc' H' p' => ⟨xs.length - (i + 1), by lia, rfl, hlt, p'⟩, fun x H' y => ?_⟩
  obtain ⟨e, y⟩ := y
  subst e
  exact hs i x acc _ (y xs q) p
 ·have e : i = xs.length := by lia
  subst e
  exact .inl ⟨⟨xs, q, Nat.le_refl _⟩, hd acc H p⟩
theorem blk_tup {a : Addr} {xs : List V} (Pv : Nat -> List V -> Hp -> Prop) (h0 : Pv 0 [] H) (hl : ∀ i acc H, i <= xs.length -> Pv i acc H -> SqT K H a xs)
  (hs : ∀ i x acc H, xs[i]? = some x -> Pv i acc H -> Bt k cs g tc te σ x acc H (Pv (i + 1))) (hd : ∀ acc H, Pv xs.length acc H -> fin acc H) : FK k cs g tc te (Itt K a) σ H fin := by
 refine ⟨fun i m acc H => m = xs.length - i /\ i <= xs.length /\ Pv i acc H, ⟨xs.length, by simp, Nat.zero_le _, h0⟩, ?_⟩
 rintro i m acc H ⟨rfl, hi, p⟩
 have q := hl i acc H hi p
 by_cases hlt : i < xs.length
 ·refine .inr ⟨⟨xs, xs[i], q, by simp [hlt]⟩, Pv (i + 1), fun acc' H' p' => ⟨xs.length - (i + 1), by lia, rfl, hlt, p'⟩, fun x H' y => ?_⟩
  obtain ⟨e, y⟩ := y
  subst e
  exact hs i x acc _ (y xs q) p
 ·have e : i = xs.length := by lia
  subst e
  exact .inl ⟨⟨xs, q, Nat.le_refl _⟩, hd acc H p⟩
end
end L2
namespace L2
open PySem PySem.Spec PyProof.Rows
section
variable {prog : Program} {w : World} {A : Around} {E : Value -> Shared -> Prop} {s : Shared}
theorem Id {I t : Addr} {k : Nat} {vs : Array Value} {v : Value} {Q : Value -> Shared -> Prop} (hI : s.heap.IsTupleIter I t k) (hV : s.heap.IsTuple t vs) (hv : vs[k]? = some v)
  (q : ∀ g, g.IsTupleIter I t (k + 1) -> Heap.SameBut I s.heap g -> Q v { s with heap := g }) : wpAny (model prog w) A (Builtin.SmallTypes.nextOf (.ref I)) Q E s := by
 obtain ⟨oI, eI, cI, dI⟩ := id hI
 obtain ⟨oV, eV, _, nV, dV⟩ := hV
 unfold Builtin.SmallTypes.nextOf
 refine wpAny_bind (wpAny_callSpecial?_slot (name := Str.ofString "__next__") hI.typeIs F.slot_tuple_iterator_next (wpAny_call_entry F.slot_tuple_iterator_next hI.typeIs F.entry_tuple_iterator_next ?_ (F.args_tuple_iterator_next_1 _)))
 show wpAny _ _ (field (.ref I) 0 >>= _) _ _ s
 refine wpAny_bind (wpAny_field eI dI (x := .ref t) rfl ?_)
 show wpAny _ _ (if (Value.ref t == Value.none) = true then _ else _) _ _ s
 rw [if_neg (fun z : (Value.ref t == Value.none) = true => Bool.false_ne_true z)]
 show wpAny _ _ (field (.ref I) 1 >>= _) _ _ s
 refine wpAny_bind (wpAny_field eI dI (x := .int k 0) rfl ?_)
 show wpAny _ _ (seqItems? (.ref t) >>= _) _ _ s
 refine wpAny_bind (wpAny_seqItems eV dV ?_)
 simp only [Int.toNat_natCast, hv]
 refine wpAny_bind (wpAny_setField eI dI (by simp) (wpAny_pure ⟨v, rfl, wpAny_pure (q _ ?_ (Heap.SameBut.update ..))⟩))
 exact ⟨_, Heap.get?_update_self _ eI (Obj.isFreed_of_fields (Obj.data_mapFields dI _)), (Obj.cls_mapFields ..).trans cI, by rw [Obj.data_mapFields dI]; simp [rawInt]⟩
theorem Ir {I t : Addr} {k : Nat} {vs : Array Value} {Q : Value -> Shared -> Prop} (hA : A.handled = none) (hI : s.heap.IsTupleIter I t k) (hV : s.heap.IsTuple t vs) (hv : vs[k]? = none)
  (q : ∀ g e, Heap.ExtBut I s.heap g -> (∃ o, g.get? e = some o /\ o.cls = .type "StopIteration") -> E (.ref e) { s with heap := g }) : wpAny (model prog w) A (Builtin.SmallTypes.nextOf (.ref I)) Q E s := by
 obtain ⟨oI, eI, cI, dI⟩ := id hI
 obtain ⟨oV, eV, _, nV, dV⟩ := hV
 unfold Builtin.SmallTypes.nextOf
 refine wpAny_bind (wpAny_callSpecial?_slot (name := Str.ofString "__next__") hI.typeIs F.slot_tuple_iterator_next (wpAny_call_entry F.slot_tuple_iterator_next hI.typeIs F.entry_tuple_iterator_next ?_ (F.args_tuple_iterator_next_1 _)))
 show wpAny _ _ (field (.ref I) 0 >>= _) _ _ s
 refine wpAny_bind (wpAny_field eI dI (x := .ref t) rfl ?_)
 show wpAny _ _ (if (Value.ref t == Value.none) = true then _ else _) _ _ s
 rw [if_neg (fun z : (Value.ref t == Value.none) = true => Bool.false_ne_true z)]
 show wpAny _ _ (field (.ref I) 1 >>= _) _ _ s
 refine wpAny_bind (wpAny_field eI dI (x := .int k 0) rfl ?_)
 show wpAny _ _ (seqItems? (.ref t) >>= _) _ _ s
 refine wpAny_bind (wpAny_seqItems eV dV ?_)
 simp only [Int.toNat_natCast, hv]
 refine wpAny_bind (wpAny_rule (wpAny_bind (wpAny_setField eI dI (by simp) ?_)))
 show wpAny _ _ (newExc (.type "StopIteration") [] >>= _) _ _ _
 refine wpAny_bind ?_
 simp only [newExc, newTuple]
 refine wpAny_bind (wpAny_newObj_type ?_ (by size_fits))
 refine wpAny_bind (m := firstArgMember _ _) (wpAny_of_eq (a := Value.none) (by first | rfl | (simp only [firstArgMember]; rfl)) (wpAny_newObj_type ?_ (by size_fits)))
 simp only [raiseNew]
 refine wpAny_bind (wpAny_handled ?_)
 first | rw [show A.in1.handled = none from hA] | rw [hA]
 refine wpAny_bind (wpAny_pure (wpAny_throw (q _ _ (((Heap.SameBut.update ..).extBut.push _).push _) ⟨_, Heap.get?_push_size _ rfl, rfl⟩)))
def FI : Bool -> Heap -> Addr -> Addr -> Nat -> Prop
 | true, h, I, l, k => h.IsTupleIter I l k
 | false, h, I, l, k => h.IsListIter I l k
def FH : Bool -> Heap -> Addr -> Array Value -> Prop
 | true, h, l, vs => h.IsTuple l vs
 | false, h, l, vs => h.IsList l vs
def SqX (K : PySem.W.Frag) : Bool -> Hp -> Addr -> List V -> Prop
 | true, H, a, xs => SqT K H a xs
 | false, H, a, xs => SqL K H a xs
theorem FI.move {b : Bool} {h g : Heap} {I l : Addr} {k : Nat} (x : FI b h I l k) (e : ∀ o, h.get? I = some o -> g.get? I = some o) : FI b g I l k := by
 cases b with
 | true => obtain ⟨o, ho, r⟩ := x; exact ⟨o, e _ ho, r⟩
 | false => obtain ⟨o, ho, r⟩ := x; exact ⟨o, e _ ho, r⟩
theorem FI.there {b : Bool} {h : Heap} {I l : Addr} {k : Nat} (x : FI b h I l k) : ∃ o, h.get? I = some o /\ ∀ v, o.data ≠ .cell v := by
 cases b with
 | true => obtain ⟨o, ho, _, d⟩ := x; exact ⟨o, ho, fun v z => by rw [d] at z; cases z⟩
 | false => obtain ⟨o, ho, _, d⟩ := x; exact ⟨o, ho, fun v z => by rw [d] at z; cases z⟩
theorem FH.move {b : Bool} {h g : Heap} {l : Addr} {vs : Array Value} (x : FH b h l vs) (e : ∀ o, h.get? l = some o -> g.get? l = some o) : FH b g l vs := by
 cases b with
 | true => obtain ⟨o, ho, r⟩ := x; exact ⟨o, e _ ho, r⟩
 | false => obtain ⟨o, ho, r⟩ := x; exact ⟨o, e _ ho, r⟩
theorem IO {b : Bool} {I l : Addr} {k : Nat} {vs : Array Value} {v : Value} {Q : Value -> Shared -> Prop} (hI : FI b s.heap I l k) (hV : FH b s.heap l vs) (hv : vs[k]? = some v)
  (q : ∀ g, FI b g I l (k + 1) -> Heap.SameBut I s.heap g -> Q v { s with heap := g }) : wpAny (model prog w) A (Builtin.SmallTypes.nextOf (.ref I)) Q E s := by
 cases b with
 | true => exact Id hI hV hv q
 | false => exact wpAny_nextOf_list_item hI hV hv q
theorem JK {b : Bool} {I l : Addr} {k : Nat} {vs : Array Value} {Q : Value -> Shared -> Prop} (hA : A.handled = none) (hI : FI b s.heap I l k) (hV : FH b s.heap l vs) (hv : vs[k]? = none)
  (q : ∀ g e, Heap.ExtBut I s.heap g -> (∃ o, g.get? e = some o /\ o.cls = .type "StopIteration") -> E (.ref e) { s with heap := g }) : wpAny (model prog w) A (Builtin.SmallTypes.nextOf (.ref I)) Q E s := by
 cases b with
 | true => exact Ir hA hI hV hv q
 | false => exact wpAny_nextOf_list_end hA hI hV hv q
theorem GJ {b : Bool} {l : Addr} {vs : Array Value} {Q : Value -> Shared -> Prop} (hV : FH b s.heap l vs)
  (q : ∀ g, FI b g s.heap.objs.size l 0 -> g.objs.size = s.heap.objs.size + 1 -> (∀ c o, s.heap.get? c = some o -> g.get? c = some o) -> Q (.ref s.heap.objs.size) { s with heap := g }) : wpAny (model prog w) A (pyIter (.ref l)) Q E s := by
 cases b with
 | true => exact wpAny_pyIter_tuple hV (q _ ⟨_, Heap.get?_push_size _ rfl, rfl, rfl⟩ (Heap.size_push ..) fun c o e => Heap.get?_push_of_some _ e)
 | false => exact wpAny_pyIter_list hV (q _ ⟨_, Heap.get?_push_size _ rfl, rfl, rfl⟩ (Heap.size_push ..) fun c o e => Heap.get?_push_of_some _ e)
theorem Inv.turnedL {X : Cx} {pins : List (Addr × Obj)} {σ : St} {H : Hp} {s : Shared} {g : Heap} {tk : Nat} {ch : List Addr} (I : Inv X pins σ H s) (k : ∀ b o, b ∉ ch -> s.heap.get? b = some o -> g.get? b = some o) (hch : ∀ b ∈ ch, DS X pins H b) : Inv X pins σ H { s with heap := g, toks := tk } := by
 have nch : ∀ b u, H b = some u -> b ∉ ch := fun b u e z => by rw [(hch b z).1] at e; cases e
 refine I.step (g' := s.gens) (d' := s.drawn) (ch := ch) (fun b hb => ⟨(hch b hb).2.2.2.1, (hch b hb).2.1, (hch b hb).2.2.2.2.1, (hch b hb).2.2.2.2.2⟩) (fun b o _ _ hc e _ => k b o hc e) (fun b o _ _ hc e _ => ⟨o.slots, k b o hc e⟩) (fun _ _ _ _ n => n)
  (fun b o hc e => ⟨o, k b o hc e⟩) (fun _ _ e => e) (fun _ _ _ e => e) (fun b ps e => ⟨#[], by rw [e]; simp⟩) (fun m hm => ?_) (fun b u e => ?_) I.bare
 ·obtain ⟨o, es, ep, ho, r⟩ := hm
  exact ⟨o, es, ep, k _ o (fun z => (hch _ z).2.1 rfl) ho, r⟩
 ·refine (I.hok b u e).stay (fun c v hc q => k c v ?_ q) (fun _ q => q) fun _ _ q => q
  rcases hc with z | z
  ·rw [z]; exact nch b u e
  ·exact nch c _ z
theorem Inv.pair {X : Cx} {pins : List (Addr × Obj)} {σ : St} {H : Hp} {s : Shared} {g : Heap} {tk n : Nat} {ch : List Addr} {x y : V} {u v : Value} (I : Inv X pins σ H s) (k : ∀ b o, b ∉ ch -> s.heap.get? b = some o -> g.get? b = some o) (hch : ∀ b ∈ ch, DS X pins H b)
  (rx : Bb x u) (ry : Bb y v) (e : g.get? s.heap.objs.size = some { cls := .type "tuple", data := .seq #[u, v] n }) : H s.heap.objs.size = none /\ Inv X pins σ (upd H s.heap.objs.size (.tup [x, y])) { s with heap := g, toks := tk } := by
 have f := I.fpOk (Nat.le_refl _) I.fresh
 refine ⟨f.1, (I.turnedL (tk := tk) k hch).track f.1 (Heap.get?_none_of_le I.sz) (Heap.get?_none_of_le (Nat.le_trans I.ok.bsz I.sz)) (Ne.symm f.2.1) f.2.2.2.2.1 f.2.2.2.2.2 (fun b hb z => f.2.2.1 (z ▸ hb)) ?_⟩
 exact ⟨by show 2 <= sizeLine; decide, [u, v], .cons rx (.cons ry .nil), _, e, rfl, n, rfl⟩
theorem Inv.sq {X : Cx} {pins : List (Addr × Obj)} {σ : St} {H : Hp} {s : Shared} {b : Bool} {a : Addr} {xs : List V} (I : Inv X pins σ H s) (h : SqX X.K b H a xs) : ∃ its : List Value, Ba xs its /\ FH b s.heap a its.toArray := by
 cases b with
 | true =>
  obtain ⟨its, r, p, _⟩ := I.tuple h
  exact ⟨its, r, p⟩
 | false =>
  obtain ⟨its, r, p, _⟩ := I.list h
  exact ⟨its, r, p.isList⟩
theorem Inv.sq_inj {X : Cx} {pins : List (Addr × Obj)} {σ : St} {H : Hp} {s : Shared} {b : Bool} {a : Addr} {xs ys : List V} (I : Inv X pins σ H s) (h : SqX X.K b H a xs) (h' : SqX X.K b H a ys) : xs = ys := by
 cases b with
 | true => exact I.tuple_inj h h'
 | false => exact I.list_inj h h'
end
end L2
namespace L2
open PySem PySem.Spec PyProof.Rows
theorem FH.obj {b : Bool} {h : Heap} {l : Addr} {vs : Array Value} (x : FH b h l vs) : ∃ o, h.get? l = some o := by
 cases b with
 | true => obtain ⟨o, e, _⟩ := x; exact ⟨o, e⟩
 | false => obtain ⟨o, e, _⟩ := x; exact ⟨o, e⟩
theorem Qo (g1 : Heap) (n : Nat) (e1 : g1.objs.size = n + 1) : ∃ g2, g2 = g1.push { cls := .type "enumerate", data := .fields #[.none, .bool false, .ref n, rawInt 0, .none, .none] } /\ IsEnum g2 (n + 1) n 0 .none /\ ∀ a o, g1.get? a = some o -> g2.get? a = some o := by
 refine ⟨_, rfl, ?_, fun a o e => Heap.get?_push_of_some _ e⟩
 have q := Heap.get?_push_size g1 (o := { cls := .type "enumerate", data := .fields #[.none, .bool false, .ref n, rawInt 0, .none, .none] }) rfl
 rw [e1] at q
 exact q
set_option maxHeartbeats 1000000 in
theorem Oj {b : Bool} (l : Addr) (xs : Array Value) : Meets (Builtin.«enumerate.__new__» ⟨[.type "enumerate", .ref l], []⟩) (fun _ R s => FH b s.heap l xs /\
   ∀ g, IsEnum g (s.heap.objs.size + 1) s.heap.objs.size 0 .none -> FI b g s.heap.objs.size l 0 -> (∀ a o, s.heap.get? a = some o -> g.get? a = some o) -> R (.ok (.ret (.ref (s.heap.objs.size + 1)))) { s with heap := g }) :=
 .of_wp fun prog w A R s h => by
  obtain ⟨hp, g, d, tk, os⟩ := s
  obtain ⟨hl, h⟩ := h
  obtain ⟨ol, eol⟩ := hl.obj
  have hsub := sub_enumerate
  have fin : ∀ g1, FI b g1 hp.objs.size l 0 -> g1.objs.size = hp.objs.size + 1 -> (∀ c o, hp.get? c = some o -> g1.get? c = some o) -> ∃ v, Fin.done (Flow.ret (.ref g1.objs.size)) = Fin.done (Flow.ret v) /\ R (.ok (.ret v)) ⟨g1.push { cls := .type "enumerate", data := .fields #[.none, .bool false, .ref hp.objs.size, rawInt 0, .none, .none] }, g, d, tk, os⟩ := fun g1 i1 z1 k1 => by
   obtain ⟨g2, e2, a1, k2⟩ := Qo g1 hp.objs.size z1
   refine ⟨_, rfl, ?_⟩
   have key := h g2 a1 (i1.move fun o e => k2 _ o e) fun a o e => k2 _ _ (k1 _ _ e)
   dsimp only at key
   rw [e2, <- z1] at key
   exact key
  wp_walk using AutoSeq1.wpAny_loadPart' eol
  refine wpAny_stack_any fun st => wpAny_pure ?_
  split
  ·rename_i c' _ _ _ _ _
   cases (c' == Value.type "enumerate")
   ·wp_walk using AutoSeq1.wpAny_loadPart' eol, GJ hl
    intro g1 i1 z1 k1
    wp_walk
    exact fin g1 i1 z1 k1
   ·wp_walk using AutoSeq1.wpAny_loadPart' eol, GJ hl
    intro g1 i1 z1 k1
    wp_walk
    exact fin g1 i1 z1 k1
  ·wp_walk using AutoSeq1.wpAny_loadPart' eol, GJ hl
   intro g1 i1 z1 k1
   wp_walk
   exact fin g1 i1 z1 k1
theorem LA {prog : Program} {w : World} {A : Around} {b : Bool} (hA : A.handled = none) (I l : Addr) (ne : l ≠ I) (vs : Array Value) :
  Draws prog w A I [I, l] vs.size (fun k v => vs[k]? = some v) (fun k h => FI b h I l k /\ FH b h l vs) where
 live := fun _ _ st => let ⟨o, ho, _⟩ := st.1.there; ⟨o, ho⟩
 frame := fun _ _ _ st hk => ⟨st.1.move fun o e => hk I (by simp) o e, st.2.move fun o e => hk l (by simp) o e⟩
 item := fun k s Q E hi st hQ => IO st.1 st.2 (v := vs[k]) (by simp [hi]) fun g hI sb => hQ _ g s.toks (by simp [hi]) ⟨hI, st.2.move fun o e => (sb.2 l ne).trans e⟩ sb
 done := fun s Q E st hE => JK hA st.1 st.2 (by simp) hE
def Ite (K : PySem.W.Frag) (b : Bool) (l : Addr) : It :=
 ⟨fun i H => ∃ xs x, SqX K b H l xs /\ xs[i]? = some x,
  fun i H v H' => ∃ (T : Addr) (x : V), v = .ref T /\ H T = none /\ H' = upd H T (.tup [.int i, x]) /\ ∀ xs, SqX K b H l xs -> xs[i]? = some x,
  fun i H => ∃ xs, SqX K b H l xs /\ xs.length = i⟩
theorem PD {P : Program} {w : World} {K : PySem.W.Frag} {es : List Expr} {n : Nat} {tpos : Pos} {b : Bool} {e I l : Addr} (eI : e ≠ I) (le : l ≠ e) (lI : l ≠ I) :
  NM P w K (.Tuple es n tpos) (Ite K b l) [e, I] e (fun k h => (∃ old, IsEnum h e I k old) /\ FI b h I l k) where
 mem := by simp
 obj := fun k h st a ha => by
  obtain ⟨⟨old, he⟩, hI⟩ := st
  simp only [List.mem_cons, List.not_mem_nil, or_false] at ha
  rcases ha with rfl | rfl
  ·exact ⟨_, he, fun v t => by cases t⟩
  ·exact hI.there
 keep := fun k h h' st kp => by
  obtain ⟨⟨old, he⟩, hI⟩ := st
  exact ⟨⟨old, kp e (by simp) _ he⟩, hI.move fun o t => kp I (by simp) o t⟩
 item := by
  intro X hP hw hK hc k pins s σ H E J hf st hg
  subst hP hw hK
  obtain ⟨⟨old, he⟩, hI⟩ := st
  obtain ⟨xs, x, sx, hx⟩ := hg
  obtain ⟨us, ru, ou⟩ := J.sq sx
  have lu := ru.length
  have hk : k < xs.length := (List.getElem?_eq_some_iff.mp hx).1
  refine wpAny_pyNext_enum_itemD (LA (b := b) (A := X.A.in1) (J.ok.hd hc) I l lI us.toArray) he ⟨hI, ou⟩ (by simp; lia) eI (by simp [eI, Ne.symm le]) fun u g tk hu gE gS gT gs gk => ⟨_, rfl, ?_⟩
  obtain ⟨u', hu', rxu⟩ := ru.get hx
  have eu : u = u' := by
   have : us[k]? = some u := by simpa using hu
   rw [hu'] at this
   exact (Option.some.inj this).symm
  subst eu
  refine wpAny_letOwnedTupleGo_enum (s := { s with heap := g, toks := tk + 1 }) gE fun g2 gE2 sb => ?_
  have elt : e < s.heap.objs.size := Heap.lt_size he
  have kk : ∀ a o, a ∉ [e, I] -> s.heap.get? a = some o -> g2.get? a = some o := fun a o ha t => (sb.2 a (fun z => ha (by simp [z]))).trans (gk a o (fun z => ha (by simp [z])) (fun z => ha (by simp [z])) t)
  obtain ⟨nT, J2⟩ := J.pair (tk := tk + 1) (x := .int k) (u := .int k tk) kk hf ⟨tk, rfl⟩ rxu ((sb.2 _ (Nat.ne_of_gt elt)).trans gT)
  refine ⟨.ref s.heap.objs.size, _, J2, rfl, ⟨_, x, rfl, nT, rfl, fun xs' q' => by rw [J.sq_inj q' sx]; exact hx⟩, ⟨⟨_, by simpa using gE2⟩, gS.1.move fun o t => (sb.2 I (Ne.symm eI)).trans t⟩, fun a ha => ?_⟩
  have t := (hf a ha).1
  have lt : a ≠ s.heap.objs.size := by
   simp only [List.mem_cons, List.not_mem_nil, or_false] at ha
   rcases ha with z | z <;> subst z
   ·exact Nat.ne_of_lt elt
   ·obtain ⟨o, t, _⟩ := hI.there; exact Nat.ne_of_lt (Heap.lt_size t)
  rw [Av lt]
  exact t
 done := by
  intro X hP hw hK hc k pins s σ H E J hf st hg
  subst hP hw hK
  obtain ⟨⟨old, he⟩, hI⟩ := st
  obtain ⟨xs, sx, hend⟩ := hg
  obtain ⟨us, ru, ou⟩ := J.sq sx
  have lu := ru.length
  have ek : k = us.toArray.size := by simp; lia
  refine wpAny_pyNext_enum_endD (LA (b := b) (A := X.A.in1) (J.ok.hd hc) I l lI us.toArray) he ⟨ek ▸ hI, ou⟩ fun g gk => ⟨rfl, ?_⟩
  exact J.turnedL (tk := s.toks) (ch := [e, I]) (fun a o ha t => gk a o (fun z => ha (by simp [z])) t) hf
 self := fun A i s Q E st h => by
  obtain ⟨⟨old, he⟩, _⟩ := st
  exact wpAny_pyIter_enum he h
section
variable {X : Cx} {es : List Expr} {n : Nat} {tpos p pos : Pos} {e1 e2 : Expr} {t : TA}
theorem FH.lt {b : Bool} {h : Heap} {l : Addr} {vs : Array Value} (x : FH b h l vs) : l < h.objs.size := by
 cases b with
 | true => obtain ⟨o, e, _⟩ := x; exact Heap.lt_size e
 | false => obtain ⟨o, e, _⟩ := x; exact Heap.lt_size e
def iEnum (b : Bool) (K : PySem.W.Frag) (t : TA) : TI := fun σ H R => t σ H fun vs H1 => ∃ (l : Addr), vs = [.ref l] /\ (∃ xs, SqX K b H1 l xs) /\ R (Ite K b l) H1
theorem LU (b : Bool) (hg : Gl X "enumerate") (hm : X.mg "enumerate" = none) (ha : PA X [e1] t) (hs : starEach [e1] X.env = [(false, eval e1 X.env)] := by rfl) :
  PI X (.Tuple es n tpos) (.Call (.Name "enumerate" p) [e1] [] pos) (iEnum b X.K t) := by
 intro pins s σ H R I h
 refine Call_ (GO I hg hm PyProof.Rows.boot_enumerate (PyProof.Rows.callWith_type1 (thn (ha pos pins s σ H _ I h) fun us s1 ⟨vs, H1, I1, r1, q1⟩ => ?_) hs rfl))
 obtain ⟨l, rfl, ⟨xs, sx⟩, q⟩ := q1
 obtain ⟨u, rfl, ru⟩ := r1.one
 cases (show u = Value.ref l from ru)
 obtain ⟨ul, _, ol⟩ := I1.sq sx
 refine callType_new F.called_enumerate (by decide) (F.typeCall_enumerate_1 _) (F.newCall_enumerate_1 _) (fun obj => F.args_object_init_2 obj _) F.entry_enumerate_new (Oj (b := b) l ul.toArray) ⟨ol, fun g gE gi gk => ?_⟩
 refine ⟨⟨_, gE, rfl⟩, wpAny_pyIter_enum (s := { s1 with heap := g }) gE ?_⟩
 have ll := ol.lt
 refine ⟨s1.heap.objs.size + 1, _, _, _, H1, rfl, I1.kept (t' := s1.toks) gk, PD (e := s1.heap.objs.size + 1) (I := s1.heap.objs.size) (l := l) (Nat.succ_ne_self _) (Nat.ne_of_lt (Nat.lt_succ_of_lt ll)) (Nat.ne_of_lt ll), ⟨⟨_, gE⟩, gi⟩, fun a ha => ?_, q⟩
 have le : s1.heap.objs.size <= a := by
  simp only [List.mem_cons, List.not_mem_nil, or_false] at ha
  rcases ha with t | t <;> rw [t] <;> first | exact Nat.le_refl _ | exact Nat.le_add_right _ _
 exact I1.fpOk le (I1.hok.fresh le)
end
section
variable {K : PySem.W.Frag} {b c : Bool} {l m : Addr} {xs ys : List V} {σ : St} {H : Hp}
theorem RP {K : PySem.W.Frag} {i j : Nat} {T : Addr} {x y : V} {σ : St} {H : Hp} {Q : St -> Hp -> Prop} (h : H T = some (.tup [x, y])) (q : Q ((σ.set i (some x)).set j (some y)) H) : gTup K 2 (RS (Lx i) (RS (Lx j) gNil)) (.ref T) σ H Q :=
 ⟨T, _, rfl, SqT.of h, rfl, x, _, rfl, y, _, rfl, rfl, q⟩
theorem JS {g : TG} {tb : TS} {D : Lj} (Pv : Nat -> St -> Hp -> Prop) (h0 : Pv 0 σ H) (hl : ∀ i σ H, i <= xs.length -> Pv i σ H -> SqX K b H l xs)
  (hs : ∀ i x σ H T, xs[i]? = some x -> Pv i σ H -> H T = none -> g (.ref T) σ (upd H T (.tup [.int i, x])) fun σ2 H2 => tb { D with nx := Pv (i + 1), ct := Pv (i + 1), bk := D.nx } σ2 H2) (hd : ∀ σ H, Pv xs.length σ H -> D.nx σ H) :
  ∃ W : Nat -> Nat -> St -> Hp -> Prop, (∃ m, W 0 m σ H) /\ ∀ i m σ H, W i m σ H ->
   ((Ite K b l).stop i H /\ D.nx σ H) \/ ((Ite K b l).go i H /\ ∃ N : St -> Hp -> Prop, (∀ σ' H', N σ' H' -> ∃ m', m' < m /\ W (i + 1) m' σ' H') /\ ∀ x H', (Ite K b l).yld i H x H' -> g x σ H' fun σ2 H2 => tb { D with nx := N, ct := N, bk := D.nx } σ2 H2) := by
 refine ⟨fun i m σ H => m = xs.length - i /\ i <= xs.length /\ Pv i σ H, ⟨xs.length, by simp, Nat.zero_le _, h0⟩, ?_⟩
 rintro i m σ H ⟨rfl, hi, p⟩
 have q := hl i σ H hi p
 by_cases hlt : i < xs.length
 ·refine .inr ⟨⟨xs, xs[i], q, by simp [hlt]⟩, Pv (i + 1), fun σ' H' p' => ⟨xs.length - (i + 1), by lia, rfl, hlt, p'⟩, fun x H' y => ?_⟩
  obtain ⟨T, z, rfl, nT, rfl, hz⟩ := y
  exact hs i z σ _ T (hz xs q) p nT
 ·have e : i = xs.length := by lia
  subst e
  exact .inl ⟨⟨xs, q, rfl⟩, hd σ H p⟩
variable {k : Nat} {cs : List Nat} {g : TG} {tc : TT} {te : TE} {fin : List V -> Hp -> Prop}
end
end L2
namespace L2
open PySem PySem.Spec PyProof.Rows
theorem rm {a b : Nat} {A : Around} (h : CL b A) (hle : a <= b := by first | decide | lia) : CL a A := h.mono hle
structure Cal (P : Program) (w : World) (K : PySem.W.Frag) (mg : Str -> Option Value) (base : Heap) (CX : CXT) (k : Nat) (x : Str) (ps : List Str) (sp : Sp) : Prop where
 ex : ∃ (f : Addr) (fd : FuncData), AY P w K mg base CX k f fd ps sp /\ mg x = some (.ref f) /\ PySem.W.keepIn K (.ref f) = true /\ DA K fd ps []
structure CM (P : Program) (w : World) (K : PySem.W.Frag) (mg : Str -> Option Value) (base : Heap) (CX : CXT) (k : Nat) (C : Addr) (m : Str) (ps : List Str) (sp : Sp) : Prop where
 ex : ∃ (f : Addr) (fd : FuncData), AY P w K mg base CX k f fd ps sp /\ GF K C m f /\ DA K fd ps []
 cl : Cls K C
structure CalC (P : Program) (w : World) (K : PySem.W.Frag) (mg : Str -> Option Value) (base : Heap) (CX : CXT) (k : Nat) (x : Str) (C : Addr) (ps : List Str) (sp : Sp) : Prop where
 ex : ∃ (f : Addr) (fd : FuncData), AY P w K mg base CX k f fd ps sp /\ Mk K C f /\ mg x = some (.ref C) /\ DA K fd ps []
section
variable {X : Cx} {CX : CXT} {k : Nat} {C : Addr} {ps : List Str} {sp : Sp} {E : XK} {x m : Str} {p pos apos : Pos} {e o : Expr} {es : List Expr} {ta : TE} {t : TA}
theorem As (c : Cal X.prog X.w X.K X.mg X.base CX k x ps sp) (hr : CL k X.A) (hg : Gl X x) (hx : FU CX X E) (ha : PA X (e :: es) t) (hdb : (x == ("__debug__" : Str)) = false := by decide)
  (he : starEach (e :: es) X.env = (false, eval e X.env) :: starEach es X.env := by rfl) (hpl : (backTo pos (starEach es X.env)).any (·.1) = false := by rfl) : PE X (.Call (.Name x p) (e :: es) [] pos) (tCall sp [] E t) := by
 obtain ⟨f, fd, F, hm, hk, hb⟩ := c.ex
 exact pe_call F hr hg hm hk hb .nil hx ha hdb he hpl
theorem AU {pl : Sem Bool} (he : PE X o ta) (c : CM X.prog X.w X.K X.mg X.base CX k C m ps sp) (hr : CL k X.A) (hx : FU CX X E) (ha : PA X (e :: es) t)
  (hst : starEach (e :: es) X.env = (false, eval e X.env) :: starEach es X.env := by rfl) (hpl : (backTo pos (starEach es X.env)).any (·.1) = false := by rfl)
  (ht : eval (.Call (.Attribute o m apos) (e :: es) [] pos) X.env = (do
   let ov <- eval o X.env; standAt apos.atName
   let (f, first) <- holding [ov] (getMethod ov m pl); callWith pos f first (backTo pos (starEach (e :: es) X.env)) (backToKw pos (keywordEach [] X.env))) := by rfl) : PE X (.Call (.Attribute o m apos) (e :: es) [] pos) (tMeth C m sp [] E ta t) := by
 obtain ⟨f, fd, F, hm, hb⟩ := c.ex
 exact pe_meth he c.cl hm F hr hb .nil hx ha hst hpl ht
theorem Nd (c : CalC X.prog X.w X.K X.mg X.base CX k x C ps sp) (hr : CL (k + 1) X.A) (hg : Gl X x) (hx : FU CX X E) (hdb : (x == ("__debug__" : Str)) = false := by decide) : PE X (.Call (.Name x p) [] [] pos) (tMake C sp [] E tNil) := by
 obtain ⟨f, fd, F, M, hm, hb⟩ := c.ex
 exact Ra M F hr hg hm hb .nil hx hdb
theorem Df {i : Int} (hg : Gl X x) (hm : ∃ tk, X.mg x = some (.int i tk)) (hd : (x == ("__debug__" : Str)) = false := by decide) : PE X (.Name x pos) (tC (.int i)) := by
 obtain ⟨tk, hm⟩ := hm
 exact OQ hg hm ⟨tk, rfl⟩ hd
theorem pe_gref {a : Addr} (hg : Gl X x) (hm : X.mg x = some (.ref a)) (hd : (x == ("__debug__" : Str)) = false := by decide) : PE X (.Name x pos) (tC (.ref a)) := OQ hg hm rfl hd
end
def cOk (So : Scope) (No : List Str) (scope : Scope) (N : List Str) (k : Nat) (cs : List Nat) : Bool :=
 scope.names.all (fun y => y.2 != .cell) && (scope.kind == .function && (scope.names.all (fun y => y.2 != .local || scope.names.lookup y.1 == some .local) && (scope.names.all (fun y => y.2 != .free || (So.names.lookup y.1 == some .cell || So.names.lookup y.1 == some .free)) &&
  (N.length == k + cs.length && (List.range cs.length).all fun j => match N[k + j]?, No[cs.getD j 0]? with
   | some x, some y => x == y && scope.names.lookup x == some .free
   | _, _ => false))))
theorem Db.of {X : Cx} {So : Scope} {No : List Str} {scope : Scope} {N : List Str} {k : Nat} {cs : List Nat} (hS : X.env.scope = So) (hN : X.N = No) (h : cOk So No scope N k cs = true) : Db X scope N k cs := by
 subst hS hN
 unfold cOk at h
 simp only [Bool.and_eq_true, List.all_eq_true, bne_iff_ne, ne_eq, Bool.or_eq_true, beq_iff_eq, List.mem_range] at h
 obtain ⟨h1, h2, h3, h4, h5, h6⟩ := h
 refine ⟨h1, h2, fun y hy e => ?_, fun y hy e => ?_, h5, fun j hj => ?_⟩
 ·rcases h3 y hy with z | z
  ·exact absurd e z
  ·exact z
 ·rcases h4 y hy with z | z
  ·exact absurd e z
  ·exact z
 ·have z := h6 j hj
  split at z
  ·rename_i x y e1 e2
   simp only [Bool.and_eq_true, beq_iff_eq] at z
   obtain ⟨z1, z2⟩ := z
   subst z1
   exact ⟨x, e1, e2, z2⟩
  ·cases z
theorem PB {σ : St} {H : Hp} {A B : Hp -> Prop} (h : A H) : tYes σ H fun b H3 => if b = true then A H3 else B H3 := by
 show if true = true then A H else B H
 exact Da h
theorem MD {tb : TE} {σ : St} {H : Hp} {Q : VK} {b1 b2 : Bool} (h2 : b1 = true -> ∀ Q' : VK, Q' (.bl b2) H -> tb σ H Q') (q : Q (.bl (b1 && b2)) H) : ∃ c, V.bl b1 = .bl c /\ if c = true then tb σ H Q else Q (.bl false) H := by
 cases b1 with
 | true => exact ⟨true, rfl, Da (h2 rfl Q q)⟩
 | false => exact ⟨false, rfl, BC q⟩
theorem QC {u : TT} {σ : St} {H : Hp} {Q : Bool -> Hp -> Prop} {b1 b2 : Bool} (h2 : b1 = true -> ∀ Q' : Bool -> Hp -> Prop, Q' b2 H -> u σ H Q') (q : Q (b1 && b2) H) : if b1 = true then u σ H Q else Q false H := by
 cases b1 with
 | true => exact Da (h2 rfl Q q)
 | false => exact BC q
section
variable {X : Cx} {scope : Scope} {N : List Str} {s : Shared} {H : Hp} {ex : List Addr} {x y : Str} {px py pos : Pos} {k : Nat}
theorem DK {i : Nat} (hN : N.Nodup) (hi : N[i]? = some x) (hl : (relabel scope X.env).names.lookup x = some .local) : PG (cxC X scope N s H ex) (.Name x pos) (Lx i) := BG (X := cxC X scope N s H ex) hN hi (.inl hl) (.inr hl)
end
section
variable {X : Cx}
end
end L2
namespace L2
open PySem
section
variable {X : Cx} {es es' : List Expr} {t t' : TA} {pos : Pos}
theorem AH {i : Int} {j} (hr : PA X es t) : PA X (.Constant (.int i) j pos :: es) (MK (tC (.int i)) t) := Aa Ac hr
theorem BV {x1} (h : PA X es' t') (hr : PA X es t) : PA X (.Tuple es' x1 pos :: es) (MK (tTup t') t) := Aa (Cc h) hr
theorem Bk {op : Operator} {r : R2} {a b : Expr} {ta tb : TE} (ho : OpR X (binaryOp op) r) (ha : PE X a ta) (hb : PE X b tb) (hr : PA X es t) : PA X (.BinOp a op b pos :: es) (MK (tOp r ta tb) t) := Aa (Aq ho ha hb) hr
theorem El {K : PySem.W.Frag} (h : X.K = K) : IxR X (LS K) := h ▸ Am
theorem RN {K : PySem.W.Frag} (h : X.K = K) : IxR X (rIxL K) := h ▸ AC
end
end L2
namespace Nu
open PySem PySem.NumText PyProof.Rows
end Nu
namespace L2
open PySem PySem.Spec PyProof.Rows
section
variable {X : Cx}
theorem pe_fldK {K : PySem.W.Frag} {e : Expr} {f : Str} {ta : TE} {pos : Pos} (hK : X.K = K) (he : PE X e ta) (hb : attributeBase e f X.env (eval e X.env) = eval e X.env) : PE X (.Attribute e f pos) (tFld K ta f) := hK ▸ AQ he hb
end
end L2
namespace L2
open PySem PySem.Spec PyProof.Rows
section
variable {X : Cx}
theorem FE {ns : List Int} {its : List Value} (rv : Ba (ns.map V.int) its) : ∀ (i : Nat) v, its.toArray[i]? = some v -> ∃ t, v = .int (ns.getD i 0) t := fun i v e => by
 have e : its[i]? = some v := by simpa using e
 cases eb : ns[i]? with
 | none =>
  have : its[i]? = none := rv.none_of (by rw [List.getElem?_map, eb]; rfl)
  rw [e] at this
  cases this
 | some b =>
  obtain ⟨u, hu, ru⟩ := rv.get (i := i) (x := V.int b) (by rw [List.getElem?_map, eb]; rfl)
  rw [e] at hu
  cases hu
  rw [List.getD_eq_getElem?_getD, eb]
  obtain ⟨t, rfl⟩ := ru
  exact ⟨t, rfl⟩
theorem Gw (hc : X.calm = true) : Go X (.builtin "min") (fun xs H Q => ∃ (p : Addr) (ns : List Int), xs = [.ref p] /\ SqL X.K H p (ns.map V.int) /\ ns ≠ [] /\ ∀ m ∈ ns, (∀ x ∈ ns, m <= x) -> Q (.int m) H) := by
 intro pins s σ H xs us Q I r h
 obtain ⟨p, ns, rfl, hq, ne, q⟩ := h
 cases r with
 | cons r1 r2 =>
  cases r2
  cases (show _ = Value.ref p from r1)
  obtain ⟨its, rv, pl, hz⟩ := I.list hq
  have hlt : p < s.heap.objs.size := by obtain ⟨o, n, e, _⟩ := pl; exact Heap.lt_size e
  have hne : p ≠ s.heap.objs.size := Nat.ne_of_lt hlt
  have len : its.toArray.size = ns.length := by rw [List.size_toArray, <- rv.length, List.length_map]
  have pos : 0 < ns.length := List.length_pos_iff.mpr ne
  refine call_min_walk (wpAny_pyIter_list pl.isList ?_)
  refine ⟨s.heap.objs.size, _, _, _, _, _, _, rfl, (Walks.list (A := X.A.in1) (I.ok.hd hc) s.heap.objs.size p hne its.toArray), ⟨⟨_, Heap.get?_push_size _ rfl, rfl, rfl⟩, ?_⟩, ?_, by rw [len]; exact pos, CmpOf.ints_lt (fun i => ns.getD i 0) (FE rv), ?_⟩
  ·exact pl.isList.at fun o e => Heap.get?_push_of_some _ e
  ·intro b hb
   show b < (s.heap.push _).objs.size
   rw [Heap.size_push]
   rcases List.mem_cons.mp hb with rfl | hb
   ·exact Nat.lt_succ_self _
   ·rcases List.mem_cons.mp hb with rfl | hb
    ·exact Nat.lt_succ_of_lt hlt
    ·cases hb
  ·intro v h' tk hP kk
   have I2 : Inv X pins σ H { s with heap := h', toks := tk } := I.kept fun b o e => kk b o (by intro z; exact Nat.ne_of_lt (Heap.lt_size e) (by simpa using z)) (Heap.get?_push_of_some _ e)
   obtain ⟨t, rfl⟩ := FE rv _ _ hP
   obtain ⟨b1, b2⟩ := argBest_lt (fun i => ns.getD i 0) (its.toArray.size - 1)
   generalize argBest (fun i j => decide (ns.getD i 0 < ns.getD j 0)) (its.toArray.size - 1) = z at b1 b2 hP ⊢
   rw [len] at b1 b2
   have hz2 : z < ns.length := by lia
   have ez : ns.getD z 0 = ns[z] := by rw [List.getD_eq_getElem?_getD, List.getElem?_eq_getElem hz2]; rfl
   refine ⟨.int _, H, I2, ⟨t, rfl⟩, q _ (by rw [ez]; exact List.getElem_mem hz2) fun x hx => ?_⟩
   obtain ⟨j, hj, e⟩ := List.mem_iff_getElem.mp hx
   have := b2 j (by lia)
   have ej : ns.getD j 0 = x := by rw [List.getD_eq_getElem?_getD, List.getElem?_eq_getElem hj, <- e]; rfl
   rw [<- ej]
   exact this
theorem Gx (hc : X.calm = true) : Go X (.builtin "max") (fun xs H Q => ∃ (p : Addr) (ns : List Int), xs = [.ref p] /\ SqL X.K H p (ns.map V.int) /\ ns ≠ [] /\ ∀ m ∈ ns, (∀ x ∈ ns, x <= m) -> Q (.int m) H) := by
 intro pins s σ H xs us Q I r h
 obtain ⟨p, ns, rfl, hq, ne, q⟩ := h
 cases r with
 | cons r1 r2 =>
  cases r2
  cases (show _ = Value.ref p from r1)
  obtain ⟨its, rv, pl, hz⟩ := I.list hq
  have hlt : p < s.heap.objs.size := by obtain ⟨o, n, e, _⟩ := pl; exact Heap.lt_size e
  have hne : p ≠ s.heap.objs.size := Nat.ne_of_lt hlt
  have len : its.toArray.size = ns.length := by rw [List.size_toArray, <- rv.length, List.length_map]
  have pos : 0 < ns.length := List.length_pos_iff.mpr ne
  refine call_max_walk (wpAny_pyIter_list pl.isList ?_)
  refine ⟨s.heap.objs.size, _, _, _, _, _, _, rfl, (Walks.list (A := X.A.in1) (I.ok.hd hc) s.heap.objs.size p hne its.toArray), ⟨⟨_, Heap.get?_push_size _ rfl, rfl, rfl⟩, ?_⟩, ?_, by rw [len]; exact pos, CmpOf.ints_gt (fun i => ns.getD i 0) (FE rv), ?_⟩
  ·exact pl.isList.at fun o e => Heap.get?_push_of_some _ e
  ·intro b hb
   show b < (s.heap.push _).objs.size
   rw [Heap.size_push]
   rcases List.mem_cons.mp hb with rfl | hb
   ·exact Nat.lt_succ_self _
   ·rcases List.mem_cons.mp hb with rfl | hb
    ·exact Nat.lt_succ_of_lt hlt
    ·cases hb
  ·intro v h' tk hP kk
   have I2 : Inv X pins σ H { s with heap := h', toks := tk } := I.kept fun b o e => kk b o (by intro z; exact Nat.ne_of_lt (Heap.lt_size e) (by simpa using z)) (Heap.get?_push_of_some _ e)
   obtain ⟨t, rfl⟩ := FE rv _ _ hP
   obtain ⟨b1, b2⟩ := argBest_gt (fun i => ns.getD i 0) (its.toArray.size - 1)
   generalize argBest (fun i j => decide (ns.getD i 0 > ns.getD j 0)) (its.toArray.size - 1) = z at b1 b2 hP ⊢
   rw [len] at b1 b2
   have hz2 : z < ns.length := by lia
   have ez : ns.getD z 0 = ns[z] := by rw [List.getD_eq_getElem?_getD, List.getElem?_eq_getElem hz2]; rfl
   refine ⟨.int _, H, I2, ⟨t, rfl⟩, q _ (by rw [ez]; exact List.getElem_mem hz2) fun x hx => ?_⟩
   obtain ⟨j, hj, e⟩ := List.mem_iff_getElem.mp hx
   have := b2 j (by lia)
   have ej : ns.getD j 0 = x := by rw [List.getD_eq_getElem?_getD, List.getElem?_eq_getElem hj, <- e]; rfl
   rw [<- ej]
   exact this
end
end L2
namespace L2
open PySem PySem.Spec PyProof.Rows
theorem Sl (ns ms : List Int) : ((List.range (min ns.length ms.length)).all (fun j => ns.getD j 0 == ms.getD j 0) && ns.length == ms.length) = decide (ns = ms) := by
 rw [Bool.eq_iff_iff, Bool.and_eq_true, List.all_eq_true, beq_iff_eq, decide_eq_true_iff]
 constructor
 ·rintro ⟨h1, h2⟩
  refine List.ext_getElem h2 fun i h3 h4 => ?_
  have := h1 i (List.mem_range.mpr (by lia))
  rw [beq_iff_eq, List.getD_eq_getElem?_getD, List.getD_eq_getElem?_getD, List.getElem?_eq_getElem h3, List.getElem?_eq_getElem h4] at this
  exact this
 ·rintro rfl
  exact ⟨fun x _ => beq_iff_eq.mpr rfl, rfl⟩
section
variable {X : Cx}
theorem PF {H : Hp} {ns : List Int} {its : List Value} (rv : Ba (ns.map V.int) its) {A : Around} {s : Shared} {ms : List Int} {jts : List Value} (rw' : Ba (ms.map V.int) jts) (j : Nat) (h1 : j < its.toArray.size) (h2 : j < jts.toArray.size) : PySem.SeqAt.EqAt A s its.toArray[j] jts.toArray[j] (ns.getD j 0 == ms.getD j 0) := by
 obtain ⟨t, e⟩ := FE rv j _ (Array.getElem?_eq_getElem h1)
 obtain ⟨u, e2⟩ := FE rw' j _ (Array.getElem?_eq_getElem h2)
 rw [e, e2]
 exact PySem.SeqAt.EqAt.int_int _ t _ u
theorem Iq (hu : X.A.units + 64 < cLine) : OpR X (compareOp .Eq) (fun x y H Q => ∃ (a b : Addr) (ns ms : List Int), x = .ref a /\ y = .ref b /\ SqT X.K H a (ns.map V.int) /\ SqT X.K H b (ms.map V.int) /\ Q (.bl (decide (ns = ms))) H) := by
 intro pins s σ H x y v u Q I rx ry h
 obtain ⟨a, b, ns, ms, rfl, rfl, h1, h2, q⟩ := h
 cases rx
 cases ry
 obtain ⟨xs, r1, p1, _⟩ := I.tuple h1
 obtain ⟨ys, r2, p2, _⟩ := I.tuple h2
 refine PySem.SeqAt.eq_tupleAt p1 p2 (by lia) (fun j k1 k2 => PF (H := H) r1 r2 j k1 k2) ?_
 rw [List.size_toArray, List.size_toArray, <- r1.length, <- r2.length, List.length_map, List.length_map, Sl]
 exact ⟨.bl _, H, I, rfl, q⟩
end
section
variable {prog : Program} {w : World} {κ : Type} [DecidableEq κ] {knd : HeapKind prog w κ} {A : Around} {E : Value -> Shared -> Prop} {s : Shared}
end
section
variable {X : Cx} {pins : List (Addr × Obj)} {σ : St} {H : Hp} {s : Shared} {a : Addr} {y v : V} {u r : Value} {o : Option V} {A : Around} {E : Value -> Shared -> Prop}
end
section
variable {X : Cx} {o e f : Expr} {apos cpos : Pos} {td ty tx : TE}
end
end L2
namespace L2
open PySem PySem.Spec PyProof.Rows
section
variable {prog : Program} {w : World} {A : Around} {E : Value -> Shared -> Prop} {s : Shared} {d it : Addr} {o : Obj} {es : Array DictEntry} {ep i : Nat}
theorem MW {Q : Value -> Shared -> Prop} (hd : (d == sysModules) = false) (ho : s.heap.get? d = some o) (hc : o.ExactDict) (da : o.data = .dict es ep)
  (q : Q (.ref s.heap.objs.size) { s with heap := s.heap.push { cls := .type "dict_keyiterator", data := .fields #[.ref d, .int 0 0, .int es.size 0, .int ep 0] } }) : wpAny (model prog w) A (pyIter (.ref d)) Q E s := by
 have hT : s.TypeIs (.ref d) "dict" := ⟨o, ho, hc.1⟩
 refine wpAny_pyIter_slot hT F.slot_dict_iter (wpAny_call_entry F.slot_dict_iter hT F.entry_dict_iter ?_ (F.args_dict_iter_1 _)); unfold Builtin.«dict.__iter__»; refine wpAny_bind ?_
 unfold Builtin.Dict.dictSlotNone; refine wpAny_bind (wpAny_notOrdered_dict hT ?_); show wpAny _ _ (pure (Value.ref d)) _ _ s; refine wpAny_pure ?_; show wpAny _ _ (Builtin.Dict.showsAll d >>= _) _ _ s
 unfold Builtin.Dict.showsAll; rw [if_neg (by rw [hd]; exact Bool.false_ne_true)]; refine wpAny_bind (wpAny_pure ?_); refine wpAny_bind (wpAny_dictEntries ho da ?_); refine wpAny_bind (wpAny_dictEpoch ho da ?_)
 refine wpAny_bind (wpAny_newObj_type (wpAny_pure ⟨_, rfl, "dict_keyiterator", _, ⟨_, Heap.get?_push_size _ rfl, rfl⟩, F.slot_dict_keyiterator_next.lookup, ?_⟩)); simpa [rawInt] using q
theorem QU {Q : Option Value -> Shared -> Prop} (hit : s.heap.IsKeyIter it d i es.size ep) (ho : s.heap.get? d = some o) (da : o.data = .dict es ep) (hi : i < es.size)
  (q : ∀ h', h'.IsKeyIter it d (i + 1) es.size ep -> Heap.SameBut it s.heap h' -> Q (some es[i].key) { s with heap := h' }) : wpAny (model prog w) A (pyNext (.ref it)) Q E s := by
 obtain ⟨io, hio, ic, idt⟩ := id hit
 unfold pyNext; refine wpAny_bind (wpAny_attempt (wpAny_callSpecial?_slot (name := Str.ofString "__next__") hit.typeIs F.slot_dict_keyiterator_next (wpAny_call_entry F.slot_dict_keyiterator_next hit.typeIs F.entry_dict_keyiterator_next ?_ (F.args_dict_keyiterator_next_1 _))))
 refine wpAny_bind (wpAny_pure ?_); refine wpAny_bind ?_; refine wpAny_bind ?_
 (first | refine wpAny_bind (wpAny_typeNameOfWhole_keyiter hit.typeIs (wpAny_pure ?_)) | refine wpAny_bind (wpAny_typeNameOf_keyiter hit.typeIs (wpAny_pure ?_))); refine wpAny_bind (wpAny_fieldsOf hio idt ?_)
 have hown : Builtin.Dict_items.ownsTuple "dict_keyiterator" = false := (by decide); simp only [hown, Bool.false_eq_true, if_false]; show wpAny _ _ (if (Value.ref d == Value.none) = true then _ else _) _ _ s
 rw [if_neg (show ¬ ((Value.ref d == Value.none) = true) from Bool.false_ne_true)]; refine wpAny_bind (wpAny_pure ?_); refine wpAny_bind (wpAny_dictEntries ho da ?_); rw [if_neg (by simp)]
 refine wpAny_bind (wpAny_pure ?_); refine wpAny_bind (wpAny_dictEpoch ho da ?_); rw [if_neg (by simp)]; refine wpAny_pure ?_
 simp only [show ¬ ((i : Int) < 0) from by lia, if_false, Int.toNat_natCast, Array.getElem?_eq_getElem hi]; refine wpAny_bind ?_
 (first | refine wpAny_bind (wpAny_typeNameOfWhole_keyiter hit.typeIs (wpAny_pure ?_)) | refine wpAny_bind (wpAny_typeNameOf_keyiter hit.typeIs (wpAny_pure ?_))); refine wpAny_bind (wpAny_isOneOf_keyiter hit.typeIs ?_)
 show wpAny _ _ (setField (.ref it) 1 (rawInt ((i : Int) + 1)) >>= _) _ _ s; refine wpAny_bind (wpAny_setField hio idt (by simp) ?_)
 have next : (s.heap.update it (Obj.mapFields (·.setIfInBounds 1 (rawInt ((i : Int) + 1))))).IsKeyIter it d (i + 1) es.size ep := ⟨_, Heap.get?_update_self _ hio (Obj.isFreed_of_fields (Obj.data_mapFields idt _)), (Obj.cls_mapFields ..).trans ic, by rw [Obj.data_mapFields idt]; simp [rawInt]⟩
 refine wpAny_bind (wpAny_holding ?_); refine wpAny_bind (wpAny_isOneOf_keyiter (s := { s with heap := s.heap.update it (Obj.mapFields (·.setIfInBounds 1 (rawInt ((i : Int) + 1)))) }) next.typeIs ?_); show wpAny _ _ (pure es[i].key) _ _ _
 exact wpAny_pure (wpAny_pure ⟨_, rfl, wpAny_pure (q _ next (Heap.SameBut.update ..))⟩)
theorem raw_end {Q : Option Value -> Shared -> Prop} (hh : A.handled = none) (hit : s.heap.IsKeyIter it d i es.size ep) (ho : s.heap.get? d = some o) (da : o.data = .dict es ep) (hi : es.size <= i)
  (q : ∀ h', Heap.ExtBut it s.heap h' -> Q none { s with heap := h' }) : wpAny (model prog w) A (pyNext (.ref it)) Q E s := by
 obtain ⟨io, hio, ic, idt⟩ := id hit
 unfold pyNext; refine wpAny_bind (wpAny_attempt (wpAny_callSpecial?_slot (name := Str.ofString "__next__") hit.typeIs F.slot_dict_keyiterator_next (wpAny_call_entry F.slot_dict_keyiterator_next hit.typeIs F.entry_dict_keyiterator_next ?_ (F.args_dict_keyiterator_next_1 _))))
 refine wpAny_bind (wpAny_pure ?_); refine wpAny_bind ?_; refine wpAny_bind ?_
 (first | refine wpAny_bind (wpAny_typeNameOfWhole_keyiter hit.typeIs (wpAny_pure ?_)) | refine wpAny_bind (wpAny_typeNameOf_keyiter hit.typeIs (wpAny_pure ?_))); refine wpAny_bind (wpAny_fieldsOf hio idt ?_)
 have hown : Builtin.Dict_items.ownsTuple "dict_keyiterator" = false := (by decide); simp only [hown, Bool.false_eq_true, if_false]; show wpAny _ _ (if (Value.ref d == Value.none) = true then _ else _) _ _ s
 rw [if_neg (show ¬ ((Value.ref d == Value.none) = true) from Bool.false_ne_true)]; refine wpAny_bind (wpAny_pure ?_); refine wpAny_bind (wpAny_dictEntries ho da ?_); rw [if_neg (by simp)]
 refine wpAny_bind (wpAny_pure ?_); refine wpAny_bind (wpAny_dictEpoch ho da ?_); rw [if_neg (by simp)]; refine wpAny_pure ?_
 simp only [show ¬ ((i : Int) < 0) from by lia, if_false, Int.toNat_natCast, Array.getElem?_eq_none hi]; refine wpAny_bind ?_
 (first | refine wpAny_bind (wpAny_typeNameOfWhole_keyiter hit.typeIs (wpAny_pure ?_)) | refine wpAny_bind (wpAny_typeNameOf_keyiter hit.typeIs (wpAny_pure ?_)))
 show wpAny _ _ (setField (.ref it) 0 .none >>= _) _ _ s; refine wpAny_bind (wpAny_setField hio idt (by simp) ?_); show wpAny _ _ (newExc (.type "StopIteration") [] >>= _) _ _ _; refine wpAny_bind ?_
 simp only [newExc, newTuple]; refine wpAny_bind (wpAny_newObj_type ?_ (by size_fits)); refine wpAny_bind (m := firstArgMember _ _) (wpAny_of_eq (a := Value.none) (by first | rfl | (simp only [firstArgMember]; rfl)) ?_)
 refine wpAny_newObj_type ?_ (by size_fits); simp only [raiseNew]; refine wpAny_bind (wpAny_handled ?_); rw [show A.in1.handled = none from hh]; refine wpAny_bind (wpAny_pure (wpAny_throw ?_))
 refine wpAny_bind (wpAny_isInstance (T := "StopIteration") (b := true) ⟨_, Heap.get?_push_size _ rfl, rfl⟩ isSubtype_stop ?_); exact wpAny_pure (q _ (((Heap.SameBut.update ..).extBut.push _).push _))
end
def Itd (a : Addr) (o : Obj) (kvs : List (List Key × V)) : It :=
 ⟨fun i H => H a = some (.frz o (.dT kvs)) /\ i < kvs.length, fun i H x H' => H' = H /\ ∃ b k v, x = .ref b /\ kvs[i]? = some (k, v) /\ H b = some (.tup (k.map kV)), fun i H => H a = some (.frz o (.dT kvs)) /\ kvs.length <= i⟩
theorem RU {P : Program} {w : World} {H : Hp} {h : Heap} {a : Addr} {o : Obj} {kvs : List (List Key × V)} (ok : HOk P w H h) (e : H a = some (.frz o (.dT kvs))) :
  h.get? a = some o /\ ∃ (xs : List (List Key × Addr × Value)) (es : Array DictEntry) (ep : Nat), KT H kvs xs /\ o.data = .dict es ep /\ es.toList = xs.map (entryOfKey (tupleKind (Cf P w))) := by
 obtain ⟨e1, z, y, xs, r, o', es, ep, h1, h2, h3, h4, h5⟩ := (show Bm P w H h a (.frz o (.dT kvs)) from ok a _ e)
 rw [e1] at h1
 cases h1
 exact ⟨e1, xs, es, ep, r, h3, h4⟩
theorem KT.at_ {H : Hp} : ∀ {kvs : List (List Key × V)} {xs : List (List Key × Addr × Value)} {i : Nat} {x : List Key × Addr × Value}, KT H kvs xs -> xs[i]? = some x -> ∃ v, kvs[i]? = some (x.1, v) /\ H x.2.1 = some (.tup (x.1.map kV)) := by
 intro kvs xs i x r
 induction r generalizing i with
 | nil => intro e; simp at e
 | @cons p q ps qs h t ih =>
  intro e
  cases i with
  | zero =>
   have e : q = x := by simpa using e
   subst e
   obtain ⟨h1, h2, _⟩ := h
   exact ⟨p.2, by rw [List.getElem?_cons_zero, <- h1], by rw [<- h1]; exact h2⟩
  | succ i =>
   obtain ⟨v, e1, e2⟩ := ih (i := i) (by simpa using e)
   exact ⟨v, by simpa using e1, e2⟩
theorem Js {P : Program} {w : World} {K : PySem.W.Frag} {tg : Expr} (a it : Addr) (o : Obj) (kvs : List (List Key × V)) (es : Array DictEntry) (ep : Nat) (da : o.data = .dict es ep) (hz : es.size = kvs.length) : NM P w K tg (Itd a o kvs) [it] it (fun i h => h.IsKeyIter it a i es.size ep) where
 mem := by simp
 obj := fun i h st b hb => by
  obtain rfl : b = it := by simpa using hb
  obtain ⟨o, e, c, d⟩ := st
  exact ⟨o, e, fun v z => (by rw [d] at z; cases z)⟩
 keep := fun i h h' st k => st.at fun o e => k it (by simp) o e
 item := by
  intro X hP hw hK hc i pins s σ H E I hf st hg
  subst hP hw hK
  obtain ⟨hq, hi⟩ := hg
  obtain ⟨ga, xs, es', ep', kt, da', el⟩ := RU I.hok hq
  rw [da] at da'
  cases da'
  have hi' : i < es.size := by lia
  obtain ⟨f0, f1, f2, f3, f4, f5⟩ := hf it (by simp)
  refine QU st ga da hi' fun h' st' sb => ?_
  have I1 : Inv X pins σ H { s with heap := h' } := I.turned (t' := s.toks) (fun b o hb e => (sb.2 b hb).trans e) f0 f1 f3 f4 f5
  have lx : i < xs.length := by rw [<- size_of_entries el]; exact hi'
  obtain ⟨v, e1, e2⟩ := KT.at_ kt (List.getElem?_eq_getElem lx)
  have ek : es[i].key = .ref xs[i].2.1 := by
   have := entry_at el i
   rw [Array.getElem?_eq_getElem hi', List.getElem?_eq_getElem lx] at this
   rw [Option.some.inj this]
   rfl
  obtain ⟨q, e, c, d⟩ := id st'
  exact ⟨_, rfl, Pe (s := { s with heap := h' }) e c d (by decide) ⟨.ref xs[i].2.1, H, I1, ek, ⟨rfl, _, _, v, rfl, e1, e2⟩, st', fun b hb => (hf b hb).1⟩⟩
 done := by
  intro X hP hw hK hc i pins s σ H E I hf st hg
  subst hP hw hK
  obtain ⟨hq, hi⟩ := hg
  obtain ⟨ga, _⟩ := RU I.hok hq
  obtain ⟨f0, f1, f2, f3, f4, f5⟩ := hf it (by simp)
  exact raw_end (I.ok.hd hc) st ga da (by lia) fun h' eb => ⟨rfl, I.turned (t' := s.toks) (fun b o hb e => eb b o hb e) f0 f1 f3 f4 f5⟩
 self := fun _ _ _ _ _ st h => wpAny_pyIter_keyiter st h
theorem RW {a : Addr} {o : Obj} {kvs : List (List Key × V)} {g : TG} {tb : TS} {D : Lj} {σ : St} {H : Hp} (Pv : Nat -> St -> Hp -> Prop) (h0 : Pv 0 σ H) (hl : ∀ i σ H, i <= kvs.length -> Pv i σ H -> H a = some (.frz o (.dT kvs)))
  (hs : ∀ i b k v σ H, kvs[i]? = some (k, v) -> H b = some (.tup (k.map kV)) -> Pv i σ H -> g (.ref b) σ H fun σ2 H2 => tb { D with nx := Pv (i + 1), ct := Pv (i + 1), bk := D.nx } σ2 H2) (hd : ∀ σ H, Pv kvs.length σ H -> D.nx σ H) :
  ∃ W : Nat -> Nat -> St -> Hp -> Prop, (∃ m, W 0 m σ H) /\ ∀ i m σ H, W i m σ H ->
   ((Itd a o kvs).stop i H /\ D.nx σ H) \/ ((Itd a o kvs).go i H /\ ∃ N : St -> Hp -> Prop, (∀ σ' H', N σ' H' -> ∃ m', m' < m /\ W (i + 1) m' σ' H') /\ ∀ x H', (Itd a o kvs).yld i H x H' -> g x σ H' fun σ2 H2 => tb { D with nx := N, ct := N, bk := D.nx } σ2 H2) := by
 refine ⟨fun i m σ H => m = kvs.length - i /\ i <= kvs.length /\ Pv i σ H, ⟨kvs.length, by simp, Nat.zero_le _, h0⟩, ?_⟩
 rintro i m σ H ⟨rfl, hi, p⟩
 have e := hl i σ H hi p
 by_cases hlt : i < kvs.length
 ·refine .inr ⟨⟨e, hlt⟩, Pv (i + 1), fun σ' H' z => ⟨_, by lia, rfl, by lia, z⟩, ?_⟩
  rintro x H' ⟨rfl, b, k, v, rfl, e1, e2⟩
  exact hs i b k v σ _ e1 e2 p
 ·have hi' : i = kvs.length := by lia
  subst hi'
  exact .inl ⟨⟨e, Nat.le_refl _⟩, hd σ H p⟩
end L2
namespace L2
open PySem PySem.Spec PyProof.Rows
section
variable {X : Cx}
def CDivB (i j : Int) : Prop := 0 < j /\ j < 2 ^ 64
theorem Ic : OpR X (binaryOp .FloorDiv) (rI CDivB fun i j => .int (i / j)) := opI fun i j _ _ _ _ _ hc q => by
 have h1 : (0 : Int) < j := hc.1
 have h2 : j < 2 ^ 64 := hc.2
 refine floordiv_int (by lia) (by rw [Int.fdiv_eq_ediv_of_nonneg i (by lia)]; exact q) (.inl (PyProof.noPylong_of_log2 ?_))
 have h3 : j.natAbs < 2 ^ 64 := by lia
 exact Nat.lt_of_lt_of_le ((Nat.log2_lt (by lia)).mpr h3) (by decide)
end
end L2
namespace L2
open PySem PySem.W PyProof.Rows
section
variable {rk : Nat -> Int} {n : Nat}
def rkC (rk : Nat -> Int) (n i j : Nat) (C : Bool -> Shared -> Prop) (s : Shared) : Prop := i < n /\ j < n /\ C (decide (rk i < rk j)) s
structure Cr (n : Nat) (p : Array Nat) : Prop where
 sz : p.size = n
 pm : p.Perm (List.range n).toArray
def kk (rk : Nat -> Int) (p : Array Nat) (i : Nat) : Int := rk (p.getD i 0)
theorem Cr.lt {p : Array Nat} (h : Cr n p) {i : Nat} (hi : i < n) : p.getD i 0 < n := by
 have hs : i < p.size := by rw [h.sz]; exact hi
 have e : p.getD i 0 = p[i] := by simp [Array.getD, hs]
 have m : p[i] ∈ p := Array.getElem_mem hs
 have := (Array.Perm.mem_iff h.pm).mp m
 rw [e]
 simpa using this
theorem Cr.rev {p : Array Nat} (h : Cr n p) (i j : Nat) : Cr n (kas_rev p i j) := ⟨(mirror_size _ _ _ _).trans h.sz, (mirror_perm _ _ _ _).trans h.pm⟩
theorem Cr.bub {p : Array Nat} (h : Cr n p) (i j : Nat) : Cr n (bubble p i j) := ⟨(bubble_size _ _ _).trans h.sz, (bubble_perm _ _ _).trans h.pm⟩
theorem gd (p : Array Nat) (i : Nat) : p.getD i 0 = p[i]?.getD 0 := by
 simp
theorem Mp {p : Array Nat} (h : Cr n p) {i j : Nat} (hj : j <= n) (k : Nat) : kk rk (kas_rev p i j) k = if i <= k /\ k < j then kk rk p (i + j - 1 - k) else kk rk p k := by
 have e := getElem?_mirror_all (xs := p) (i := i) (by rw [h.sz]; exact hj) k
 unfold kk kas_rev
 rw [gd, e]
 split <;> rw [gd]
theorem RJ {p : Array Nat} (h : Cr n p) {src d : Nat} (hs : src < n) (hd : d <= src) (k : Nat) : kk rk (bubble p src d) k = if k = src - d then kk rk p src else if src - d < k /\ k <= src then kk rk p (k - 1) else kk rk p k := by
 have e := getElem?_bubble (xs := p) (by rw [h.sz]; exact hs) d hd k
 unfold kk
 rw [gd, e]
 split
 ·rw [gd]
 ·split <;> rw [gd]
def Up (rk : Nat -> Int) (p : Array Nat) (m : Nat) : Prop := ∀ i j, i <= j -> j < m -> kk rk p i <= kk rk p j
def Dn (rk : Nat -> Int) (p : Array Nat) (m : Nat) : Prop := ∀ i j, i <= j -> j < m -> kk rk p j <= kk rk p i
theorem Up.step {p : Array Nat} {m : Nat} (h : Up rk p m) (h1 : 1 <= m) (q : kk rk p (m - 1) <= kk rk p m) : Up rk p (m + 1) := fun i j ij hj => by
 rcases Nat.lt_succ_iff_lt_or_eq.mp hj with z | z
 ·exact h i j ij z
 ·subst z
  rcases Nat.lt_or_ge i j with y | y
  ·exact Int.le_trans (h i (j - 1) (by lia) (by lia)) q
  ·have : i = j := by lia
   subst this
   exact Int.le_refl _
theorem Dn.step {p : Array Nat} {m : Nat} (h : Dn rk p m) (h1 : 1 <= m) (q : kk rk p m <= kk rk p (m - 1)) : Dn rk p (m + 1) := fun i j ij hj => by
 rcases Nat.lt_succ_iff_lt_or_eq.mp hj with z | z
 ·exact h i j ij z
 ·subst z
  rcases Nat.lt_or_ge i j with y | y
  ·exact Int.le_trans q (h i (j - 1) (by lia) (by lia))
  ·have : i = j := by lia
   subst this
   exact Int.le_refl _
theorem Oy {p : Array Nat} (pn : Cr n p) : ∀ {f m : Nat} {s : Shared} {Q : Nat -> Shared -> Prop}, 1 <= m -> m + f <= n -> Up rk p m -> (∀ r, m <= r -> r <= m + f -> Up rk p r -> (r < m + f -> kk rk p r < kk rk p (r - 1)) -> Q r s) -> (kas_asc p f m).kasWp (rkC rk n) Q s
 | 0, m, s, Q, h1, hf, up, k => k m (Nat.le_refl _) (Nat.le_refl _) up fun z => absurd z (Nat.lt_irrefl _)
 | f + 1, m, s, Q, h1, hf, up, k => by
  refine ⟨pn.lt (by lia), pn.lt (by lia), ?_⟩
  by_cases c : kk rk p m < kk rk p (m - 1)
  ·rw [decide_eq_true (show rk (p.getD m 0) < rk (p.getD (m - 1) 0) from c)]
   dsimp only
   rw [if_pos rfl]
   exact k m (Nat.le_refl _) (by lia) up fun _ => c
  ·rw [decide_eq_false (show ¬ rk (p.getD m 0) < rk (p.getD (m - 1) 0) from c)]
   dsimp only
   rw [if_neg (by simp)]
   exact Oy pn (by lia) (by lia) (up.step h1 (by lia)) fun r h2 h3 h4 h5 => k r (by lia) (by lia) h4 fun z => h5 (by lia)
theorem Jz {p : Array Nat} (pn : Cr n p) {m q : Nat} (hm : m <= n) (hq : q + 1 <= m) (eq : ∀ i, m - (q + 1) <= i -> i < m -> kk rk p i = kk rk p (m - 1)) (k : Nat) : kk rk (kas_rev p (m - (q + 1)) m) k = kk rk p k := by
 rw [Mp pn hm]
 split
 ·rename_i z
  rw [eq _ (by lia) (by lia), eq k z.1 z.2]
 ·rfl
theorem Jn : ∀ {f m q : Nat} {p : Array Nat} {s : Shared} {Q : Array Nat × Nat × Nat -> Shared -> Prop}, Cr n p -> q + 1 <= m -> m + f <= n -> Dn rk p m -> (∀ i, m - (q + 1) <= i -> i < m -> kk rk p i = kk rk p (m - 1)) ->
  (∀ p' m' q', Cr n p' -> q' + 1 <= m' -> m' <= n -> Dn rk p' m' -> (∀ i, m' - (q' + 1) <= i -> i < m' -> kk rk p' i = kk rk p' (m' - 1)) -> Q (p', m', q') s) -> (kas_desc f p m q).kasWp (rkC rk n) Q s
 | 0, m, q, p, s, Q, pn, hq, hf, dn, eq, k => k p m q pn hq hf dn eq
 | f + 1, m, q, p, s, Q, pn, hq, hf, dn, eq, k => by
  refine ⟨pn.lt (by lia), pn.lt (by lia), ?_⟩
  have one : ∀ {p' : Array Nat}, ∀ i, m + 1 - (0 + 1) <= i -> i < m + 1 -> kk rk p' i = kk rk p' (m + 1 - 1) := fun i h1 h2 => by
   have : i = m + 1 - 1 := by lia
   rw [this]
  by_cases c : kk rk p m < kk rk p (m - 1)
  ·rw [decide_eq_true (show rk (p.getD m 0) < rk (p.getD (m - 1) 0) from c)]
   dsimp only
   rw [if_pos rfl]
   by_cases hq0 : q > 0
   ·rw [if_pos hq0]
    have same := Jz pn (by lia) hq eq
    refine Jn (pn.rev _ _) (by lia) (by lia) ?_ one k
    refine Dn.step (fun i j ij hj => ?_) (by lia) ?_
    ·rw [same i, same j]
     exact dn i j ij hj
    ·rw [same m, same (m - 1)]
     lia
   ·rw [if_neg hq0]
    exact Jn pn (by lia) (by lia) (dn.step (by lia) (by lia)) one k
  ·rw [decide_eq_false (show ¬ rk (p.getD m 0) < rk (p.getD (m - 1) 0) from c)]
   dsimp only
   rw [if_neg (by simp)]
   refine ⟨pn.lt (by lia), pn.lt (by lia), ?_⟩
   by_cases d : kk rk p (m - 1) < kk rk p m
   ·rw [decide_eq_true (show rk (p.getD (m - 1) 0) < rk (p.getD m 0) from d)]
    dsimp only
    rw [if_pos rfl]
    exact k p m q pn hq (by lia) dn eq
   ·rw [decide_eq_false (show ¬ rk (p.getD (m - 1) 0) < rk (p.getD m 0) from d)]
    dsimp only
    rw [if_neg (by simp)]
    have e : kk rk p m = kk rk p (m - 1) := by lia
    refine Jn pn (by lia) (by lia) (dn.step (by lia) (by lia)) (fun i h1 h2 => ?_) k
    rw [Nat.add_sub_cancel]
    by_cases z : i = m
    ·rw [z]
    ·rw [eq i (by lia) (by lia), e]
theorem OJ {m : Nat} {p : Array Nat} {s : Shared} {Q : Nat × Array Nat -> Shared -> Prop} (pn : Cr n p) (h1 : 1 <= m) (hm : m <= n) (dn : Dn rk p m) (k : ∀ r p', Cr n p' -> r <= n -> 1 <= r -> Up rk p' r -> Q (r, p') s) : (kas_tail3 m n p).kasWp (rkC rk n) Q s := by
 unfold kas_tail3
 rw [KasT.kasWp_bind]
 refine Oy (pn.rev _ _) h1 (by lia) (fun i j ij hj => ?_) fun r h2 h3 h4 _ => k r _ (pn.rev _ _) (by lia) (by lia) h4
 rw [Mp pn hm, Mp pn hm, if_pos ⟨by lia, by lia⟩, if_pos ⟨by lia, by lia⟩]
 exact dn _ _ (by lia) (by lia)
theorem OS {m : Nat} {p : Array Nat} {s : Shared} {Q : Nat × Array Nat -> Shared -> Prop} (pn : Cr n p) (hm : m + 1 <= n) (dn : Dn rk p (m + 1)) (k : ∀ r p', Cr n p' -> r <= n -> 1 <= r -> Up rk p' r -> Q (r, p') s) : (kas_descPart m n p).kasWp (rkC rk n) Q s := by
 unfold kas_descPart
 rw [KasT.kasWp_bind]
 refine Jn pn (by lia) (by lia) dn (fun i h1 h2 => ?_) fun p' m' q' pn' hq hm' dn' eq => ?_
 ·have : i = m + 1 - 1 := by lia
  rw [this]
 ·dsimp only
  split
  ·refine OJ (pn'.rev _ _) (by lia) hm' (fun i j ij hj => ?_) k
   rw [Jz pn' hm' hq eq, Jz pn' hm' hq eq]
   exact dn' i j ij hj
  ·exact OJ pn' (by lia) hm' dn' k
theorem Se {p : Array Nat} {s : Shared} {Q : Nat × Array Nat -> Shared -> Prop} (pn : Cr n p) (hn : 1 <= n) (k : ∀ r p', Cr n p' -> r <= n -> 1 <= r -> Up rk p' r -> Q (r, p') s) : (kas_count n p).kasWp (rkC rk n) Q s := by
 unfold kas_count
 rw [KasT.kasWp_bind]
 have up1 : Up rk p 1 := fun i j ij hj => by
  have h1 : i = 0 := by lia
  have h2 : j = 0 := by lia
  rw [h1, h2]
  exact Int.le_refl _
 refine Oy pn (Nat.le_refl _) (by lia) up1 fun r h1 h2 up hs => ?_
 by_cases e : r = n
 ·rw [if_pos (by simpa using e)]
  exact k r p pn (by lia) h1 up
 ·rw [if_neg (by simpa using e)]
  have hlt := hs (by lia)
  by_cases h3 : r > 1
  ·rw [if_pos h3]
   refine ⟨pn.lt (by lia), pn.lt (by lia), ?_⟩
   by_cases c : kk rk p 0 < kk rk p (r - 1)
   ·rw [decide_eq_true (show rk (p.getD 0 0) < rk (p.getD (r - 1) 0) from c)]
    dsimp only
    rw [if_pos rfl]
    exact k r p pn (by lia) h1 up
   ·rw [decide_eq_false (show ¬ rk (p.getD 0 0) < rk (p.getD (r - 1) 0) from c)]
    dsimp only
    rw [if_neg (by simp)]
    have all : ∀ i, i < r -> kk rk p i = kk rk p (r - 1) := fun i hi => by
     have a := up 0 i (by lia) hi
     have b := up i (r - 1) (by lia) (by lia)
     lia
    have same : ∀ i, kk rk (kas_rev p 0 r) i = kk rk p i := fun i => by
     rw [Mp pn (by lia)]
     split
     ·rw [all _ (by lia), all i (by lia)]
     ·rfl
    refine OS (pn.rev _ _) (by lia) (Dn.step (fun i j ij hj => ?_) (by lia) ?_) k
    ·rw [same, same, all i (by lia), all j hj]
     exact Int.le_refl _
    ·rw [same, same]
     lia
  ·rw [if_neg h3]
   have : r = 1 := by lia
   subst this
   refine OS pn (by lia) (Dn.step (fun i j ij hj => ?_) (by lia) (by lia)) k
   have h1 : i = 0 := by lia
   have h2 : j = 0 := by lia
   rw [h1, h2]
   exact Int.le_refl _
theorem JB {p : Array Nat} {k : Nat} (pn : Cr n p) (hk : k < n) : ∀ {f l r : Nat} {s : Shared} {Q : Nat -> Shared -> Prop}, l <= r -> r <= k -> r <= l + f -> Up rk p k -> (∀ i, i < l -> kk rk p i <= kk rk p k) -> (∀ i, r <= i -> i < k -> kk rk p k <= kk rk p i) ->
  (∀ t, t <= k -> (∀ i, i < t -> kk rk p i <= kk rk p k) -> (∀ i, t <= i -> i < k -> kk rk p k <= kk rk p i) -> Q t s) -> (kas_place p k f l r).kasWp (rkC rk n) Q s
 | 0, l, r, s, Q, h1, h2, h3, up, a, b, c => by
  have : l = r := by lia
  subst this
  exact c l h2 a b
 | f + 1, l, r, s, Q, h1, h2, h3, up, a, b, c => by
  unfold kas_place
  by_cases e : l ≥ r
  ·rw [if_pos e]
   have : l = r := by lia
   subst this
   exact c l h2 a b
  ·rw [if_neg e]
   refine ⟨pn.lt hk, pn.lt (by lia), ?_⟩
   by_cases d : kk rk p k < kk rk p ((l + r) / 2)
   ·rw [decide_eq_true (show rk (p.getD k 0) < rk (p.getD ((l + r) / 2) 0) from d)]
    dsimp only
    rw [if_pos rfl]
    refine JB pn hk (by lia) (by lia) (by lia) up a (fun i hi hk' => ?_) c
    have := up ((l + r) / 2) i hi hk'
    lia
   ·rw [decide_eq_false (show ¬ rk (p.getD k 0) < rk (p.getD ((l + r) / 2) 0) from d)]
    dsimp only
    rw [if_neg (by simp)]
    refine JB pn hk (by lia) (by lia) (by lia) up (fun i hi => ?_) b c
    have := up i ((l + r) / 2) (by lia) (by lia)
    lia
theorem Si : ∀ {f k : Nat} {p : Array Nat} {s : Shared} {Q : Array Nat -> Shared -> Prop}, Cr n p -> k + f = n -> Up rk p k -> (∀ p', Cr n p' -> Up rk p' n -> Q p' s) -> (kas_bin f p k).kasWp (rkC rk n) Q s
 | 0, k, p, s, Q, pn, e, up, c => c p pn (by rw [<- e]; exact up)
 | f + 1, k, p, s, Q, pn, e, up, c => by
  unfold kas_bin
  rw [KasT.kasWp_bind]
  refine JB pn (by lia) (Nat.zero_le _) (Nat.le_refl _) (by lia) up (fun i hi => absurd hi (Nat.not_lt_zero _)) (fun i h1 h2 => absurd h2 (by lia)) fun t ht a b => ?_
  refine Si (pn.bub _ _) (by lia) (fun i j ij hj => ?_) c
  rw [RJ pn (by lia) (by lia), RJ pn (by lia) (by lia), show k - (k - t) = t by lia]
  by_cases i1 : i = t
  ·rw [if_pos i1]
   by_cases j1 : j = t
   ·rw [if_pos j1]
    exact Int.le_refl _
   ·rw [if_neg j1, if_pos ⟨by lia, by lia⟩]
    exact b _ (by lia) (by lia)
  ·rw [if_neg i1]
   by_cases i2 : t < i /\ i <= k
   ·rw [if_pos i2, if_neg (by lia), if_pos ⟨by lia, by lia⟩]
    exact up _ _ (by lia) (by lia)
   ·rw [if_neg i2]
    by_cases j1 : j = t
    ·rw [if_pos j1]
     exact a i (by lia)
    ·rw [if_neg j1]
     by_cases j2 : t < j /\ j <= k
     ·rw [if_pos j2]
      exact up _ _ (by lia) (by lia)
     ·rw [if_neg j2]
      exact up _ _ ij (by lia)
theorem sort_wp {s : Shared} {Q : Array Nat -> Shared -> Prop} (hn : 1 <= n) (c : ∀ p', Cr n p' -> Up rk p' n -> Q p' s) : (kas_sort n).kasWp (rkC rk n) Q s := by
 unfold kas_sort
 rw [KasT.kasWp_bind]
 refine Se ⟨by simp, Array.Perm.refl _⟩ hn fun r p' pn hr h1 up => ?_
 dsimp only
 split
 ·rw [show max r 1 = r by lia]
  exact Si pn (by lia) up c
 ·have : r = n := by lia
  subst this
  exact c p' pn up
theorem rk_wp {α : Type} {cmp : Nat -> Nat -> (Bool -> Shared -> Prop) -> Shared -> Prop} {s : Shared} (h : ∀ i j C, i < n -> j < n -> C (decide (rk i < rk j)) s -> cmp i j C s) : ∀ {t : KasT α} {Q : α -> Shared -> Prop}, t.kasWp (rkC rk n) Q s -> t.kasWp cmp Q s
 | .ret _, _, q => q
 | .ask _ _ _, _, ⟨h1, h2, h3⟩ => h _ _ _ h1 h2 (rk_wp h h3)
end
end L2
namespace L2
open PySem PySem.W PySem.Spec PyProof.Rows
def Eu : List Int -> List Int -> Bool
 | [], [] => false
 | [], _ :: _ => true
 | _ :: _, [] => false
 | a :: as, b :: bs => if a = b then Eu as bs else decide (a < b)
theorem JP : ∀ a, Eu a a = false
 | [] => rfl
 | a :: as => by unfold Eu; rw [if_pos rfl]; exact JP as
theorem Ig : ∀ {a b c : List Int}, Eu a c = true -> Eu a b = true \/ Eu b c = true
 | [], [], _, h => .inr h
 | [], _ :: _, _, _ => .inl rfl
 | _ :: _, _, [], h => by cases h
 | a :: as, [], c :: cs, _ => .inr rfl
 | a :: as, b :: bs, c :: cs, h => by
  unfold Eu at h ⊢
  by_cases ac : a = c
  ·subst ac
   rw [if_pos rfl] at h
   by_cases ab : a = b
   ·subst ab
    rw [if_pos rfl, if_pos rfl]
    exact Ig h
   ·rw [if_neg ab, if_neg (fun z => ab z.symm)]
    rcases Int.lt_or_gt_of_ne ab with z | z
    ·exact .inl (decide_eq_true z)
    ·exact .inr (decide_eq_true z)
  ·rw [if_neg ac] at h
   have h := of_decide_eq_true h
   by_cases ab : a = b
   ·subst ab
    rw [if_neg ac]
    exact .inr (decide_eq_true h)
   ·rw [if_neg ab]
    by_cases z : a < b
    ·exact .inl (decide_eq_true z)
    ·by_cases bc : b = c
     ·lia
     ·rw [if_neg bc]
      exact .inr (decide_eq_true (by lia))
theorem RF {a b : List Int} (h : Eu a b = true) : Eu b a = false := by
 cases e : Eu b a with
 | false => rfl
 | true =>
  rcases Ig (b := b) (show Eu a b = true from h) with z | z
  ·-- both ways: through a
   have : Eu a a = true \/ Eu a a = false := by cases Eu a a <;> simp
   exact absurd (lexI_two h e) (by simp)
  ·rw [JP] at z
   cases z
where lexI_two : ∀ {a b : List Int}, Eu a b = true -> Eu b a = true -> false = true
 | [], [], h, _ => h
 | [], _ :: _, _, h => h
 | _ :: _, [], h, _ => h
 | a :: as, b :: bs, h, h' => by
  unfold Eu at h h'
  by_cases ab : a = b
  ·subst ab
   rw [if_pos rfl] at h h'
   exact lexI_two h h'
  ·rw [if_neg ab] at h
   rw [if_neg (fun z => ab z.symm)] at h'
   have := of_decide_eq_true h
   have := of_decide_eq_true h'
   lia
def rkOf (rows : List (List Int)) (i : Nat) : Int := ((rows.countP fun r => Eu r (rows.getD i []) : Nat) : Int)
theorem LB {α : Type} {p q : α -> Bool} : ∀ {l : List α} {x : α}, x ∈ l -> (∀ y, p y = true -> q y = true) -> p x = false -> q x = true -> l.countP p < l.countP q
 | y :: l, x, hx, h, hp, hq => by
  rw [List.countP_cons, List.countP_cons]
  have le : l.countP p <= l.countP q := List.countP_mono_left fun z _ => h z
  rcases List.mem_cons.mp hx with rfl | hx
  ·rw [hp, hq]
   simp only [Bool.false_eq_true, if_false, if_true]
   lia
  ·have := LB hx h hp hq
   by_cases py : p y = true
   ·rw [py, h y py]
    lia
   ·rw [if_neg py]
    split <;> lia
theorem rk_iff {rows : List (List Int)} {i j : Nat} (hi : i < rows.length) : decide (rkOf rows i < rkOf rows j) = Eu (rows.getD i []) (rows.getD j []) := by
 have mi : rows.getD i [] ∈ rows := by
  rw [List.getD_eq_getElem?_getD, List.getElem?_eq_getElem hi]
  exact List.getElem_mem hi
 unfold rkOf
 generalize rows.getD i [] = a at *
 generalize rows.getD j [] = b
 cases h : Eu a b with
 | true =>
  refine decide_eq_true ?_
  have := LB (p := fun r => Eu r a) (q := fun r => Eu r b) mi (fun y hy => ?_) (JP a) h
  ·lia
  ·rcases Ig (b := b) hy with z | z
   ·exact z
   ·rw [RF h] at z
    cases z
 | false =>
  refine decide_eq_false ?_
  have := List.countP_mono_left (l := rows) (p := fun r => Eu r b) (q := fun r => Eu r a) fun y _ hy => ?_
  ·lia
  ·rcases Ig (b := a) hy with z | z
   ·exact z
   ·rw [h] at z
    cases z
section
variable {prog : Program} {w : World} {A : Around} {E : Value -> Shared -> Prop}
theorem OY {b : Bool} {Q : Bool -> Shared -> Prop} {s : Shared} : ∀ {xs ys : List Int} {us vs : List Value} {i : Nat}, Ba (xs.map V.int) us -> Ba (ys.map V.int) vs -> Q (Eu xs ys) s -> KatLex prog w A b (decide (xs.length < ys.length)) Q (us.zip vs) i s
 | [], [], _, _, i, .nil, .nil, q => q
 | [], y :: ys, _, _, i, .nil, .cons _ _, q => by
  show Q (decide (0 < ys.length + 1)) s
  rw [decide_eq_true (Nat.succ_pos _)]
  exact q
 | x :: xs, [], _, _, i, .cons _ _, .nil, q => by
  show Q (decide (xs.length + 1 < 0)) s
  rw [decide_eq_false (Nat.not_lt_zero _)]
  exact q
 | x :: xs, y :: ys, u :: us, v :: vs, i, .cons r1 t1, .cons r2 t2, q => by
  obtain ⟨t, rfl⟩ := (show ∃ t, u = .int x t from r1)
  obtain ⟨t', rfl⟩ := (show ∃ t, v = .int y t from r2)
  refine wpAny_eqBool_int ?_
  unfold Eu at q
  by_cases e : x = y
  ·subst e
   rw [if_pos rfl] at q
   simp only [beq_self_eq_true, if_true]
   have h := OY (b := b) (i := i + 1) t1 t2 q
   rw [show decide ((x :: xs).length < (x :: ys).length) = decide (xs.length < ys.length) by simp]
   exact h
  ·rw [if_neg e] at q
   have e' : (x == y) = false := by simpa using e
   simp only [e', Bool.false_eq_true, if_false]
   cases b && i == 0 with
   | true => exact oneLt_int q
   | false =>
    exact kat_one _ _ (wpAny_lt_int q)
end
section
variable {X : Cx}
theorem OG {H : Hp} {h : Heap} (ok : HOk X.prog X.w H h) {items : List (Addr × List Int)} (hq : ∀ q ∈ items, H q.1 = some (.tup (q.2.map V.int)) /\ q.2 ≠ []) {i : Nat} (hi : i < items.length) :
  ∃ (b : Addr) (o : Obj) (us : List Value) (m : Nat), (items.map fun q => Value.ref q.1).getD i Value.none = .ref b /\ h.get? b = some o /\ o.cls = .type "tuple" /\ o.data = .seq us.toArray m /\ Ba (((items.map (·.2)).getD i []).map V.int) us := by
 have hm := List.getElem_mem hi
 obtain ⟨h1, h2⟩ := hq _ hm
 obtain ⟨_, its, r, o, e, c, n, d⟩ := (show Bm X.prog X.w H h _ (.tup _) from ok _ _ h1)
 refine ⟨_, o, its, n, ?_, e, c, d, ?_⟩
 ·rw [List.getD_eq_getElem?_getD, List.getElem?_map, List.getElem?_eq_getElem hi]
  rfl
 ·rw [List.getD_eq_getElem?_getD, List.getElem?_map, List.getElem?_eq_getElem hi]
  exact r
theorem Ly {H : Hp} {h : Heap} (ok : HOk X.prog X.w H h) : ∀ {items : List (Addr × List Int)}, (∀ q ∈ items, H q.1 = some (.tup (q.2.map V.int)) /\ q.2 ≠ []) -> ∃ fs : List Value, KatTups h (items.map fun q => Value.ref q.1) fs /\ fs.length = items.length /\ ∀ v ∈ fs, ∃ x t, v = .int x t
 | [], _ => ⟨[], .nil, rfl, fun v hv => nomatch hv⟩
 | q :: items, hq => by
  obtain ⟨fs, h1, h2, h3⟩ := Ly ok fun q' hq' => hq q' (List.mem_cons_of_mem _ hq')
  obtain ⟨e, ne⟩ := hq q (List.mem_cons_self ..)
  obtain ⟨_, its, r, o, e1, c, n, d⟩ := (show Bm X.prog X.w H h _ (.tup _) from ok _ _ e)
  match hx : q.2, ne with
  | x :: xs, _ =>
   rw [hx] at r
   cases r with
   | @cons _ u _ us r1 r2 =>
    obtain ⟨t, rfl⟩ := (show ∃ t, u = .int x t from r1)
    refine ⟨.int x t :: fs, .cons e1 c d (by simp) h1, by rw [List.length_cons, List.length_cons, h2], fun v hv => ?_⟩
    rcases List.mem_cons.mp hv with rfl | hv
    ·exact ⟨x, t, rfl⟩
    ·exact h3 v hv
end
end L2
namespace L2
open PySem PySem.Spec PyProof.Rows
section
variable {X : Cx}
end
theorem blk_dT {a : Addr} {ob : Obj} {kvs : List (List Key × V)} {k : Nat} {cs : List Nat} {g : TG} {tc : TT} {te : TE} {σ : St} {H : Hp} {fin : List V -> Hp -> Prop} (Pv : Nat -> List V -> Hp -> Prop) (h0 : Pv 0 [] H) (hl : ∀ i acc H, i <= kvs.length -> Pv i acc H -> H a = some (.frz ob (.dT kvs)))
  (hs : ∀ i b kk v acc H, kvs[i]? = some (kk, v) -> H b = some (.tup (kk.map kV)) -> Pv i acc H -> Bt k cs g tc te σ (.ref b) acc H (Pv (i + 1))) (hd : ∀ acc H, Pv kvs.length acc H -> fin acc H) : FK k cs g tc te (Itd a ob kvs) σ H fin := by
 refine ⟨fun i m acc H => m = kvs.length - i /\ i <= kvs.length /\ Pv i acc H, ⟨kvs.length, by simp, Nat.zero_le _, h0⟩, ?_⟩
 rintro i m acc H ⟨rfl, hi, p⟩
 have q := hl i acc H hi p
 by_cases hlt : i < kvs.length
 ·refine .inr ⟨⟨q, hlt⟩, Pv (i + 1), fun acc' H' p' => ⟨kvs.length - (i + 1), by lia, rfl, hlt, p'⟩, fun x H' y => ?_⟩
  obtain ⟨rfl, b, kk, v, rfl, e1, e2⟩ := y
  exact hs i b kk v acc _ e1 e2 p
 ·have e : i = kvs.length := by lia
  subst e
  exact .inl ⟨⟨q, Nat.le_refl _⟩, hd acc H p⟩
end L2
namespace L2
open PySem PySem.Spec PyProof.Rows
abbrev NE := Sum Int (List Int)
abbrev NK := List NE
def isR : NE -> Bool
 | .inl _ => false
 | .inr _ => true
section
variable (P : Program) (w : World)
inductive Cv (h : Heap) : NK -> List Value -> Prop
 | nil : Cv h [] []
 | int {i : Int} {v : Value} {ks : NK} {vs : List Value} (e : (intKind P w).is i v = true) (r : Cv h ks vs) : Cv h (.inl i :: ks) (v :: vs)
 | tup {ps : List Int} {b : Addr} {ks : NK} {vs : List Value} (e : IsTupleKey (intKind P w) h ps b) (r : Cv h ks vs) : Cv h (.inr ps :: ks) (.ref b :: vs)
structure Fq (sh : List Bool) (h : Heap) (k : NK) (a : Addr) : Prop where
 shape : k.map isR = sh
 ex : ∃ o its n, h.get? a = some o /\ o.cls = .type "tuple" /\ o.data = .seq its n /\ Cv P w h k its.toList
def IK : NE -> Int
 | .inl i => (intKind P w).hash i
 | .inr ps => tupleKeyHash (intKind P w) ps
def IL : NE -> Nat
 | .inl _ => 1
 | .inr ps => ps.length + 1
def Rx (k : NK) : Int := reduceHash (Builtin.Tuple.tupleHashOf (k.map (IK P w)))
def Ry (k : NK) : Nat := (k.map IL).sum + 1
end
section
variable {P : Program} {w : World} {sh : List Bool} {h h' : Heap}
theorem Cv.inj {x y : NK} {vs : List Value} (hx : Cv P w h x vs) : Cv P w h y vs -> x.map isR = y.map isR -> x = y := by
 induction hx generalizing y with
 | nil => intro hy _; cases hy; rfl
 | int e r ih =>
  intro hy hs
  cases hy with
  | int e' r' =>
   rw [List.map_cons, List.map_cons] at hs
   rw [(intKind P w).inj _ _ _ e e', ih r' (List.cons.inj hs).2]
  | tup e' r' => cases hs
 | tup e r ih =>
  intro hy hs
  cases hy with
  | int e' r' => cases hs
  | tup e' r' =>
   rw [List.map_cons, List.map_cons] at hs
   rw [e.inj e', ih r' (List.cons.inj hs).2]
theorem Cv.keep {x : NK} {vs : List Value} (hx : Cv P w h x vs) (k : ∀ ps b, IsTupleKey (intKind P w) h ps b -> IsTupleKey (intKind P w) h' ps b) : Cv P w h' x vs := by
 induction hx with
 | nil => exact .nil
 | int e r ih => exact .int e ih
 | tup e r ih => exact .tup (k _ _ e) ih
theorem Fq.ty {s : Shared} {k : NK} {a : Addr} (x : Fq P w sh s.heap k a) : s.TypeIs (.ref a) "tuple" := by
 obtain ⟨o, _, _, ho, hc, _⟩ := x.ex
 exact ⟨o, ho, hc⟩
variable {A : Around} {E : Value -> Shared -> Prop} {s : Shared}
theorem PR {k : NK} {a : Addr} {Q : Int -> Shared -> Prop} (hu : A.units + 1 < cLine) (hk : Fq P w sh s.heap k a) (q : Q (Rx P w k) { s with toks := s.toks + Ry k }) : wpAny (model P w) A (pyHash (.ref a)) Q E s := by
 have ty := hk.ty
 obtain ⟨_, o, its, n, ho, _, hd, hi⟩ := hk
 unfold pyHash
 first | unfold pyHashByItsType | skip
 first | refine wpAny_bind (wpAny_cRoomFor_or (.inr (by lia)) ?_) | skip
 refine wpAny_bind (wpAny_specialOf ty PySem.F.slot_tuple_hash.lookup ?_)
 show wpAny _ _ (if (some (Value.builtin "tuple.__hash__") == some Value.none) = true then _ else _) Q E s
 rw [if_neg (by rw [beq_builtin_none]; exact Bool.false_ne_true)]
 refine wpAny_bind (wpAny_specialOf ty PySem.F.slot_tuple_hash.lookup ?_)
 show wpAny _ _ (callSpecialIfBoundUnlessNone? (.ref a) "__hash__" _ >>= _) Q E s
 refine wpAny_bind (wpAny_callSpecialIfBoundUnlessNone?_slot ty PySem.F.slot_tuple_hash (wpAny_call_entry PySem.F.slot_tuple_hash ty PySem.F.entry_tuple_hash ?_ (PySem.F.args_tuple_hash_1 _)))
 show wpAny _ _ (Builtin.Tuple.tupleItemsOf (.ref a) >>= _) _ _ s
 refine wpAny_bind (wpAny_tupleItemsOf ho hd (wpAny_bind ?_))
 rw [<- Array.forIn_toList]
 refine wpAny_forIn_list _ (fun rest (b : Array Int) s' => ∃ dn lf, k = dn ++ lf /\ Cv P w s.heap lf rest /\ b.toList = dn.map (IK P w) /\ s' = { s with toks := s.toks + (dn.map IL).sum }) _ ?_ ?_ _ _ ⟨[], k, rfl, hi, rfl, rfl⟩
 ·rintro x rest b s' ⟨dn, lf, rfl, hl, hb, rfl⟩
  cases hl with
  | @int i v ks vs e r =>
   refine wpAny_bind ((intKind P w).pyHash e ?_)
   have fin : ∃ d l, dn ++ Sum.inl i :: ks = d ++ l /\ Cv P w s.heap l rest /\ (b.push ((intKind P w).hash i)).toList = d.map (IK P w) /\ ({ s with toks := s.toks + (dn.map IL).sum + 1 } : Shared) = { s with toks := s.toks + (d.map IL).sum } := ⟨dn ++ [.inl i], ks, by simp, r, by simp [hb, IK], by simp [IL, Nat.add_assoc]⟩
   first | exact wpAny_pure fin | exact wpAny_bind (wpAny_pure (wpAny_pure fin))
  | @tup ps c ks vs e r =>
   refine wpAny_bind (wpAny_pyHash_tuple (by show A.units + 1 < cLine; exact hu) e ?_)
   have fin : ∃ d l, dn ++ Sum.inr ps :: ks = d ++ l /\ Cv P w s.heap l rest /\ (b.push (tupleKeyHash (intKind P w) ps)).toList = d.map (IK P w) /\ ({ s with toks := s.toks + (dn.map IL).sum + (ps.length + 1) } : Shared) = { s with toks := s.toks + (d.map IL).sum } := ⟨dn ++ [.inr ps], ks, by simp, r, by simp [hb, IK], by simp [IL, Nat.add_assoc]⟩
   first | exact wpAny_pure fin | exact wpAny_bind (wpAny_pure (wpAny_pure fin))
 ·rintro b s' ⟨dn, lf, rfl, hl, hb, rfl⟩
  cases hl
  rw [List.append_nil] at q
  show wpAny _ _ (retInt (Builtin.Tuple.tupleHashOf b.toList)) _ _ _
  rw [hb]
  refine wpAny_ret_mkInt ?_
  unfold Rx Ry reduceHash at q
  show wpAny _ _ (if (decide (-(2 : Int) ^ 63 <= Builtin.Tuple.tupleHashOf (dn.map (IK P w))) && decide (Builtin.Tuple.tupleHashOf (dn.map (IK P w)) < 2 ^ 63)) = true then _ else _) Q E _
  split at q
  ·rename_i z
   rw [if_pos z]
   exact wpAny_pure (by simpa [Nat.add_assoc] using q)
  ·rename_i z
   rw [if_neg z]
   exact wpAny_bind (wpAny_rule (wpAny_pure (by simpa [Nat.add_assoc] using q)))
theorem Ma {x y : NK} {a b : Addr} {R : Fin -> Shared -> Prop} (hu : A.units < cLine) (hx : Fq P w sh s.heap x a) (hy : Fq P w sh s.heap y b) (q : R (.done (.ret (.bool (decide (x = y))))) s) : wpAny (model P w) A (Builtin.«tuple.__eq__» ⟨[.ref a, .ref b], []⟩) R E s := by
 have tb := hy.ty
 obtain ⟨sx, oa, xs, na, hoa, _, hda, hia⟩ := hx
 obtain ⟨sy, ob, ys, nb, hob, _, hdb, hib⟩ := hy
 show wpAny _ _ (isInstance (.ref b) (.type "tuple") >>= _) _ _ s
 refine wpAny_bind (wpAny_isInstance tb isSubtype_tuple_tuple ?_)
 simp only [Bool.not_true, Bool.false_eq_true, if_false]
 refine wpAny_bind (wpAny_tupleItemsOf hoa hda (wpAny_bind (wpAny_tupleItemsOf hob hdb (wpAny_bind ?_))))
 refine wpAny_forIn_list _ (fun rest r s' => r.1 = none /\ s' = s /\ ∃ x' y' us vs, rest = List.zip us vs /\ Cv P w s.heap x' us /\ Cv P w s.heap y' vs /\ x'.map isR = y'.map isR /\ decide (x' = y') = decide (x = y) /\ (us.length == vs.length) = (xs.size == ys.size)) _ ?_ ?_ _ _ ⟨rfl, rfl, x, y, xs.toList, ys.toList, rfl, hia, hib, sx.trans sy.symm, rfl, by simp⟩
 ·rintro ⟨u, v⟩ rest r s' ⟨hr, rfl, x', y', us, vs, hz, hx', hy', hsh, hdec, hlen⟩
  cases hx' with
  | nil => simp at hz
  | @int i1 u' ks us' e1 r1 =>
   cases hy' with
   | nil => simp at hz
   | @int i2 v' ks' vs' e2 r2 =>
    simp only [List.zip_cons_cons, List.cons.injEq, Prod.mk.injEq] at hz
    obtain ⟨⟨rfl, rfl⟩, rfl⟩ := hz
    rw [List.map_cons, List.map_cons] at hsh
    refine wpAny_bind ((intKind P w).eqBool e1 e2 ?_)
    by_cases hk : i1 = i2
    ·subst hk
     rw [decide_eq_true rfl]
     simp only [Bool.not_true, Bool.false_eq_true, if_false]
     refine wpAny_pure ⟨rfl, rfl, ks, ks', us', vs', rfl, r1, r2, (List.cons.inj hsh).2, ?_, by simpa using hlen⟩
     rw [<- hdec]
     exact decide_eq_decide.mpr ⟨fun z => by rw [z], fun z => (List.cons.inj z).2⟩
    ·rw [decide_eq_false hk]
     simp only [Bool.not_false, if_true]
     have hf : decide (x = y) = false := by rw [<- hdec]; exact decide_eq_false fun z => hk (Sum.inl.inj (List.cons.inj z).1)
     rw [hf] at q
     exact wpAny_bind (wpAny_pure (wpAny_pure (wpAny_pure q)))
   | tup e2 r2 => cases hsh
  | @tup ps1 c1 ks us' e1 r1 =>
   cases hy' with
   | nil => simp at hz
   | int e2 r2 => cases hsh
   | @tup ps2 c2 ks' vs' e2 r2 =>
    simp only [List.zip_cons_cons, List.cons.injEq, Prod.mk.injEq] at hz
    obtain ⟨⟨rfl, rfl⟩, rfl⟩ := hz
    rw [List.map_cons, List.map_cons] at hsh
    refine wpAny_bind (wpAny_eqBool_tuple hu e1 e2 ?_)
    by_cases hk : ps1 = ps2
    ·subst hk
     rw [decide_eq_true rfl]
     simp only [Bool.not_true, Bool.false_eq_true, if_false]
     refine wpAny_pure ⟨rfl, rfl, ks, ks', us', vs', rfl, r1, r2, (List.cons.inj hsh).2, ?_, by simpa using hlen⟩
     rw [<- hdec]
     exact decide_eq_decide.mpr ⟨fun z => by rw [z], fun z => (List.cons.inj z).2⟩
    ·rw [decide_eq_false hk]
     simp only [Bool.not_false, if_true]
     have hf : decide (x = y) = false := by rw [<- hdec]; exact decide_eq_false fun z => hk (Sum.inr.inj (List.cons.inj z).1)
     rw [hf] at q
     exact wpAny_bind (wpAny_pure (wpAny_pure (wpAny_pure q)))
 ·rintro ⟨r1, r2⟩ s' ⟨hr, rfl, x', y', us, vs, hz, hx', hy', hsh, hdec, hlen⟩
  simp only at hr
  subst hr
  refine wpAny_pure ?_
  have hfin : (xs.size == ys.size) = decide (x = y) := by
   rw [<- hdec, <- hlen]
   cases hx' with
   | nil =>
    cases hy' with
    | nil => simp
    | int _ _ => cases hsh
    | tup _ _ => cases hsh
   | int _ _ =>
    cases hy' with
    | nil => cases hsh
    | int _ _ => simp at hz
    | tup _ _ => cases hsh
   | tup _ _ =>
    cases hy' with
    | nil => cases hsh
    | int _ _ => cases hsh
    | tup _ _ => simp at hz
  show R (.done (.ret (.bool (xs.size == ys.size)))) s'
  rw [hfin]
  exact q
theorem nest_eq {x y : NK} {a b : Addr} {Q : Bool -> Shared -> Prop} (hu : A.units + 1 < cLine) (hx : Fq P w sh s.heap x a) (hy : Fq P w sh s.heap y b) (q : Q (decide (x = y)) s) : wpAny (model P w) A (eqBool (.ref a) (.ref b)) Q E s := by
 unfold eqBool
 try with_reducible refine wpAny_holding ?_
 show wpAny _ _ (if (Value.ref a == Value.ref b) = true then _ else _) Q E s
 by_cases hab : (Value.ref a == Value.ref b) = true
 ·rw [if_pos hab]
  have e : a = b := by have := eq_of_beq hab; injection this
  subst e
  have : x = y := by
   obtain ⟨s1, o, its, n, ho, _, hd, hi⟩ := hx
   obtain ⟨s2, o', its', n', ho', _, hd', hi'⟩ := hy
   obtain rfl : o = o' := Option.some.inj (ho.symm.trans ho')
   rw [hd] at hd'
   injection hd' with h1 _
   subst h1
   exact hi.inj hi' (s1.trans s2.symm)
  subst this
  exact wpAny_bind (wpAny_rule (wpAny_pure (by simpa using q)))
 ·rw [if_neg hab]
  exact wpAny_bind (wpAny_richCompare_same_room (op := .Eq) hx.ty hy.ty PySem.F.slot_tuple_eq (wpAny_call_entry PySem.F.slot_tuple_eq hx.ty PySem.F.entry_tuple_eq (Ma (by show A.units + 1 < cLine; exact hu) hx hy ⟨_, rfl, (fun e => nomatch e), wpAny_truthy_bool q⟩) (PySem.F.args_tuple_eq_2 _ _)) (by lia))
theorem PN {n : Nat} {ps : List Int} {a : Addr} {Q : Bool -> Shared -> Prop} (hk : IsTupleKey (intKind P w) s.heap ps a) (q : Q true s) : wpAny (model P w) A (eqIsQuiet (n + 1) (.ref a)) Q E s := by
 have ty := hk.typeIs
 obtain ⟨o, its, m, ho, _, hd, hi⟩ := hk
 unfold eqIsQuiet
 refine wpAny_bind (wpAny_specialOf ty PySem.F.slot_tuple_eq.lookup ?_)
 show wpAny _ _ (isInstance (.ref a) (.type "tuple") >>= _) _ _ s
 refine wpAny_bind (wpAny_isInstance ty isSubtype_tuple_tuple ?_)
 simp only [Bool.not_true, Bool.false_eq_true, if_false]
 refine wpAny_bind (wpAny_seqItems ho hd (wpAny_bind ?_))
 show wpAny _ _ (forIn its _ _) _ _ s
 rw [<- Array.forIn_toList]
 refine wpAny_forIn_list _ (fun rest r s' => r.1 = none /\ s' = s /\ ∀ v ∈ rest, carriedByValue v = true) _ ?_ ?_ _ _ ⟨rfl, rfl, hi.byValue⟩
 ·rintro v rest r s' ⟨hr, rfl, hall⟩
  rw [eqIsQuiet_byValue _ (hall v List.mem_cons_self)]
  refine wpAny_bind (wpAny_pure ?_)
  simp only [Bool.not_true, Bool.false_eq_true, if_false]
  exact wpAny_pure ⟨rfl, rfl, fun u hv => hall u (List.mem_cons_of_mem _ hv)⟩
 ·rintro ⟨r1, r2⟩ s' ⟨hr, rfl, _⟩
  simp only at hr
  subst hr
  exact wpAny_pure q
theorem Ob {x : NK} {a : Addr} {Q : Bool -> Shared -> Prop} (hk : Fq P w sh s.heap x a) (q : Q true s) : wpAny (model P w) A (eqIsQuiet 8 (.ref a)) Q E s := by
 have ty := hk.ty
 obtain ⟨_, o, its, m, ho, _, hd, hi⟩ := hk
 unfold eqIsQuiet
 refine wpAny_bind (wpAny_specialOf ty PySem.F.slot_tuple_eq.lookup ?_)
 show wpAny _ _ (isInstance (.ref a) (.type "tuple") >>= _) _ _ s
 refine wpAny_bind (wpAny_isInstance ty isSubtype_tuple_tuple ?_)
 simp only [Bool.not_true, Bool.false_eq_true, if_false]
 refine wpAny_bind (wpAny_seqItems ho hd (wpAny_bind ?_))
 show wpAny _ _ (forIn its _ _) _ _ s
 rw [<- Array.forIn_toList]
 refine wpAny_forIn_list _ (fun rest r s' => r.1 = none /\ s' = s /\ ∃ x', Cv P w s.heap x' rest) _ ?_ ?_ _ _ ⟨rfl, rfl, x, hi⟩
 ·rintro v rest r s' ⟨hr, rfl, x', hx'⟩
  cases hx' with
  | int e r1 =>
   rw [eqIsQuiet_byValue _ ((intKind P w).byValue _ _ e)]
   refine wpAny_bind (wpAny_pure ?_)
   simp only [Bool.not_true, Bool.false_eq_true, if_false]
   exact wpAny_pure ⟨rfl, rfl, _, r1⟩
  | tup e r1 =>
   refine wpAny_bind (PN (n := 6) e ?_)
   simp only [Bool.not_true, Bool.false_eq_true, if_false]
   exact wpAny_pure ⟨rfl, rfl, _, r1⟩
 ·rintro ⟨r1, r2⟩ s' ⟨hr, rfl, _⟩
  simp only at hr
  subst hr
  exact wpAny_pure q
end
def Ie (P : Program) (w : World) (sh : List Bool) : HeapKind P w NK where
 is := Fq P w sh
 hash := Rx P w
 draws := Ry
 room := fun A => A.units + 1 < cLine
 inj := fun hx hy => by
  obtain ⟨s1, o, its, n, ho, _, hd, hi⟩ := hx
  obtain ⟨s2, o', its', n', ho', _, hd', hi'⟩ := hy
  obtain rfl : o = o' := Option.some.inj (ho.symm.trans ho')
  rw [hd] at hd'
  injection hd' with h1 _
  subst h1
  exact hi.inj hi' (s1.trans s2.symm)
 keeps := fun {h h' k a d o es ep} hx ho hd hs => by
  obtain ⟨s1, o', its, n, ho', hc, hd', hi⟩ := hx
  have ne : a ≠ d := by
   rintro rfl
   obtain rfl : o' = o := Option.some.inj (ho'.symm.trans ho)
   rw [hd] at hd'
   exact nomatch hd'
  exact ⟨s1, o', its, n, (hs.2 a ne).trans ho', hc, hd', hi.keep fun ps b e => e.keeps ho hd hs⟩
 pyHash := fun hu hk q => PR hu hk q
 eqBool := fun hu hx hy q => nest_eq hu hx hy q
 quiet := fun hk q => Ob hk q
def NEl (H : Hp) : NE -> V -> Prop
 | .inl i, v => v = .int i
 | .inr ps, v => ∃ t, v = .ref t /\ H t = some (.tup (ps.map V.int))
def Fn (H : Hp) (b : Addr) (k : NK) : Prop := ∃ vs, H b = some (.tup vs) /\ Paired (NEl H) k vs
abbrev KN (H : Hp) : List (NK × V) -> List (NK × Addr × Value) -> Prop := Paired fun p q => p.1 = q.1 /\ Fn H q.2.1 p.1 /\ Bb p.2 q.2.2
def PM (P : Program) (w : World) (sh : List Bool) (a : Addr) (xs : List (NK × Addr × Value)) : Heap -> Prop := fun h => ∃ o es ep, h.get? a = some o /\ o.ExactDict /\ o.data = .dict es ep /\ es.toList = xs.map (entryOfKey (Ie P w sh))
structure Bu (P : Program) (w : World) (sh : List Bool) (H : Hp) (a : Addr) (kvs : List (NK × V)) : Prop where
 ex : ∃ xs, H a = some (.ext (PM P w sh a xs)) /\ KN H kvs xs /\ (xs.map (·.1)).Nodup /\ (∀ x ∈ xs, x.1.map isR = sh) /\ kvs.length <= sizeLine /\ (a == sysModules) = false
section
variable {P : Program} {w : World} {sh : List Bool} {H H' : Hp} {h h' : Heap} {a b : Addr} {k : NK} {kvs : List (NK × V)}
theorem Fn.keep (ht : ∀ b ys, H b = some (.tup ys) -> H' b = some (.tup ys)) (e : Fn H b k) : Fn H' b k := by
 obtain ⟨vs, e, r⟩ := e
 refine ⟨vs, ht _ _ e, Paired.imp' (fun x v z => ?_) r⟩
 cases x with
 | inl i => exact z
 | inr ps =>
  obtain ⟨t, z1, z2⟩ := z
  exact ⟨t, z1, ht _ _ z2⟩
theorem KN.keep {xs : List (NK × Addr × Value)} (ht : ∀ b ys, H b = some (.tup ys) -> H' b = some (.tup ys)) (r : KN H kvs xs) : KN H' kvs xs := Paired.imp' (fun p q z => ⟨z.1, z.2.1.keep ht, z.2.2⟩) r
theorem Bu.keep (n : Bu P w sh H a kvs) (ht : ∀ b ys, H b = some (.tup ys) -> H' b = some (.tup ys)) (ha : ∀ o, H a = some o -> H' a = some o) : Bu P w sh H' a kvs := by
 obtain ⟨xs, e, r, z⟩ := n.ex
 exact ⟨xs, ha _ e, KN.keep ht r, z⟩
theorem Qj {ps : List Int} {us : List Value} (r : Ba (ps.map V.int) us) : ItemsAre (intKind P w) ps us := by
 induction ps generalizing us with
 | nil => cases r; exact .nil
 | cons i ps ih =>
  cases r with
  | cons r1 r2 =>
   obtain ⟨t, rfl⟩ := (show ∃ t, _ = Value.int i t from r1)
   exact .cons (by show Value.isInt i (.int i t) = true; simp [Value.isInt]) (ih r2)
theorem int_key (ok : HOk P w H h) {ps : List Int} (e : H a = some (.tup (ps.map V.int))) : IsTupleKey (intKind P w) h ps a := by
 obtain ⟨_, its, r, o, h1, h2, n, h3⟩ := (show Bm P w H h a (.tup (ps.map V.int)) from ok a _ e)
 exact ⟨o, its.toArray, n, h1, h2, h3, by simpa using Qj r⟩
theorem LY (ok : HOk P w H h) (e : Fn H b k) (hs : k.map isR = sh) : Fq P w sh h k b := by
 obtain ⟨vs, e, r⟩ := e
 obtain ⟨_, its, rv, o, h1, h2, n, h3⟩ := (show Bm P w H h b (.tup vs) from ok b _ e)
 refine ⟨hs, o, its.toArray, n, h1, h2, h3, ?_⟩
 have go : ∀ {k : NK} {vs : List V} {us : List Value}, Paired (NEl H) k vs -> Ba vs us -> Cv P w h k us := by
  intro k vs us r
  induction r generalizing us with
  | nil => intro rv; cases rv; exact .nil
  | @cons x v ks vs hx t ih =>
   intro rv
   cases rv with
   | cons r1 r2 =>
    cases x with
    | inl i =>
     have hx : v = .int i := hx
     subst hx
     obtain ⟨tk, rfl⟩ := (show ∃ t, _ = Value.int i t from r1)
     exact .int (by show Value.isInt i (.int i tk) = true; simp [Value.isInt]) (ih r2)
    | inr ps =>
     obtain ⟨tt, rfl, h4⟩ := hx
     cases (show _ = Value.ref tt from r1)
     exact .tup (int_key ok h4) (ih r2)
 simpa using go r rv
theorem LZ (ok : HOk P w H h) (n : Bu P w sh H a kvs) : ∃ xs, H a = some (.ext (PM P w sh a xs)) /\ KN H kvs xs /\ h.DictOfH (Ie P w sh) a xs /\ (∀ x ∈ xs, x.1.map isR = sh) /\ kvs.length <= sizeLine /\ (a == sysModules) = false := by
 obtain ⟨xs, e, r, nd, hs, z, y⟩ := n.ex
 obtain ⟨⟨o, es, ep, h1, h2, h3, h4⟩, _⟩ := (show Bm P w H h a (.ext _) from ok a _ e)
 refine ⟨xs, e, r, ⟨o, es, ep, h1, h2, h3, h4, fun x hx => ?_, nd⟩, hs, z, y⟩
 have all : ∀ {l : List (NK × V)} {m : List (NK × Addr × Value)}, KN H l m -> ∀ x ∈ m, Fn H x.2.1 x.1 := by
  intro l m q
  induction q with
  | nil => intro x hx; exact nomatch hx
  | @cons p q ps qs hq t ih =>
   intro x hx
   rcases List.mem_cons.mp hx with e | hx
   ·subst e
    rw [<- hq.1]
    exact hq.2.1
   ·exact ih x hx
 exact LY ok (all r x hx) (hs x hx)
theorem KN.val {xs : List (NK × Addr × Value)} (r : KN H kvs xs) (k : NK) : FT (Bv kvs k) ((atKey xs k).map (·.2)) := by
 induction r with
 | nil => exact True.intro
 | @cons p q ps qs h t ih =>
  obtain ⟨h1, _, h2⟩ := h
  by_cases e : p.1 = k
  ·rw [Bz e, show atKey (q :: qs) k = some q.2 by simp [atKey, List.find?_cons, h1.symm.trans e]]
   exact h2
  ·have e' : ¬ q.1 = k := fun z => e (h1.trans z)
   rw [Bc e, show atKey (q :: qs) k = atKey qs k by simp [atKey, List.find?_cons, e']]
   exact ih
theorem KN.put {xs : List (NK × Addr × Value)} (r : KN H kvs xs) (k : NK) {y : V} {u : Value} (hb : Fn H b k) (ry : Bb y u) : KN H (Di kvs k y) (storedH xs k b u) := by
 have e : (kvs.any fun kv => decide (kv.1 = k)) = (atKey xs k).isSome := by rw [ER, (r.val k).isSome_eq, Option.isSome_map]
 unfold Di storedH
 rw [e]
 by_cases q : (atKey xs k).isSome = true
 ·rw [if_pos q, if_pos q]
  clear e q
  induction r with
  | nil => exact .nil
  | @cons p q ps qs h t ih =>
   refine .cons ?_ ih
   obtain ⟨h1, h2, h3⟩ := h
   unfold putAt
   dsimp only
   by_cases z : p.1 = k
   ·rw [if_pos z, if_pos (h1.symm.trans z)]
    exact ⟨h1, h2, ry⟩
   ·rw [if_neg z, if_neg fun q => z (h1.trans q)]
    exact ⟨h1, h2, h3⟩
 ·rw [if_neg q, if_neg q]
  exact Paired.snoc r ⟨rfl, hb, ry⟩
end
def tDNewN (P : Program) (w : World) (sh : List Bool) : TE := fun _ H Q => ∀ p H', H p = none -> AB H H' -> Bu P w sh H' p [] -> Q (.ref p) H'
def tDGetN (P : Program) (w : World) (sh : List Bool) (td ty : TE) : TE := fun σ H Q => td σ H fun x H1 => ∃ a, x = .ref a /\ (∃ kvs, Bu P w sh H1 a kvs) /\ ty σ H1 fun y H2 => ∃ b k kvs, y = .ref b /\ Bu P w sh H2 a kvs /\ Fn H2 b k /\ k.map isR = sh /\ Q ((Bv kvs k).getD .non) H2
def sDPutN (P : Program) (w : World) (sh : List Bool) (td ty tv : TE) : TS := fun D σ H => tv σ H fun v H1 => td σ H1 fun x H2 => ty σ H2 fun y H3 => ∃ a b k kvs, x = .ref a /\ y = .ref b /\ Bu P w sh H3 a kvs /\ Fn H3 b k /\ k.map isR = sh /\ kvs.length < sizeLine /\ ∀ H4, (∀ c o, H3 c = some o -> c ≠ a -> H4 c = some o) -> Bu P w sh H4 a (Di kvs k v) -> D.nx σ H4
section
variable {X : Cx} {sh : List Bool}
theorem Nk {xs : List (NK × Addr × Value)} {H : Hp} {h : Heap} {a : Addr} (r : PM X.prog X.w sh a xs h) : Bm X.prog X.w H h a (.ext (PM X.prog X.w sh a xs)) := by
 obtain ⟨o, es, ep, h1, h2, h3, h4⟩ := id r
 refine ⟨r, ⟨o, h1⟩, fun g1 g2 hp hk => ?_⟩
 obtain ⟨o', es', ep', i1, i2, i3, i4⟩ := hp
 exact ⟨o', es', ep', hk o' i1, i2, i3, i4⟩
theorem Rb {pos : Pos} : PE X (.Dict [] [] pos) (tDNewN X.prog X.w sh) := fun pins s σ H Q I h => by
 have fr := I.hok.fresh (Nat.le_refl s.heap.objs.size)
 have lo : (s.heap.objs.size == sysModules) = false := beq_eq_false_iff_ne.mpr (Ne.symm (Nat.ne_of_lt I.big))
 refine wpAny_Dict_empty ⟨.ref s.heap.objs.size, upd H s.heap.objs.size (.ext (PM X.prog X.w sh s.heap.objs.size [])), I.laid (a := s.heap.objs.size) (t' := s.toks) (fun _ _ q => Heap.get?_push_of_some _ q) (Nat.le_refl _) (Nk ⟨_, #[], 0, Heap.get?_push_size _ rfl, ⟨rfl, rfl, rfl⟩, rfl, rfl⟩), rfl, h _ _ fr (fun b o e => by rw [Av (At e fr)]; exact e) ⟨[], Ai, .nil, List.nodup_nil, (fun x hx => by simp at hx), Nat.zero_le _, lo⟩⟩
variable {o e : Expr} {apos cpos : Pos} {td ty : TE}
theorem Rc (hu : X.A.units + 64 < cLine) (ho : PE X o td) (he : PE X e ty) (m : M1 X o "get" apos e cpos) : PE X (.Call (.Attribute o "get" apos) [e] [] cpos) (tDGetN X.prog X.w sh td ty) := by
 intro pins s σ H Q I h
 refine wpAny_Call_method m.base m.few m.line PySem.F.plainAttrs_dict PySem.F.slot_dict_get PySem.F.type_dict_get (thn (ho pins s σ H _ I h) fun u s1 ⟨x, H1, I1, rx, a, ex, ⟨kvs, d⟩, q1⟩ => ?_)
 subst ex
 obtain rfl : u = Value.ref a := rx
 obtain ⟨xs, _, _, dd, _⟩ := LZ I1.hok d
 refine ⟨dd.typeIs, fun b q => ?_, ?_⟩
 ·cases q
  obtain ⟨ob, _, _, h1, h2, _⟩ := dd
  exact ⟨ob, h1, h2.2.1⟩
 rw [m.trees]
 refine Calls.callWith_builtin rfl (Calls.evalArgs_plain (Calls.spliced_cons (thn (he pins s1 σ H1 _ I1 q1) fun iv s2 ⟨y, H2, I2, ry, b, k, kvs2, ey, n2, kb, hs, q2⟩ => Calls.spliced_nil ?_)))
 subst ey
 cases (show iv = Value.ref b from ry)
 obtain ⟨xs2, _, r2, d2, _, _, lo⟩ := LZ I2.hok n2
 refine call_meetsIn PySem.F.slot_dict_get d2.typeIs PySem.F.entry_dict_get (PySem.F.args_dict_get_2 _ _) (meetsH_dict_get (Ie X.prog X.w sh) a b lo) ⟨by show X.A.units + 1 + 1 < cLine; lia, k, xs2, LY I2.hok kb hs, d2, _, H2, I2.tok _, (KN.val r2 k).getD (d := .non) rfl, q2⟩
variable {i value : Expr} {pos pos' : Pos} {tv : TE}
theorem QW (hu : X.A.units + 64 < cLine) (ho : PE X o td) (hi : PE X i ty) (hv : PE X value tv) (hs : swapsWith value (some (.Subscript o i pos')) pos.line X.env = pure false) : PS X (.Assign [.Subscript o i pos'] value pos) (sDPutN X.prog X.w sh td ty tv) := by
 intro pins s σ H D I h
 refine wpAny_Assign_Subscript (thn (hv pins s σ H _ I h) fun r s1 ⟨v, H1, I1, rv, q1⟩ => thn (ho pins s1 σ H1 _ I1 q1) fun u s2 ⟨x, H2, I2, rx, q2⟩ => thn (hi pins s2 σ H2 _ I2 q2) fun iv s3 ⟨y, H3, I3, ry, a, b, k, kvs, ex, ey, n3, kb, ks, lt, q3⟩ => ?_) hs
 subst ex ey
 obtain rfl : u = Value.ref a := rx
 cases (show iv = Value.ref b from ry)
 obtain ⟨xs, e3, rel, dd, hsh, z, lo⟩ := LZ I3.hok n3
 have hz : xs.length <= sizeLine := by rw [<- Paired.length rel]; exact z
 have hl : (Di kvs k v).length <= sizeLine := by have := Gf kvs k v; lia
 refine wpAny_setItem_heap (knd := Ie X.prog X.w sh) (hsz := hz) (by show X.A.units + 1 + 1 < cLine; lia) (LY I3.hok kb ks) dd fun h' dd' hsb => ?_
 obtain ⟨ob, es, ep, hq, h2, h3, h4, _, h5⟩ := dd'
 have tk : ∀ c ys, H3 c = some (.tup ys) -> upd H3 a (.ext (PM X.prog X.w sh a (storedH xs k b r))) c = some (.tup ys) := fun c ys ec => by
  rw [Av (Bn ec e3 (fun z => nomatch z))]
  exact ec
 refine ⟨σ, _, Jo I3 (by rw [e3]; exact True.intro) hsb ⟨ob, hq⟩ (Nk ⟨ob, es, ep, hq, h2, h3, h4⟩), q3 _ (fun c o ec ne => by rw [Av ne]; exact ec) ⟨_, Ai, KN.keep tk (KN.put rel k kb rv), h5, fun x hx => ?_, hl, lo⟩⟩
 unfold storedH at hx
 split at hx
 ·obtain ⟨y, hy, rfl⟩ := List.mem_map.mp hx
  unfold putAt
  split
  ·exact hsh y hy
  ·exact hsh y hy
 ·rcases List.mem_append.mp hx with w | w
  ·exact hsh x w
  ·rw [List.mem_singleton] at w
   subst w
   exact ks
end
end L2
namespace L2
open PySem PySem.W PySem.Spec PyProof.Rows
def iDictF (tl : TE) : TI := fun σ H R => tl σ H fun x H1 => ∃ a kvs, x = .ref a /\ Rd H1 a (.dT kvs) /\ ∀ o H2, H2 a = some (.frz o (.dT kvs)) -> (∀ b u, H1 b = some u -> b ≠ a -> H2 b = some u) -> R (Itd a o kvs) H2
theorem Fv {X : Cx} {tg l : Expr} {tl : TE} (hl : PE X l tl) : PI X tg l (iDictF tl) := by
 intro pins s σ H R I h
 refine thn (hl pins s σ H _ I h) fun v s1 ⟨x, H1, I1, r1, q1⟩ => ?_
 obtain ⟨a, kvs, e, ea, q⟩ := q1
 subst e
 cases r1
 rcases ea with ea | ⟨o, ea⟩
 ·obtain ⟨z, y, xs, r, o, es, ep, h1, h2, h3, h4, h5⟩ := (show Bm X.prog X.w H1 s1.heap a (.dT kvs) from I1.hok a _ ea)
  have hz : es.size = kvs.length := by rw [size_of_entries h4, <- Paired.length r]
  have I2 : Inv X pins σ (upd H1 a (.frz o (.dT kvs))) s1 := Jo (t' := s1.toks) I1 (by rw [ea]; exact True.intro) ⟨rfl, fun _ _ => rfl⟩ ⟨o, h1⟩ ⟨h1, z, y, xs, KT.keeps r fun c ys ec => (by rw [Av (Bn ec ea (fun z => nomatch z))]; exact ec), o, es, ep, h1, h2, h3, h4, h5⟩
  refine MW y h1 h2 h3 ?_
  refine ⟨s1.heap.objs.size, [s1.heap.objs.size], _, _, _, rfl, I2.kept (t' := s1.toks) fun b o e => Heap.get?_push_of_some _ e, Js a _ o kvs es ep h3 hz, ⟨_, Heap.get?_push_size _ rfl, rfl, rfl⟩, fun b hb => ?_, q o _ Ai fun b u e n => by rw [Av n]; exact e⟩
  obtain rfl : b = s1.heap.objs.size := by simpa using hb
  exact I2.fpOk (Nat.le_refl _) (I2.hok.fresh (Nat.le_refl _))
 ·obtain ⟨h1, z, y, xs, r, o', es, ep, h1', h2, h3, h4, h5⟩ := (show Bm X.prog X.w H1 s1.heap a (.frz o (.dT kvs)) from I1.hok a _ ea)
  have eo : o = o' := Option.some.inj (h1.symm.trans h1')
  subst eo
  have hz : es.size = kvs.length := by rw [size_of_entries h4, <- Paired.length r]
  refine MW y h1 h2 h3 ?_
  refine ⟨s1.heap.objs.size, [s1.heap.objs.size], _, _, _, rfl, I1.kept (t' := s1.toks) fun b o e => Heap.get?_push_of_some _ e, Js a _ o kvs es ep h3 hz, ⟨_, Heap.get?_push_size _ rfl, rfl, rfl⟩, fun b hb => ?_, q o _ ea fun b u e n => e⟩
  obtain rfl : b = s1.heap.objs.size := by simpa using hb
  exact I1.fpOk (Nat.le_refl _) (I1.hok.fresh (Nat.le_refl _))
end L2
namespace L2
open PySem PySem.Spec PyProof.Rows
section
variable {X : Cx} {CX : CXT} {k : Nat} {ps : List Str} {sp : Sp} {E : XK} {x : Str} {p pos : Pos} {e : Expr} {es : List Expr} {t : TA} {S : St -> Prop}
end
section
variable {X : Cx}
end
end L2
namespace L2
open PySem PySem.Spec PyProof.Rows
theorem Li (d : Addr) (hd : (d == sysModules) = false) : Meets (Builtin.«dict.__len__» { pos := [Value.ref d] }) fun _ R s => ∃ o es ep, s.heap.get? d = some o /\ o.data = Data.dict es ep /\ R (Except.ok (Flow.ret (Value.int (es.size : Int) s.toks))) { s with toks := s.toks + 1 } := by
 rintro prog w A R s ⟨o, es, ep, ho, hdat, h⟩
 show wpAny (model prog w) A.in1 (do
  let n <- dictSize d
  let m <- Builtin.Dict.pendingCount d
  retInt (↑n + ↑m)) _ _ s
 refine wpAny_bind (wpAny_bind (wpAny_dictEntries ho hdat (wpAny_pure (wpAny_bind (wpAny_pendingCount_other hd (wpAny_mono (wpAny_ret_mkInt (Q := fun v s' => R (Except.ok (Flow.ret v)) s') ?_) (fun fin s' ⟨v, e, q⟩ => by subst e; exact q) (fun _ _ x => x)))))))
 show R (Except.ok (Flow.ret (Value.int ((es.size : Int) + ((0 : Nat) : Int)) s.toks))) _
 rw [show ((es.size : Int) + ((0 : Nat) : Int)) = (es.size : Int) by lia]
 exact h
section
variable {X : Cx}
theorem Qt : Go X (.builtin "len") (fun xs H Q => ∃ a kvs, xs = [V.ref a] /\ Rd H a (.dT kvs) /\ Q (.int kvs.length) H) := by
 intro pins s σ H xs us Q I r h
 obtain ⟨a, kvs, rfl, ha, q⟩ := h
 obtain ⟨u, rfl, ru⟩ := OE r
 cases ru
 obtain ⟨z, y, xs, rel, dd⟩ := Lz I.hok ha
 have ty := dd.typeIs
 obtain ⟨o, es, ep, h1, h2, h3, h4, h5⟩ := dd
 have hz : es.size = kvs.length := by
  have := congrArg List.length h4
  rw [List.length_map, Array.length_toList] at this
  rw [this, Paired.length rel]
 rw [sizeLine_eq] at z
 refine call_len_meets (n := (kvs.length : Int)) ty F.slot_dict_len F.entry_dict_len (F.args_dict_len_1 _) (Li a y) (by lia) (by lia) (fun Q' q' => ⟨o, es, ep, h1, h3, ?_⟩) ⟨.int kvs.length, H, I.tok _, ⟨_, rfl⟩, q⟩
 rw [hz]
 exact q'
end
end L2
namespace L2
open PySem PySem.Spec PyProof.Rows
section
variable {X : Cx}
end
end L2
namespace L2
open PySem PySem.Spec PyProof.Rows
section
variable {X : Cx}
end
end L2
namespace L2
open PySem PySem.W PySem.Spec PyProof.Rows
def Ju : Sp := fun vs H Q _ => ∃ (t : Addr) (x y : Int) (r : List Int), vs = [.ref t] /\ H t = some (.tup ((x :: y :: r).map V.int)) /\ ∀ u, H u = none -> Q (.ref u) (upd H u (.tup [.int y, .int x]))
structure It3 where
 a : Addr
 x : Int
 y : Int
 r : List Int
def It3.ns (q : It3) : List Int := q.x :: q.y :: q.r
section
variable {X : Cx} {pins : List (Addr × Obj)} {σ : St} {H H' : Hp} {s : Shared} {k : Nat} {f b : Addr} {fd : FuncData} {ps : List Str}
theorem DS.stay (fp : DS X pins H b) (hn : H' b = none) : DS X pins H' b := ⟨hn, fp.2⟩
theorem DS.turn {h' : Heap} {t' : Nat} (fp : DS X pins H b) (I : Inv X pins σ H s) (kp : ∀ c o, c ≠ b -> s.heap.get? c = some o -> h'.get? c = some o) : Inv X pins σ H { s with heap := h', toks := t' } :=
 I.turned kp fp.1 fp.2.1 fp.2.2.2.1 fp.2.2.2.2.1 fp.2.2.2.2.2
theorem DS.nost (fp : DS X pins H b) (I : Inv X pins σ H s) : b ∉ frs X.stack := fun z => by
 rcases List.mem_cons.mp (I.stkSub b z) with y | y
 ·exact fp.2.1 y
 ·exact fp.2.2.1 y
theorem Pa {A2 : Around} {P : PySem.Fin -> Shared -> Prop} {E : Value -> Shared -> Prop} (I : Inv X pins σ H s) {a kS : Addr} {e1 c : Nat} {ks out : Array Value} {st : SortSt} (fa : DS X pins H a) (fS : DS X pins H kS) (nka : kS ≠ a) (hk : s.heap.get? kS = some (seqObj "list" ks c)) (ha : s.heap.get? a = some (seqObj "list" #[] e1)) (eo : (arrOf st).map (·.2) = out) (hf : failedOf st = none) (hz : out.size <= sizeLine) (kz : ks.size <= sizeLine)
  (fin : ∀ (h' : Heap) (c' : Nat), Inv X pins σ H { s with heap := h' } -> h'.get? a = some (seqObj "list" out c') -> P (.done (.ret .none)) { s with heap := h' }) : wpAny (model X.prog X.w) A2 (ksk_tail a false e1 (.ref kS) st) P E s := by
 unfold ksk_tail
 have I1 : Inv X pins σ H { s with heap := s.heap.update kS (Obj.mapSeq fun _ => #[]) } := fS.turn (t' := s.toks) I fun b o hb e => by rw [Heap.get?_update_ne _ _ _ _ hb]; exact e
 have ha1 : (s.heap.update kS (Obj.mapSeq fun _ => #[])).get? a = some (seqObj "list" #[] e1) := by rw [Heap.get?_update_ne _ _ _ _ (Ne.symm nka)]; exact ha
 refine wpAny_bind (listUpdate_at hk rfl (wpAny_bind (wpAny_letGo (wpAny_bind (seqEpoch_at ha1 rfl (wpAny_bind (listUpdate_at ha1 rfl ?_ (hsz2 := ?_))))))) (hsz := kz))
 ·rw [hf]
  simp only [bne_self_eq_false, Bool.false_eq_true, if_false]
  rw [eo]
  refine wpAny_pure (fin _ _ (fa.turn (s := { s with heap := s.heap.update kS (Obj.mapSeq fun _ => #[]) }) (t' := s.toks) I1 fun b o hb e => by rw [Heap.get?_update_ne _ _ _ _ hb]; exact e) (get?_update_seq ha1 _))
 ·simp only [Bool.false_eq_true, if_false]
  rw [eo]
  exact Nat.le_succ_of_le hz
theorem keyTree {A2 : Around} {P : PySem.Fin -> Shared -> Prop} {E : Value -> Shared -> Prop} (F : AY X.prog X.w X.K X.mg X.base CX0 k f fd ps Ju) (hb : DA X.K fd ps []) (hr : CL k A2) (hfr : ∀ s H, IU X.prog X.w X.K X.mg X.base X.A X.stack s H -> IU X.prog X.w X.K X.mg X.base A2 X.stack s H) (I : Inv X pins σ H s) {a : Addr} {items : List It3} {n : Nat} (ho : s.heap.get? a = some (seqObj "list" (items.map fun q => Value.ref q.a).toArray n)) (fa : DS X pins H a) (hit : ∀ q ∈ items, H q.a = some (.tup (q.ns.map V.int))) (h64 : items.length < 64)
  (fin : ∀ (p : Array Nat) (H' : Hp) (s' : Shared) (c : Nat), Cr items.length p -> Inv X pins σ H' s' -> (∀ b u, H b = some u -> H' b = some u) -> H' a = none -> s'.heap.get? a = some (seqObj "list" (p.toList.map fun i => (items.map fun q => Value.ref q.a).getD i Value.none).toArray c) -> P (.done (.ret .none)) s') :
  wpAny (model X.prog X.w) A2 (ksk_tree a (.ref f) false) P E s := by
 have len : (items.map fun q => Value.ref q.a).length = items.length := List.length_map _
 have ln : items.length <= sizeLine := Nat.le_trans (Nat.le_of_lt h64) (by decide)
 unfold ksk_tree
 refine wpAny_bind (listItems_at ho rfl (wpAny_bind (listUpdate_at ho rfl ?_)))
 have ⟨e1, he1⟩ : ∃ e1, (s.heap.update a (Obj.mapSeq fun _ => #[])).get? a = some (seqObj "list" #[] e1) := ⟨_, get?_update_seq ho _⟩
 have I1 : Inv X pins σ H { s with heap := s.heap.update a (Obj.mapSeq fun _ => #[]) } := fa.turn (t' := s.toks) I fun c o hc e => by rw [Heap.get?_update_ne _ _ _ _ hc]; exact e
 generalize s.heap.update a (Obj.mapSeq fun _ => #[]) = h1 at he1 I1 ⊢
 refine wpAny_bind (seqEpoch_at he1 rfl (wpAny_bind (wpAny_newTuple (wpAny_bind (wpAny_newList (wpAny_holding ?_))))))
 have I2 : Inv X pins σ H { s with heap := h1.push (seqObj "tuple" (items.map fun q => Value.ref q.a).toArray 0) } := I1.kept (t' := s.toks) fun b o e => Heap.get?_push_of_some _ e
 have he2 := Heap.get?_push_of_some (seqObj "tuple" (items.map fun q => Value.ref q.a).toArray 0) he1
 show wpAny (model X.prog X.w) A2 (ksk_rest a (.ref f) false (items.map fun q => Value.ref q.a).toArray e1 (.ref (h1.push (seqObj "tuple" (items.map fun q => Value.ref q.a).toArray 0)).objs.size)) P E { s with heap := (h1.push (seqObj "tuple" (items.map fun q => Value.ref q.a).toArray 0)).push (seqObj "list" #[] 0) }
 generalize h1.push (seqObj "tuple" (items.map fun q => Value.ref q.a).toArray 0) = h2 at I2 he2 ⊢
 have fS : DS X pins H h2.objs.size := I2.fpOk (Nat.le_refl _) (I2.hok.fresh (Nat.le_refl _))
 have he3 := Heap.get?_push_of_some (seqObj "list" #[] 0) he2
 have hk3 : (h2.push (seqObj "list" #[] 0)).get? h2.objs.size = some (seqObj "list" #[] 0) := Heap.get?_push_size _ rfl
 have I3 : Inv X pins σ H { s with heap := h2.push (seqObj "list" #[] 0) } := I2.kept (t' := s.toks) fun b o e => Heap.get?_push_of_some _ e
 have nka : h2.objs.size ≠ a := Nat.ne_of_gt (Heap.lt_size he2)
 generalize h2.push (seqObj "list" #[] 0) = h3 at he3 hk3 I3 ⊢
 generalize h2.objs.size = kS at fS hk3 nka ⊢
 unfold ksk_rest
 refine wpAny_bind (wpAny_rule ?_)
 rw [List.forIn_toArray]
 refine wpAny_bind (ksk_fold (fun j s' => ∃ (H' : Hp) (us : List Addr) (c : Nat), Inv X pins σ H' s' /\ (∀ b u, H b = some u -> H' b = some u) /\ H' a = none /\ H' kS = none /\ s'.heap.get? kS = some (seqObj "list" (us.map Value.ref).toArray c) /\ s'.heap.get? a = some (seqObj "list" #[] e1) /\ us.length = j /\ ∀ (i : Nat) u q, us[i]? = some u -> items[i]? = some q -> H' u = some (.tup ([q.y, q.x].map V.int))) (items.map fun q => Value.ref q.a) 0 _ ⟨H, [], 0, I3, fun b u e => e, fa.1, fS.1, hk3, he3, rfl, fun i u q e => (nomatch e)⟩ ?_ ?_)
 ·rintro j x ⟨hp, gn, dr, tk, os⟩ hx ⟨H', us, c, I', kp, na, nk, hk, ha, lu, hus⟩
  have jl : j < items.length := by have := (List.getElem?_eq_some_iff.mp hx).1; rw [len] at this; exact this
  rw [List.getElem?_map] at hx
  obtain ⟨q, eq, rfl⟩ := Option.map_eq_some_iff.mp hx
  rw [Nat.zero_add] at lu ⊢
  have fa' := fa.stay na
  have fS' := fS.stay nk
  have tq := kp _ _ (hit q (List.mem_of_getElem? eq))
  have sp0 : Ju [V.ref q.a] H' (fun v H'' => ∃ u, v = .ref u /\ H' u = none /\ H'' = upd H' u (.tup [.int q.y, .int q.x])) E0 := ⟨q.a, q.x, q.y, q.r, rfl, tq, fun u hu => ⟨u, rfl, hu, rfl⟩⟩
  refine wpAny_bind (wpAny_attempt (wpAny_call (codeAny_mono (F.run A2 X.stack _ H' ⟨[Value.ref q.a], []⟩ ([Value.ref q.a] ++ []) [V.ref q.a] _ E0 hr (hfr _ _ I'.env0) (hb _ [Value.ref q.a] I'.kIn (F.len _ _ _ _ sp0)) (show Ba [V.ref q.a] [Value.ref q.a] from .cons rfl .nil) sp0) fun r s'' hq => ?_)))
  cases r with
  | error e => exact hq.elim
  | ok fl =>
   cases fl with
   | next => exact hq.elim
   | brk => exact hq.elim
   | cont => exact hq.elim
   | ret u =>
    obtain ⟨v, H2, os2, bare2, un, hok2, rv, u', rfl, hu', rfl⟩ := hq
    obtain ⟨hh, g2, d2, t2, os'⟩ := s''
    obtain rfl : os' = os := os2
    cases (show _ = Value.ref u' from rv)
    have I4 := I'.call (h' := hh) (g' := g2) (d' := d2) (t' := t2) (ch := []) un hok2 bare2 (fun b z => absurd z (by simp))
    have hk4 : hh.get? kS = _ := un.keep _ _ hk nk (fS'.nost I') (by simp)
    have ha4 : hh.get? a = _ := un.keep _ _ ha na (fa'.nost I') (by simp)
    have np : ∀ {b : Addr} {o : HO}, H' b = some o -> upd H' u' (.tup [.int q.y, .int q.x]) b = some o := fun {b o} e => by rw [Av (At e hu')]; exact e
    have na4 : upd H' u' (.tup [.int q.y, .int q.x]) a = none := un.free _ _ ha na (by simp)
    have nk4 : upd H' u' (.tup [.int q.y, .int q.x]) kS = none := un.free _ _ hk nk (by simp)
    have ⟨c2, hk5⟩ : ∃ c2, (hh.update kS (Obj.mapSeq (·.push (.ref u')))).get? kS = some (seqObj "list" ((us.map Value.ref).toArray.push (.ref u')) c2) := ⟨_, get?_update_seq hk4 _⟩
    refine wpAny_bind (listUpdate_at hk4 rfl (wpAny_pure ⟨rfl, upd H' u' (.tup [.int q.y, .int q.x]), us ++ [u'], c2, (fS'.stay nk4).turn (t' := t2) I4 fun b o hb e => by rw [Heap.get?_update_ne _ _ _ _ hb]; exact e, fun b o e => np (kp b o e), na4, nk4, ?_, ?_, by rw [List.length_append, lu]; rfl, fun i u2 q2 eu eq2 => ?_⟩) (hsz2 := ?_))
    ·show (hh.update kS _).get? kS = _
     rw [hk5]
     simp
    ·show (hh.update kS _).get? a = _
     rw [Heap.get?_update_ne _ _ _ _ (Ne.symm nka)]
     exact ha4
    ·by_cases hi : i < j
     ·rw [List.getElem?_append_left (by lia)] at eu
      exact np (hus i u2 q2 eu eq2)
     ·have : i = j := by
       have := (List.getElem?_eq_some_iff.mp eu).1
       rw [List.length_append, lu] at this
       have : i < j + 1 := this
       lia
      subst this
      rw [List.getElem?_append_right (by lia), lu, Nat.sub_self] at eu
      cases eu
      rw [eq] at eq2
      cases eq2
      exact Ai
    ·simp
     lia
 ·rintro ⟨hp, gn, dr, tk, os⟩ ⟨H', us, c, I', kp, na, nk, hk, ha, lu, hus⟩
  rw [Nat.zero_add, len] at lu
  have fa' := fa.stay na
  have fS' := fS.stay nk
  have lk : (us.map Value.ref).length = (items.map fun q => Value.ref q.a).length := by rw [List.length_map, len, lu]
  refine wpAny_bind (listItems_at hk rfl ?_)
  unfold ksk_end
  dsimp only
  simp only [Bool.false_eq_true, if_false]
  have sz : (items.map fun q => Value.ref q.a).toArray.size = items.length := by rw [List.size_toArray, len]
  by_cases few : (items.map fun q => Value.ref q.a).toArray.size < 2
  ·rw [if_pos few, if_pos few]
   refine wpAny_bind (wpAny_pure ?_)
   rw [StateT.run_pure]
   refine wpAny_bind (wpAny_pure ?_)
   dsimp only
   have eo : (arrOf (SortSt.mk' general' ((us.map Value.ref).toArray.zip (items.map fun q => Value.ref q.a).toArray) #[] 7 none)).map (·.2) = ((List.range items.length).toArray.toList.map fun i => (items.map fun q => Value.ref q.a).getD i Value.none).toArray := by
    rw [sz] at few
    clear hit fin ho hus I' hk
    show ((us.map Value.ref).toArray.zip (items.map fun q => Value.ref q.a).toArray).map (·.2) = _
    match items, us, lu, few with
    | [], [], _, _ => simp
    | [v], [u], _, _ => simp
   refine Pa (c := c) I' fa' fS' nka hk ha eo rfl (by simp; lia) (by simp; lia) fun h' c' I5 h5 => fin (List.range items.length).toArray H' _ c' ⟨by simp, Array.Perm.refl _⟩ I5 kp na h5
  ·rw [if_neg few, if_neg few]
   have two : 2 <= items.length := by lia
   have ktup : ∀ q ∈ (us.zip (items.map fun q => [q.y, q.x])), H' q.1 = some (.tup (q.2.map V.int)) /\ q.2 ≠ [] := fun q hq => by
    obtain ⟨i, hi⟩ := List.getElem?_of_mem hq
    rw [List.getElem?_zip_eq_some, List.getElem?_map] at hi
    obtain ⟨h1, h2⟩ := hi
    obtain ⟨it, e1, e2⟩ := Option.map_eq_some_iff.mp h2
    rw [<- e2]
    exact ⟨hus i q.1 it h1 e1, by simp⟩
   have z1 : ((us.zip (items.map fun q => [q.y, q.x])).map fun q => Value.ref q.1) = us.map Value.ref := by
    show List.map (Value.ref ∘ Prod.fst) _ = _
    rw [<- List.map_map]
    rw [List.map_fst_zip (by rw [List.length_map, lu]; exact Nat.le_refl _)]
   have zl : (us.zip (items.map fun q => [q.y, q.x])).length = items.length := by rw [List.length_zip, List.length_map, lu, Nat.min_self]
   obtain ⟨fs, k1, k2, k3⟩ := Ly I'.hok ktup
   rw [z1] at k1
   refine wpAny_bind (kat_kind (T := .type "int") k1 (by rw [k2, zl]; lia) (fun v hv => ?_) rfl ?_)
   ·obtain ⟨x, t, rfl⟩ := k3 v hv
    exact .now
   have kroom : (us.map Value.ref).toArray.size <= sizeLine := by simp; lia
   refine wpAny_bind (wpAny_mono (kat_run (ks := us.map Value.ref) (vs := items.map fun q => Value.ref q.a) (κ := tuples' true) (Q := fun st' s' => s' = { heap := hp, gens := gn, drawn := dr, toks := tk, os := os } /\ failedOf st' = none /\ ∃ p, Cr items.length p /\ arrOf st' = p.map (kas_item ((us.map Value.ref).toArray.zip (items.map fun q => Value.ref q.a).toArray))) (G := fun p s' => s' = { heap := hp, gens := gn, drawn := dr, toks := tk, os := os } /\ Cr items.length p) lk (by rw [len]; exact two) (by rw [len]; exact h64) (fun p st' s' h1 h2 h3 h4 => ⟨h4.1, h3, p, h4.2, h2⟩) ?_) ?_ fun _ _ e => e)
   ·rw [len]
    refine rk_wp (rk := rkOf (items.map fun q => [q.y, q.x])) (fun i j C hi hj cc => ?_) (sort_wp (by lia) fun p' h1 h2 => ⟨rfl, h1⟩)
    obtain ⟨b, o, vs1, m, e1, e2, e3, e4, e5⟩ := OG I'.hok ktup (i := i) (by rw [zl]; exact hi)
    obtain ⟨b', o', vs2, m', f1, f2, f3, f4, f5⟩ := OG I'.hok ktup (i := j) (by rw [zl]; exact hj)
    have z2 : ((us.zip (items.map fun q => [q.y, q.x])).map (·.2)) = items.map fun q => [q.y, q.x] := List.map_snd_zip (by rw [List.length_map, lu]; exact Nat.le_refl _)
    rw [z1] at e1 f1
    rw [z2] at e5 f5
    unfold kas_ask
    rw [e1, f1]
    refine kat_lt e2 e4 f2 f4 ?_
    rw [rk_iff (by rw [List.length_map]; exact hi)] at cc
    have := OY (prog := X.prog) (w := X.w) (A := A2) (b := true) (i := 0) e5 f5 cc
    have l1 := e5.length
    have l2 := f5.length
    rw [List.length_map] at l1 l2
    rw [List.size_toArray, List.size_toArray, <- l1, <- l2]
    exact this
   rintro ⟨⟨⟩, st'⟩ s' ⟨rfl, hf, p, pn, ea⟩
   dsimp only at hf ea ⊢
   have eo := kat_snds lk ea
   refine Pa (c := c) I' fa' fS' nka hk ha eo hf (by simp only [List.size_toArray, List.length_map, Array.length_toList, pn.sz]; exact ln) kroom fun h' c' I5 h5 => fin p H' _ c' pn I5 kp na h5
theorem Qe {Q : VK} (F : AY X.prog X.w X.K X.mg X.base CX0 k f fd ps Ju) (hb : DA X.K fd ps []) (hr : CL (k + 2) X.A) (I : Inv X pins σ H s) {p : Addr} {items : List It3} (hq : SqL X.K H p (items.map fun q => V.ref q.a)) (hit : ∀ q ∈ items, H q.a = some (.tup (q.ns.map V.int))) (h64 : items.length < 64)
  (q : ∀ (L : Addr) (out : List It3) (H' : Hp), (∀ b u, H b = some u -> H' b = some u) -> H' L = none -> out.Perm items -> Q (.ref L) (upd H' L (.lst (out.map fun q => V.ref q.a)))) :
  wpAny (model X.prog X.w) X.A (call (.builtin "sorted") [.ref p] [("key", .ref f)]) (EP X pins σ Q) X.xe s := by
 obtain ⟨its, rv, pl, hz⟩ := I.list hq
 have ei : its = items.map fun q => Value.ref q.a := by
  clear pl hz q hq h64 hit
  induction items generalizing its with
  | nil => cases rv; rfl
  | cons it items ih =>
   cases rv with
   | cons a1 a2 =>
    cases (show _ = Value.ref it.a from a1)
    rw [List.map_cons, ih _ a2]
 subst ei
 have len : (items.map fun q => Value.ref q.a).length = items.length := List.length_map _
 have ln : items.length <= sizeLine := Nat.le_trans (Nat.le_of_lt h64) (by decide)
 refine PyProof.Rows.call_function_entry_kw kind_sorted plain_sorted entry_sorted (ksk_s1 _ _) ?_
 unfold Builtin.«sorted»
 refine wpAny_bind (m := checkCount "sorted" 1 1 _) (wpAny_pure (wpAny_bind (collect_list pl.isList (wpAny_bind (wpAny_newList ?_ (by rw [len]; exact ln))) (by rw [len]; exact ln))))
 have sz1 : ((s.heap.push (seqObj "list" #[] 0)).update s.heap.objs.size (Obj.mapSeq (· ++ (items.map fun q => Value.ref q.a).toArray))).objs.size = s.heap.objs.size + 1 := by
  rw [Heap.size_update]; exact size_push' ..
 have at1 : (((s.heap.push (seqObj "list" #[] 0)).update s.heap.objs.size (Obj.mapSeq (· ++ (items.map fun q => Value.ref q.a).toArray))).push (seqObj "list" (items.map fun q => Value.ref q.a).toArray 0)).get? (s.heap.objs.size + 1) = some (seqObj "list" (items.map fun q => Value.ref q.a).toArray 0) := by
  have := Heap.get?_push_size ((s.heap.push (seqObj "list" #[] 0)).update s.heap.objs.size (Obj.mapSeq (· ++ (items.map fun q => Value.ref q.a).toArray))) (show (seqObj "list" (items.map fun q => Value.ref q.a).toArray 0).isFreed = false from rfl)
  rw [sz1] at this
  exact this
 have keep1 : ∀ b o, s.heap.get? b = some o -> (((s.heap.push (seqObj "list" #[] 0)).update s.heap.objs.size (Obj.mapSeq (· ++ (items.map fun q => Value.ref q.a).toArray))).push (seqObj "list" (items.map fun q => Value.ref q.a).toArray 0)).get? b = some o := fun b o e =>
  Heap.get?_push_of_some _ (by rw [Heap.get?_update_ne _ _ _ _ (Nat.ne_of_lt (Heap.lt_size e))]; exact Heap.get?_push_of_some _ e)
 show wpAny (model X.prog X.w) _ _ _ _ { s with heap := (((s.heap.push (seqObj "list" #[] 0)).update s.heap.objs.size (Obj.mapSeq (· ++ (items.map fun q => Value.ref q.a).toArray))).push (seqObj "list" (items.map fun q => Value.ref q.a).toArray 0)) }
 rw [sz1]
 have I1 : Inv X pins σ H { s with heap := (((s.heap.push (seqObj "list" #[] 0)).update s.heap.objs.size (Obj.mapSeq (· ++ (items.map fun q => Value.ref q.a).toArray))).push (seqObj "list" (items.map fun q => Value.ref q.a).toArray 0)) } := I.kept (t' := s.toks) keep1
 have fD : DS X pins H (s.heap.objs.size + 1) := I.fpOk (Nat.le_succ _) (I.hok.fresh (Nat.le_succ _))
 generalize ((s.heap.push (seqObj "list" #[] 0)).update s.heap.objs.size (Obj.mapSeq (· ++ (items.map fun q => Value.ref q.a).toArray))).push (seqObj "list" (items.map fun q => Value.ref q.a).toArray 0) = h1 at at1 I1 ⊢
 refine wpAny_bind (wpAny_holding (PyProof.Rows.wpAny_call_entry_kw slot_list_sort ⟨_, at1, rfl⟩ entry_list_sort ?_ (ksk_l1 _ _)))
 rw [ksk_t1]
 refine keyTree F hb hr.in1.in1 (fun s H e => e.in1.in1) I1 at1 fD hit h64 fun pm H' s' c pn I' kp na ha => ⟨_, rfl, wpAny_pure ⟨_, rfl, ?_⟩⟩
 have pl2 : pm.toList.Perm (List.range items.length) := by simpa using pn.pm.toList
 have sz : pm.size = items.length := pn.sz
 have lt : ∀ i ∈ pm.toList, i < items.length := fun i hi => by simpa using (pl2.mem_iff).mp hi
 let d : It3 := ⟨0, 0, 0, []⟩
 have out : (pm.toList.map fun i => items.getD i d).Perm items := by
  refine (pl2.map _).trans ?_
  refine List.Perm.of_eq (List.ext_getElem? fun i => ?_)
  rw [List.getElem?_map]
  by_cases hi : i < items.length
  ·rw [List.getElem?_range hi, List.getElem?_eq_getElem hi]
   show some (items.getD i d) = _
   rw [List.getD_eq_getElem?_getD, List.getElem?_eq_getElem hi]
   rfl
  ·rw [List.getElem?_eq_none (by simpa using hi), List.getElem?_eq_none (by lia)]
   rfl
 refine ⟨.ref (s.heap.objs.size + 1), _, I'.track (o := .lst ((pm.toList.map fun i => items.getD i d).map fun q => V.ref q.a)) na (Heap.get?_none_of_le (Nat.le_trans I.sz (Nat.le_succ _))) (Heap.get?_none_of_le (Nat.le_trans I.ok.bsz (Nat.le_trans I.sz (Nat.le_succ _)))) (Ne.symm fD.2.1) fD.2.2.2.2.1 fD.2.2.2.2.2 (fun b hb z => fD.2.2.1 (z ▸ hb)) ⟨by rw [List.length_map, List.length_map, Array.length_toList, sz]; exact ln, _, c, ?_, ha⟩, rfl, q (s.heap.objs.size + 1) _ H' kp na out⟩
 have : ∀ {l : List Nat}, (∀ i ∈ l, i < items.length) -> Ba ((l.map fun i => items.getD i d).map fun q => V.ref q.a) (l.map fun i => (items.map fun q => Value.ref q.a).getD i Value.none) := by
  intro l
  induction l with
  | nil => intro _; exact .nil
  | cons i l ih =>
   intro hl
   refine .cons ?_ (ih fun j hj => hl j (List.mem_cons_of_mem _ hj))
   have hi := hl i (List.mem_cons_self ..)
   show Bb (V.ref (items.getD i d).a) ((items.map fun q => Value.ref q.a).getD i Value.none)
   rw [List.getD_eq_getElem?_getD, List.getD_eq_getElem?_getD, List.getElem?_map, List.getElem?_eq_getElem hi]
   rfl
 exact this lt
def tSortR (K : PySem.W.Frag) (t : TA) : TE := fun σ H Q => t σ H fun vs H1 => ∃ (p : Addr) (items : List It3), vs = [.ref p] /\ SqL K H1 p (items.map fun q => V.ref q.a) /\ items.length < 64 /\ (∀ q ∈ items, H1 q.a = some (.tup (q.ns.map V.int))) /\ ∀ (L : Addr) (out : List It3) (H' : Hp), (∀ b u, H1 b = some u -> H' b = some u) -> H' L = none -> out.Perm items -> Q (.ref L) (upd H' L (.lst (out.map fun q => V.ref q.a)))
theorem Oa {ky : Str} {e : Expr} {t : TA} {p kp kpos pos : Pos} (c : Cal X.prog X.w X.K X.mg X.base CX0 k ky ps Ju) (hr : CL (k + 2) X.A) (hg : Gl X "sorted") (hm : X.mg "sorted" = none) (hgk : Gl X ky) (ha : PA X [e] t) (hd : (ky == ("__debug__" : Str)) = false := by decide)
  (he : backTo pos (starEach [e] X.env) = (false, eval e X.env) :: backTo pos (starEach [] X.env) := by rfl) (hp1 : (backTo pos (starEach [e] X.env)).any (·.1) = false := by rfl) : PE X (.Call (.Name "sorted" p) [e] [⟨some "key", .Name ky kp, kpos⟩] pos) (tSortR X.K t) := by
 intro pins s σ H Q I h
 obtain ⟨f, fd, F, hmk, hkp, hb⟩ := c.ex
 refine wpAny_Call_Name_kw (GO I hg hm PyProof.Rows.boot_sorted ?_)
 refine PyProof.Rows.callWith_kw (thn (ha pos pins s σ H _ I h) fun us s1 ⟨vs, H1, I1, r1, q1⟩ => ?_) he hp1 rfl rfl
 obtain ⟨p', items, rfl, hq, h64, hit, q⟩ := q1
 refine thn (pk_cons (nm := some "key") (kpos := kpos) (pe_gref (pos := kp) hgk hmk hd) pk_nil pos pins s1 σ H1 (fun zs H2 => zs = [.ref f] /\ H2 = H1) I1 ⟨rfl, rfl⟩) fun ws s2 ⟨zs, H2, I2, rz, e1, e2⟩ => ?_
 subst e1
 subst e2
 cases r1 with
 | cons a1 a2 =>
  cases a2
  cases (show _ = Value.ref p' from a1)
  cases rz with
  | cons b1 b2 =>
   cases b2
   cases (show _ = Value.ref f from b1)
   exact Qe F hb hr I2 hq hit h64 q
end
end L2
namespace J
open PySem L2
def top (i : Nat) : Stmt := PySem.Challenge.pw_jumpfield_k71_shapes.main.body.getD i (.Pass ⟨0, 0, 0, 0⟩)
abbrev DZ : Stmt := top 9
abbrev Og : List Str := ["thing"]
abbrev Dl : List Str := ["thing"]
theorem MS : Az Og Dl (Ah DZ) := ⟨rfl, rfl, rfl, by decide +kernel, rfl, by decide +kernel, by decide +kernel⟩
abbrev Ea : Stmt := top 12
abbrev Oh : List Str := ["thing"]
abbrev Dm : List Str := ["thing"]
theorem MT : Az Oh Dm (Ah Ea) := ⟨rfl, rfl, rfl, by decide +kernel, rfl, by decide +kernel, by decide +kernel⟩
abbrev Cy : Stmt := top 15
abbrev Ld : List Str := ["box", "dx", "dy"]
abbrev BJ : List Str := ["box", "dx", "dy"]
theorem Jx : Az Ld BJ (Ah Cy) := ⟨rfl, rfl, rfl, by decide +kernel, rfl, by decide +kernel, by decide +kernel⟩
abbrev BI : Stmt := top 16
abbrev Et : List Str := ["boxes", "left", "top", "right", "bottom"]
abbrev Dv : List Str := ["boxes"]
theorem DC : Az Et Dv (Ah BI) := ⟨rfl, rfl, rfl, by decide +kernel, rfl, by decide +kernel, by decide +kernel⟩
abbrev Cz : Stmt := top 21
abbrev Le : List Str := ["box", "limit"]
abbrev BK : List Str := ["box", "limit"]
theorem Jy : Az Le BK (Ah Cz) := ⟨rfl, rfl, rfl, by decide +kernel, rfl, by decide +kernel, by decide +kernel⟩
abbrev DX : Stmt := top 22
abbrev Oe : List Str := ["grove", "field"]
abbrev Ct : List Str := ["grove", "field"]
theorem MR : Az Oe Ct (Ah DX) := ⟨rfl, rfl, rfl, by decide +kernel, rfl, by decide +kernel, by decide +kernel⟩
abbrev CN : Stmt := top 23
abbrev Mb : List Str := ["grove"]
abbrev DL : List Str := ["grove"]
theorem JZ : Az Mb DL (Ah CN) := ⟨rfl, rfl, rfl, by decide +kernel, rfl, by decide +kernel, by decide +kernel⟩
abbrev EI : Stmt := top 24
abbrev PU : List Str := ["grove", "square", "level", "parts", "bare"]
abbrev Fz : List Str := ["grove", "square"]
theorem FM : Az PU Fz (Ah EI) := ⟨rfl, rfl, rfl, by decide +kernel, rfl, by decide +kernel, by decide +kernel⟩
abbrev EJ : Stmt := top 25
abbrev PV : List Str := ["grove", "square", "kept"]
abbrev Ee : List Str := ["grove", "square"]
theorem GI : Az PV Ee (Ah EJ) := ⟨rfl, rfl, rfl, by decide +kernel, rfl, by decide +kernel, by decide +kernel⟩
abbrev CI : Stmt := top 26
abbrev II : List Str := ["grove", "square", "inner"]
abbrev Eo : List Str := ["grove", "square"]
theorem GT : Az II Eo (Ah CI) := ⟨rfl, rfl, rfl, by decide +kernel, rfl, by decide +kernel, by decide +kernel⟩
abbrev BN : Stmt := top 27
abbrev Iw : List Str := ["grove", "square", "bare", "place", "quarter", "part_place", "part"]
abbrev Ck : List Str := ["grove", "square"]
theorem BD : Az Iw Ck (Ah BN) := ⟨rfl, rfl, rfl, by decide +kernel, rfl, by decide +kernel, by decide +kernel⟩
abbrev Cg : Stmt := top 28
abbrev JL : List Str := ["grove", "field", "box", "wide"]
abbrev BS : List Str := ["grove", "field", "box"]
theorem Ey : Az JL BS (Ah Cg) := ⟨rfl, rfl, rfl, by decide +kernel, rfl, by decide +kernel, by decide +kernel⟩
abbrev EK : Stmt := top 29
abbrev PY : List Str := ["grove", "field", "x", "y", "state", "place", "wide", "half"]
abbrev FA : List Str := ["grove", "field", "x", "y", "state"]
theorem FN : Az PY FA (Ah EK) := ⟨rfl, rfl, rfl, by decide +kernel, rfl, by decide +kernel, by decide +kernel⟩
abbrev DW : Stmt := top 30
abbrev Od : List Str := ["grove", "square", "x", "y", "state", "level", "half", "parts", "place"]
abbrev Dk : List Str := ["grove", "square", "x", "y", "state"]
theorem Dq : Az Od Dk (Ah DW) := ⟨rfl, rfl, rfl, by decide +kernel, rfl, by decide +kernel, by decide +kernel⟩
abbrev Eb : Stmt := top 31
abbrev Oi : List Str := ["grove", "cells", "field", "cell"]
abbrev EX : List Str := ["grove", "cells"]
theorem Fc : Az Oi EX (Ah Eb) := ⟨rfl, rfl, rfl, by decide +kernel, rfl, by decide +kernel, by decide +kernel⟩
abbrev Fu : Stmt := top 33
abbrev Rw : List Str := ["grove", "field", "box", "reach"]
abbrev FC : List Str := ["grove", "field"]
theorem Im : Az Rw FC (Ah Fu) := ⟨rfl, rfl, rfl, by decide +kernel, rfl, by decide +kernel, by decide +kernel⟩
abbrev DY : Stmt := top 35
abbrev Of : List Str := ["grove", "field", "dx", "dy", "box", "target", "wide", "size", "bare", "four"]
abbrev EW : List Str := ["grove", "field", "dx", "dy"]
theorem CH : Az Of EW (Ah DY) := ⟨rfl, rfl, rfl, by decide +kernel, rfl, by decide +kernel, by decide +kernel⟩
abbrev DV : Stmt := top 36
abbrev PX : List Str := ["grove", "four", "right", "down", "known", "bare", "seen", "square"]
abbrev Du : List Str := ["grove", "four", "right", "down", "known"]
theorem DT : Az PX Du (Ah DV) := ⟨rfl, rfl, rfl, by decide +kernel, rfl, by decide +kernel, by decide +kernel⟩
abbrev BM : Stmt := top 37
abbrev Iu : List Str := ["four", "right", "down", "bare"]
abbrev BR : List Str := ["four", "right", "down", "bare"]
theorem GS : Az Iu BR (Ah BM) := ⟨rfl, rfl, rfl, by decide +kernel, rfl, by decide +kernel, by decide +kernel⟩
abbrev BE : Stmt := top 38
abbrev IQ : List Str := ["grove", "four", "right", "down", "known", "half", "rows", "made", "place", "column", "row", "inner"]
abbrev Cw : List Str := ["grove", "four", "right", "down", "known"]
theorem Bd : Az IQ Cw (Ah BE) := ⟨rfl, rfl, rfl, by decide +kernel, rfl, by decide +kernel, by decide +kernel⟩
abbrev Bp : Stmt := top 39
abbrev GN : List Str := ["grove", "four", "a", "b", "c", "d"]
abbrev Bs : List Str := ["grove", "four"]
theorem BF : Az GN Bs (Ah Bp) := ⟨rfl, rfl, rfl, by decide +kernel, rfl, by decide +kernel, by decide +kernel⟩
abbrev DU : Stmt := top 41
abbrev Oc : List Str := ["grove", "field", "box", "shape"]
abbrev Ef : List Str := ["grove", "field"]
theorem FZ : Az Oc Ef (Ah DU) := ⟨rfl, rfl, rfl, by decide +kernel, rfl, by decide +kernel, by decide +kernel⟩
abbrev Ft : Stmt := top 43
abbrev Rv : List Str := ["grove", "field", "box", "state", "has_places", "wide", "solid"]
abbrev Gd : List Str := ["grove", "field", "box", "state"]
theorem Gq : Az Rv Gd (Ah Ft) := ⟨rfl, rfl, rfl, by decide +kernel, rfl, by decide +kernel, by decide +kernel⟩
abbrev Dr : Stmt := top 44
abbrev Nl : List Str := ["box"]
abbrev Ep : List Str := ["box"]
theorem LQ : Az Nl Ep (Ah Dr) := ⟨rfl, rfl, rfl, by decide +kernel, rfl, by decide +kernel, by decide +kernel⟩
abbrev EL : Stmt := top 45
abbrev PZ : List Str := ["grove", "field", "box", "reach", "left", "top", "size"]
abbrev FB : List Str := ["grove", "field", "box"]
theorem ES : Az PZ FB (Ah EL) := ⟨rfl, rfl, rfl, by decide +kernel, rfl, by decide +kernel, by decide +kernel⟩
abbrev FO : Stmt := top 46
abbrev n_mixed : List Str := ["grove", "inner", "outer", "part", "known", "size", "key", "square"]
abbrev Fi : List Str := ["grove", "inner", "outer", "part", "known"]
theorem Fs : Az n_mixed Fi (Ah FO) := ⟨rfl, rfl, rfl, by decide +kernel, rfl, by decide +kernel, by decide +kernel⟩
abbrev Bq : Stmt := top 47
abbrev Iv : List Str := ["grove", "key", "half", "known", "inners", "outers", "part", "columns", "rows", "made", "place", "column", "row", "quarter_part"]
abbrev Cj : List Str := ["grove", "key", "half", "known"]
theorem AJ : Az Iv Cj (Ah Bq) := ⟨rfl, rfl, rfl, by decide +kernel, rfl, by decide +kernel, by decide +kernel⟩
abbrev BW : Stmt := top 48
abbrev IP : List Str := ["start", "stop", "half"]
abbrev BX : List Str := ["start", "stop", "half"]
theorem Il : Az IP BX (Ah BW) := ⟨rfl, rfl, rfl, by decide +kernel, rfl, by decide +kernel, by decide +kernel⟩
abbrev EM : Stmt := top 50
abbrev Qa : List Str := ["_law_script", "_law_k"]
abbrev Eg : List Str := ["_law_script", "_law_k"]
theorem NX : Az Qa Eg (Ah EM) := ⟨rfl, rfl, rfl, by decide +kernel, rfl, by decide +kernel, by decide +kernel⟩
abbrev Ch : Stmt := top 51
abbrev JM : List Str := ["_law_cell"]
abbrev CK : List Str := ["_law_cell"]
theorem IM : Az JM CK (Ah Ch) := ⟨rfl, rfl, rfl, by decide +kernel, rfl, by decide +kernel, by decide +kernel⟩
abbrev CA : Stmt := top 52
abbrev Lf : List Str := ["_law_states", "_law_some", "_law_place"]
abbrev Dc : List Str := ["_law_states"]
theorem ET : Az Lf Dc (Ah CA) := ⟨rfl, rfl, rfl, by decide +kernel, rfl, by decide +kernel, by decide +kernel⟩
abbrev Dt : Stmt := top 53
abbrev Np : List Str := ["_law_cell"]
abbrev Es : List Str := ["_law_cell"]
theorem LR : Az Np Es (Ah Dt) := ⟨rfl, rfl, rfl, by decide +kernel, rfl, by decide +kernel, by decide +kernel⟩
abbrev Ds : Stmt := top 54
abbrev Nm : List Str := ["_law_script", "_law_first", "_law_many", "_law_left", "_law_top", "_law_states", "_law_k", "_law_value", "_law_at_here"]
abbrev Er : List Str := ["_law_script", "_law_first", "_law_many", "_law_left", "_law_top"]
theorem DE : Az Nm Er (Ah Ds) := ⟨rfl, rfl, rfl, by decide +kernel, rfl, by decide +kernel, by decide +kernel⟩
abbrev Ca : Stmt := top 55
abbrev Fa : List Str := ["_law_states", "_law_left", "_law_top", "_law_wide"]
abbrev EY : List Str := ["_law_states"]
theorem Fe : Az Fa EY (Ah Ca) := ⟨rfl, rfl, rfl, by decide +kernel, rfl, by decide +kernel, by decide +kernel⟩
abbrev CP : Stmt := top 56
abbrev Mf : List Str := ["_law_states", "_law_dx", "_law_dy", "_law_found", "_law_place"]
abbrev DM : List Str := ["_law_states", "_law_dx", "_law_dy"]
theorem Fk : Az Mf DM (Ah CP) := ⟨rfl, rfl, rfl, by decide +kernel, rfl, by decide +kernel, by decide +kernel⟩
abbrev CO : Stmt := top 57
abbrev Md : List Str := ["_law_found", "_law_shape", "_law_left", "_law_top", "_law_number"]
abbrev CV : List Str := ["_law_found", "_law_shape", "_law_left", "_law_top"]
theorem GG : Az Md CV (Ah CO) := ⟨rfl, rfl, rfl, by decide +kernel, rfl, by decide +kernel, by decide +kernel⟩
abbrev BO : Stmt := top 58
abbrev Ix : List Str := ["_law_script", "_law_grove", "_law_ends", "_law_wide", "_law_high", "_law_state", "_law_none", "_law_shape", "_law_k", "_law_left", "_law_top", "_law_field"]
abbrev Cm : List Str := ["_law_script", "_law_grove"]
theorem AK : Az Ix Cm (Ah BO) := ⟨rfl, rfl, rfl, by decide +kernel, rfl, by decide +kernel, by decide +kernel⟩
abbrev GV : Stmt := top 59
abbrev n_law : List Str := ["_law_script", "_law_left", "_law_many", "_law_states", "_law_ends", "_law_corners", "_law_k", "_law_grove", "_law_field", "_law_box_here", "_law_shape", "_law_top", "_law_other"]
abbrev p_law : List Str := ["_law_script"]
theorem DD : Az n_law p_law (Ah GV) := ⟨rfl, rfl, rfl, by decide +kernel, rfl, by decide +kernel, by decide +kernel⟩
abbrev CU : Stmt := Dh (top 17) 0
abbrev Mj : List Str := ["self", "state", "level", "bare"]
abbrev DO : List Str := ["self"]
theorem Ek : Az Mj DO (Ah CU) := ⟨rfl, rfl, rfl, by decide +kernel, rfl, by decide +kernel, by decide +kernel⟩
abbrev CT : Stmt := Dh (top 17) 1
abbrev Mi : List Str := ["self", "parts", "level", "number"]
abbrev CY : List Str := ["self", "parts", "level"]
theorem GH : Az Mi CY (Ah CT) := ⟨rfl, rfl, rfl, by decide +kernel, rfl, by decide +kernel, by decide +kernel⟩
abbrev Ci : Stmt := Dh (top 17) 2
abbrev JN : List Str := ["self", "parts", "number"]
abbrev AT : List Str := ["self", "parts"]
theorem FV : Az JN AT (Ah Ci) := ⟨rfl, rfl, rfl, by decide +kernel, rfl, by decide +kernel, by decide +kernel⟩
abbrev Be : Stmt := Dh (top 17) 3
abbrev Ge : List Str := ["self", "square"]
abbrev Bf : List Str := ["self", "square"]
theorem FX : Az Ge Bf (Ah Be) := ⟨rfl, rfl, rfl, by decide +kernel, rfl, by decide +kernel, by decide +kernel⟩
abbrev CS : Stmt := Dh (top 17) 4
abbrev Mh : List Str := ["self", "state"]
abbrev CW : List Str := ["self", "state"]
theorem Lb : Az Mh CW (Ah CS) := ⟨rfl, rfl, rfl, by decide +kernel, rfl, by decide +kernel, by decide +kernel⟩
abbrev CB : Stmt := Dh (top 17) 6
abbrev Lg : List Str := ["self", "level", "state", "square", "below"]
abbrev Cd : List Str := ["self", "level", "state"]
theorem DF : Az Lg Cd (Ah CB) := ⟨rfl, rfl, rfl, by decide +kernel, rfl, by decide +kernel, by decide +kernel⟩
abbrev BP : Stmt := Dh (top 17) 7
abbrev Iz : List Str := ["self", "square"]
abbrev AW : List Str := ["self", "square"]
theorem GU : Az Iz AW (Ah BP) := ⟨rfl, rfl, rfl, by decide +kernel, rfl, by decide +kernel, by decide +kernel⟩
abbrev DH : Stmt := Dh (top 17) 10
abbrev JG : List Str := ["self", "square"]
abbrev De : Stmt := Dh (top 17) 11
abbrev IN : List Str := ["self", "square"]
abbrev CQ : Stmt := Dh (top 17) 12
abbrev Mg : List Str := ["self", "square"]
abbrev DN : List Str := ["self", "square"]
theorem La : Az Mg DN (Ah CQ) := ⟨rfl, rfl, rfl, by decide +kernel, rfl, by decide +kernel, by decide +kernel⟩
abbrev Cb : Stmt := Dh (top 17) 13
abbrev Lh : List Str := ["self", "square", "box"]
abbrev BL : List Str := ["self", "square"]
theorem DG : Az Lh BL (Ah Cb) := ⟨rfl, rfl, rfl, by decide +kernel, rfl, by decide +kernel, by decide +kernel⟩
abbrev Br : Stmt := Dh (top 17) 14
abbrev Iy : List Str := ["self", "square", "level", "half", "boxes", "place", "quarter", "box"]
abbrev Co : List Str := ["self", "square"]
theorem Bj : Az Iy Co (Ah Br) := ⟨rfl, rfl, rfl, by decide +kernel, rfl, by decide +kernel, by decide +kernel⟩
structure Ad where
 c_Grove : Addr
structure Top (K : PySem.W.Frag) (mg : Str -> Option Value) (a : Ad) : Prop where
 b_bool : mg "bool" = none
 b_enumerate : mg "enumerate" = none
 b_int : mg "int" = none
 b_isinstance : mg "isinstance" = none
 b_len : mg "len" = none
 b_list : mg "list" = none
 b_max : mg "max" = none
 b_min : mg "min" = none
 b_range : mg "range" = none
 b_sorted : mg "sorted" = none
 b_sum : mg "sum" = none
 b_tuple : mg "tuple" = none
 k_STATES : ∃ t, mg "STATES" = some (.int 8 t)
 k_TOP_LEVEL : ∃ t, mg "TOP_LEVEL" = some (.int 48 t)
 k_LIMIT : ∃ t, mg "LIMIT" = some (.int 1099511627776 t)
 k_LEAST_LEVEL : ∃ t, mg "LEAST_LEVEL" = some (.int 1 t)
 m_Grove : mg "Grove" = some (.ref a.c_Grove)
 cl_Grove : Cls K a.c_Grove
 na_Grove_levels : EB K a.c_Grove "levels"
 na_Grove_parts : EB K a.c_Grove "parts"
 na_Grove_numbers : EB K a.c_Grove "numbers"
 na_Grove_bares : EB K a.c_Grove "bares"
 na_Grove_amounts : EB K a.c_Grove "amounts"
 na_Grove_boxes : EB K a.c_Grove "boxes"
end J
namespace J
open PySem L2
structure Sq where
 parts : List Int
 lev : Int
abbrev Gv := List Sq
structure GA where
 p : Addr
 dx : Addr
 lv : Addr
 pt : Addr
 nm : Addr
 br : Addr
 am : Addr
 bx : Addr
def fl6 (g : GA) : List (Str × V) := BB "boxes" (.ref g.bx) (BB "amounts" (.ref g.am) (BB "bares" (.ref g.br) (BB "numbers" (.ref g.nm) (BB "parts" (.ref g.pt) (BB "levels" (.ref g.lv) [])))))
theorem Ei (g : GA) : (fl6 g).lookup ("levels" : Str) = some (V.ref g.lv) := by
 unfold fl6
 rw [Ay, if_neg (by decide +kernel), Ay, if_neg (by decide +kernel), Ay, if_neg (by decide +kernel), Ay, if_neg (by decide +kernel), Ay, if_neg (by decide +kernel), Ay, if_pos rfl]
theorem DQ (g : GA) : (fl6 g).lookup ("parts" : Str) = some (V.ref g.pt) := by
 unfold fl6
 rw [Ay, if_neg (by decide +kernel), Ay, if_neg (by decide +kernel), Ay, if_neg (by decide +kernel), Ay, if_neg (by decide +kernel), Ay, if_pos rfl]
theorem RX (g : GA) : (fl6 g).lookup ("numbers" : Str) = some (V.ref g.nm) := by
 unfold fl6
 rw [Ay, if_neg (by decide +kernel), Ay, if_neg (by decide +kernel), Ay, if_neg (by decide +kernel), Ay, if_pos rfl]
theorem Gh (g : GA) : (fl6 g).lookup ("bares" : Str) = some (V.ref g.br) := by
 unfold fl6
 rw [Ay, if_neg (by decide +kernel), Ay, if_neg (by decide +kernel), Ay, if_pos rfl]
theorem fl6_am (g : GA) : (fl6 g).lookup ("amounts" : Str) = some (V.ref g.am) := by
 unfold fl6
 rw [Ay, if_neg (by decide +kernel), Ay, if_pos rfl]
theorem RY (g : GA) : (fl6 g).lookup ("boxes" : Str) = some (V.ref g.bx) := by
 unfold fl6
 rw [Ay, if_pos rfl]
theorem FR (g : GA) {m : Str} (h1 : ¬ m = ("boxes" : Str)) (h2 : ¬ m = ("amounts" : Str)) (h3 : ¬ m = ("bares" : Str)) (h4 : ¬ m = ("numbers" : Str)) (h5 : ¬ m = ("parts" : Str)) (h6 : ¬ m = ("levels" : Str)) : (fl6 g).lookup m = none := by
 unfold fl6
 rw [Ay, if_neg h1, Ay, if_neg h2, Ay, if_neg h3, Ay, if_neg h4, Ay, if_neg h5, Ay, if_neg h6]
 rfl
theorem LX (g : GA) : (fl6 g).lookup ("kept" : Str) = none := FR g (by decide +kernel) (by decide +kernel) (by decide +kernel) (by decide +kernel) (by decide +kernel) (by decide +kernel)
theorem CC (g : GA) : (fl6 g).lookup ("linked" : Str) = none := FR g (by decide +kernel) (by decide +kernel) (by decide +kernel) (by decide +kernel) (by decide +kernel) (by decide +kernel)
theorem Ni (g : GA) : (fl6 g).lookup ("check_square" : Str) = none := FR g (by decide +kernel) (by decide +kernel) (by decide +kernel) (by decide +kernel) (by decide +kernel) (by decide +kernel)
theorem OT (g : GA) : (fl6 g).lookup ("leaf" : Str) = none := FR g (by decide +kernel) (by decide +kernel) (by decide +kernel) (by decide +kernel) (by decide +kernel) (by decide +kernel)
theorem EZ (g : GA) : (fl6 g).lookup ("level_of" : Str) = none := FR g (by decide +kernel) (by decide +kernel) (by decide +kernel) (by decide +kernel) (by decide +kernel) (by decide +kernel)
theorem JJ (g : GA) : (fl6 g).lookup ("solid" : Str) = none := FR g (by decide +kernel) (by decide +kernel) (by decide +kernel) (by decide +kernel) (by decide +kernel) (by decide +kernel)
def kOf (ps : List Int) : List Key := ps.map Sum.inl
theorem kOf_v (ps : List Int) : (kOf ps).map kV = ps.map V.int := by unfold kOf; rw [List.map_map]; rfl
theorem Ii : ∀ {ps qs : List Int}, kOf ps = kOf qs -> ps = qs
 | [], [], _ => rfl
 | [], _ :: _, h => by cases h
 | _ :: _, [], h => by cases h
 | x :: r, y :: t, h => by
  have h : Sum.inl x :: kOf r = (Sum.inl y : Key) :: kOf t := h
  injection h with h1 h2
  injection h1 with h1
  rw [h1, Ii h2]
def Gg : Nat -> Gv -> List (List Key × V)
 | _, [] => []
 | n, q :: r => (kOf q.parts, .int (n : Int)) :: Gg (n + 1) r
theorem NA : ∀ (G : Gv) (n : Nat), (Gg n G).length = G.length
 | [], _ => rfl
 | q :: r, n => by show (Gg (n + 1) r).length + 1 = r.length + 1; rw [NA r]
theorem Ls (q : Sq) : ∀ (G : Gv) (n : Nat), Gg n (G ++ [q]) = Gg n G ++ [(kOf q.parts, .int ((n + G.length : Nat) : Int))]
 | [], _ => rfl
 | p :: r, n => by
  show (kOf p.parts, V.int (n : Int)) :: Gg (n + 1) (r ++ [q]) = _
  rw [Ls q r (n + 1)]
  show _ = (kOf p.parts, V.int (n : Int)) :: (Gg (n + 1) r ++ [(kOf q.parts, V.int ((n + (r.length + 1) : Nat) : Int))])
  rw [show n + 1 + r.length = n + (r.length + 1) by lia]
theorem Mo (ps : List Int) : ∀ (G : Gv) (n : Nat), (∃ (i : Nat) (q : Sq), G[i]? = some q /\ q.parts = ps /\ Bv (Gg n G) (kOf ps) = some (.int ((n + i : Nat) : Int))) \/ (Bv (Gg n G) (kOf ps) = none /\ ∀ q ∈ G, q.parts ≠ ps)
 | [], n => .inr ⟨rfl, fun q hq => by simp at hq⟩
 | p :: r, n => by
  by_cases e : p.parts = ps
  ·exact .inl ⟨0, p, rfl, e, Bz (by rw [e])⟩
  ·have ne : ¬ (kOf p.parts, V.int (n : Int)).1 = kOf ps := fun z => e (Ii z)
   rcases Mo ps r (n + 1) with ⟨i, q, h1, h2, h3⟩ | ⟨h1, h2⟩
   ·refine .inl ⟨i + 1, q, h1, h2, ?_⟩
    show Bv ((kOf p.parts, V.int (n : Int)) :: Gg (n + 1) r) (kOf ps) = _
    rw [Bc ne, h3, show n + 1 + i = n + (i + 1) by lia]
   ·refine .inr ⟨?_, fun q hq => ?_⟩
    ·show Bv ((kOf p.parts, V.int (n : Int)) :: Gg (n + 1) r) (kOf ps) = _
     rw [Bc ne, h1]
    ·rcases List.mem_cons.mp hq with rfl | hq
     ·exact e
     ·exact h2 q hq
def TupAt (H : Hp) (t : Addr) (q : Sq) : Prop := H t = some (.tup (q.parts.map V.int))
structure AS (a : Ad) (H : Hp) (g : GA) (G : Gv) : Prop where
 hp : H g.p = some (.ins a.c_Grove g.dx (fl6 g))
 lv : H g.lv = some (.lst (G.map fun q => .int q.lev))
 pt : ∃ ts : List Addr, H g.pt = some (.lst (ts.map V.ref)) /\ Paired (TupAt H) ts G
 nm : H g.nm = some (.dT (Gg 0 G))
 ne : g.lv ≠ g.pt
def Fr (g : GA) (H H' : Hp) : Prop := ∀ b o, H b = some o -> b ≠ g.lv -> b ≠ g.pt -> b ≠ g.nm -> H' b = some o
theorem Fr.refl (g : GA) (H : Hp) : Fr g H H := fun _ _ e _ _ _ => e
theorem Fr.trans {g : GA} {H1 H2 H3 : Hp} (h : Fr g H1 H2) (h2 : Fr g H2 H3) : Fr g H1 H3 := fun b o e n1 n2 n3 => h2 b o (h b o e n1 n2 n3) n1 n2 n3
theorem AB.fr {g : GA} {H1 H2 : Hp} (h : AB H1 H2) : Fr g H1 H2 := fun b o e _ _ _ => h b o e
theorem PairedM.imp {α β : Type} {F G : α -> β -> Prop} (h : ∀ x y, F x y -> G x y) : ∀ {l : List α} {m : List β}, Paired F l m -> Paired G l m
 | _, _, .nil => .nil
 | _, _, .cons r t => .cons (h _ _ r) (PairedM.imp h t)
theorem PairedM.get {α β : Type} {F : α -> β -> Prop} : ∀ {l : List α} {m : List β} {i : Nat} {y : β}, Paired F l m -> m[i]? = some y -> ∃ x, l[i]? = some x /\ F x y
 | _, _, _, _, .nil, e => by simp at e
 | _, _, 0, _, .cons r _, e => by simp at e; subst e; exact ⟨_, rfl, r⟩
 | _, _, i + 1, y, .cons _ t, e => by
  obtain ⟨x, h1, h2⟩ := PairedM.get (i := i) (y := y) t (by simpa using e)
  exact ⟨x, by simpa using h1, h2⟩
theorem An {H : Hp} {p : Addr} {o : HO} (h : H p = none) : AB H (upd H p o) := fun b u e => by
 rw [Av (At e h)]
 exact e
theorem AS.same {a : Ad} {H H' : Hp} {g : GA} {G : Gv} (s : AB H H') (h : AS a H g G) : AS a H' g G := by
 obtain ⟨h1, h2, ⟨ts, h3, h4⟩, h5, h6⟩ := h
 exact ⟨s _ _ h1, s _ _ h2, ⟨ts, s _ _ h3, PairedM.imp (fun t q z => s _ _ z) h4⟩, s _ _ h5, h6⟩
theorem AS.put {a : Ad} {H : Hp} {g : GA} {G : Gv} {l : Addr} {xs : List V} {o : HO} (hl : H l = some (.lst xs)) (n1 : l ≠ g.lv) (n2 : l ≠ g.pt) (h : AS a H g G) : AS a (upd H l o) g G := by
 obtain ⟨h1, h2, ⟨ts, h3, h4⟩, h5, h6⟩ := h
 have other : ∀ {b v}, H b = some v -> v ≠ .lst xs -> upd H l o b = some v := fun {b v} e n => by rw [Av (Bn e hl n)]; exact e
 exact ⟨other h1 (by intro z; cases z), by rw [Av (Ne.symm n1)]; exact h2, ⟨ts, by rw [Av (Ne.symm n2)]; exact h3, PairedM.imp (fun t q z => other z (by intro z; cases z)) h4⟩, other h5 (by intro z; cases z), h6⟩
def Ao (G : Gv) (x : Nat) (l : Int) : Prop := ∃ q, G[x]? = some q /\ q.lev = l
structure GOk (G : Gv) : Prop where
 leaf : ∀ s : Nat, s < 8 -> G[s]? = some ⟨[(s : Int)], 0⟩
 node : ∀ (i : Nat) q, G[i]? = some q -> 8 <= i -> ∃ x y z w : Nat, q.parts = [(x : Int), (y : Int), (z : Int), (w : Int)] /\ (Ao G x (q.lev - 1) /\ Ao G y (q.lev - 1) /\ Ao G z (q.lev - 1) /\ Ao G w (q.lev - 1)) /\ 1 <= q.lev /\ q.lev <= 48
 nd : (G.map Sq.parts).Nodup
theorem Ao.lt {G : Gv} {x : Nat} {l : Int} (h : Ao G x l) : x < G.length := by
 obtain ⟨q, h, _⟩ := h
 exact (List.getElem?_eq_some_iff.mp h).1
theorem Jl {G r : Gv} {x : Nat} {q : Sq} (h : G[x]? = some q) : (G ++ r)[x]? = some q := by
 rw [List.getElem?_append_left (List.getElem?_eq_some_iff.mp h).1]
 exact h
theorem Ao.app {G r : Gv} {x : Nat} {l : Int} (h : Ao G x l) : Ao (G ++ r) x l := by
 obtain ⟨q, h, e⟩ := h
 exact ⟨q, Jl h, e⟩
theorem GOk.lev {G : Gv} (h : GOk G) {i : Nat} {q : Sq} (e : G[i]? = some q) : 0 <= q.lev /\ q.lev <= 48 := by
 by_cases h8 : i < 8
 ·rw [h.leaf i h8] at e
  cases e
  exact ⟨Int.le_refl 0, by show (0 : Int) <= 48; decide⟩
 ·obtain ⟨x, y, z, w, _, _, h1, h2⟩ := h.node i q e (by lia)
  exact ⟨by lia, h2⟩
theorem GOk.snoc {G : Gv} (h : GOk G) {x y z w : Nat} {l : Int} (hx : Ao G x l) (hy : Ao G y l) (hz : Ao G z l) (hw : Ao G w l) (h47 : l <= 47) (new : ∀ q ∈ G, q.parts ≠ [(x : Int), (y : Int), (z : Int), (w : Int)]) : GOk (G ++ [⟨[(x : Int), (y : Int), (z : Int), (w : Int)], l + 1⟩]) where
 leaf := fun s hs => Jl (h.leaf s hs)
 node := fun i q e hi => by
  by_cases hl : i < G.length
  ·rw [List.getElem?_append_left hl] at e
   obtain ⟨x, y, z, w, h1, ⟨a1, a2, a3, a4⟩, h3⟩ := h.node i q e hi
   exact ⟨x, y, z, w, h1, ⟨a1.app, a2.app, a3.app, a4.app⟩, h3⟩
  ·rw [List.getElem?_append_right (by lia)] at e
   have : i - G.length = 0 := by
    by_cases z : i - G.length = 0
    ·exact z
    ·rw [List.getElem?_eq_none (by rw [List.length_singleton]; lia)] at e; cases e
   rw [this] at e
   cases e
   obtain ⟨q0, e0, l0⟩ := hx
   have := (h.lev e0).1
   have el : l + 1 - 1 = l := by lia
   refine ⟨x, y, z, w, rfl, ?_, ?_, ?_⟩
   ·show Ao _ x (l + 1 - 1) /\ Ao _ y (l + 1 - 1) /\ Ao _ z (l + 1 - 1) /\ Ao _ w (l + 1 - 1)
    rw [el]
    exact ⟨Ao.app ⟨q0, e0, l0⟩, hy.app, hz.app, hw.app⟩
   ·show 1 <= l + 1; lia
   ·show l + 1 <= 48; lia
 nd := by
  rw [List.map_append, List.nodup_append]
  refine ⟨h.nd, by simp, fun p hp p' hp' => ?_⟩
  obtain ⟨q, hq, rfl⟩ := List.mem_map.mp hp
  rw [show p' = [(x : Int), (y : Int), (z : Int), (w : Int)] by simpa using hp']
  exact new q hq
theorem GOk.one {G : Gv} (h : GOk G) {i j : Nat} {p q : Sq} (hi : G[i]? = some p) (hj : G[j]? = some q) (e : p.parts = q.parts) : i = j := by
 have li := (List.getElem?_eq_some_iff.mp hi).1
 have lj := (List.getElem?_eq_some_iff.mp hj).1
 have h1 : (G.map Sq.parts)[i]'(by rw [List.length_map]; exact li) = (G.map Sq.parts)[j]'(by rw [List.length_map]; exact lj) := by
  rw [List.getElem_map, List.getElem_map, (List.getElem?_eq_some_iff.mp hi).2, (List.getElem?_eq_some_iff.mp hj).2, e]
 exact (List.getElem_inj h.nd).mp h1
end J
namespace J
open PySem L2
seal L2.PA L2.PE L2.PS L2.PSs L2.PT L2.PW
theorem EC {n : Nat} (h : n < 10000000) : n < sizeLine := Nat.lt_of_lt_of_le h (by decide)
theorem OZ (K : PySem.W.Frag) : PySem.W.kitOne K (.type "int") (.type "int") = some true /\ PySem.W.kitOne K (.type "int") (.type "bool") = some false := ⟨by kernel_rfl, by kernel_rfl⟩
section
variable {P : Program} {w : World} {K : PySem.W.Frag} {mg : Str -> Option Value} {base : Heap} {a : Ad}
inductive SpIW (vs : List V) (H : Hp) (Q : VK) : Prop
 | mk (i : Int) (_ : vs = [.int i]) (_ : Q (.bl true) H) : SpIW vs H Q
def QL : Sp := fun vs H Q _ => SpIW vs H Q
theorem ok_iw {f : Addr} {fd : FuncData} (F : Fun K "is_whole" "is_whole" DZ f fd) (T : Top K mg a) : AY P w K mg base CX0 1 f fd Dl QL := by
 refine F.ok MS (fun vs H Q E h => ?_) (fun cdv A outer s H vs Q E hr h => ?_)
 ·obtain ⟨i, rfl, _⟩ := h
  rfl
 ·obtain ⟨i, rfl, k⟩ := h
  exact ⟨_, (Aj (Aw (GK (AN Gk rfl T.b_isinstance PyProof.Rows.boot_isinstance (Aa (pv 0) (Aa (Ia (v := .ty "int") rfl T.b_int PyProof.Rows.boot_int rfl) Ae))) (JC (pe_not (AN Gk rfl T.b_isinstance PyProof.Rows.boot_isinstance (Aa (pv 0) (Aa (Ia (v := .ty "bool") rfl T.b_bool PyProof.Rows.boot_bool rfl) Ae)))))))), _, rfl, _, _, _, .type "int", true, rfl, rfl, .of (.int i), (OZ K).1, true, rfl, Da ⟨_, rfl, _, _, _, .type "int", false, rfl, rfl, .of (.int i), (OZ K).2, false, rfl, k⟩⟩
inductive SpIS (vs : List V) (H : Hp) (Q : VK) : Prop
 | mk (i : Int) (_ : vs = [.int i]) (_ : 0 <= i) (_ : i < 8) (_ : Q (.bl true) H) : SpIS vs H Q
def QM : Sp := fun vs H Q _ => SpIS vs H Q
theorem ok_is {f : Addr} {fd : FuncData} (F : Fun K "is_state" "is_state" Ea f fd) (T : Top K mg a) (C_is_whole : Cal P w K mg base CX0 1 "is_whole" Dl QL) : AY P w K mg base CX0 2 f fd Dm QM := by
 refine F.ok MT (fun vs H Q E h => ?_) (fun cdv A outer s H vs Q E hr h => ?_)
 ·obtain ⟨i, rfl, _⟩ := h
  rfl
 ·obtain ⟨i, rfl, h0, h1, k⟩ := h
  refine ⟨_, (Aj (Aw (GK (As C_is_whole (rm hr) rfl Ar (Aa (pv 0) Ae)) (JC (Re IH JH Ac (pv 0) (Df rfl T.k_STATES)))))), ?_⟩
  try dsimp only [cxK]
  refine ⟨_, rfl, i, rfl, true, rfl, Da ⟨_, rfl, _, _, rfl, rfl, _, rfl, ?_⟩⟩
  rw [decide_eq_true h0]
  refine Da ⟨_, _, rfl, rfl, ?_⟩
  show Q (.bl (decide (i < 8))) H
  rw [decide_eq_true h1]
  exact k
inductive Sv (a : Ad) (vs : List V) (H : Hp) (Q : VK) : Prop
 | mk (g : GA) (G : Gv) (t : Addr) (ps : List Int) (l : Int) (_ : vs = [.ref g.p, .ref t, .int l]) (_ : AS a H g G) (_ : H t = some (.tup (ps.map V.int))) (_ : (∀ q ∈ G, q.parts ≠ ps)) (_ : G.length < 9000000) (_ : ∀ H', Fr g H H' -> AS a H' g (G ++ [⟨ps, l⟩]) -> Q (.int (G.length : Int)) H') : Sv a vs H Q
def LN (a : Ad) : Sp := fun vs H Q _ => Sv a vs H Q
theorem ok_kept {f : Addr} {fd : FuncData} (F : Fun K "kept" "Grove.kept" CT f fd) (T : Top K mg a) : AY P w K mg base CX0 1 f fd CY (LN a) := by
 refine F.ok GH (fun vs H Q E h => ?_) (fun cdv A outer s H vs Q E hr h => ?_)
 ·obtain ⟨g, G, t, ps, l, rfl, _⟩ := h
  rfl
 ·obtain ⟨g, G, t, ps, l, rfl, hg, ht, new, few, k⟩ := h
  obtain ⟨h1, h2, ⟨ts, h3, h4⟩, h5, h6⟩ := hg
  have lt : ts.length = G.length := Paired.length h4
  refine ⟨_, (Ab (Al (i := 3) GH.nd rfl (Or.inl rfl) (AN DR rfl T.b_len PySem.boot_len (Aa (AQ (pv 0) rfl) Ae))) (Ab (FP (FW hr) (AQ (pv 0) rfl) (pv 1) (pv 3) rfl) (Ab (DI (JE PySem.F.plainAttrs_list PySem.F.slot_list_append PySem.F.type_list_append Eh (AQ (pv 0) rfl) (Aa (pv 2) Ae))) (Ab (DI (JE PySem.F.plainAttrs_list PySem.F.slot_list_append PySem.F.type_list_append Eh (AQ (pv 0) rfl) (Aa (pv 1) Ae))) (Aj (Aw (pv 3))))))), ?_⟩
  try dsimp only [cxK]
  refine ⟨_, rfl, g.p, _, g.dx, _, _, rfl, h1, T.cl_Grove, T.na_Grove_levels, Ei g, g.lv, _, rfl, .inl (SqL.of h2), ?_⟩
  rw [List.length_map]
  have ne1 : g.p ≠ g.nm := Bn h1 h5 (by intro z; cases z)
  have ne2 : g.lv ≠ g.nm := Bn h2 h5 (by intro z; cases z)
  have ne3 : g.pt ≠ g.nm := Bn h3 h5 (by intro z; cases z)
  have ne4 : g.p ≠ g.lv := Bn h1 h2 (by intro z; cases z)
  have ne5 : g.p ≠ g.pt := Bn h1 h3 (by intro z; cases z)
  have vn : Bv (Gg 0 G) (kOf ps) = none := by
   rcases Mo ps G 0 with ⟨i, q, e1, e2, _⟩ | ⟨e, _⟩
   ·exact absurd e2 (new q (List.mem_of_getElem? e1))
   ·exact e
  refine ⟨_, rfl, _, rfl, g.p, _, g.dx, _, _, rfl, h1, T.cl_Grove, T.na_Grove_numbers, RX g, _, rfl, g.nm, _, rfl, IW.t (k := kOf ps) h5 (by rw [kOf_v]; exact ht) (by rw [NA]; exact EC (by lia)), ?_⟩
  rw [Gb _ vn]
  have e5 : Gg 0 G ++ [(kOf ps, V.int (G.length : Int))] = Gg 0 (G ++ [⟨ps, l⟩]) := by rw [Ls, Nat.zero_add]
  rw [e5]
  generalize hH1 : upd H g.nm (.dT (Gg 0 (G ++ [⟨ps, l⟩]))) = H1
  have k1 : ∀ b o, H b = some o -> b ≠ g.nm -> H1 b = some o := fun b o e n => by rw [<- hH1, Av n]; exact e
  have n1 : H1 g.nm = some (.dT (Gg 0 (G ++ [⟨ps, l⟩]))) := by rw [<- hH1]; exact Ai
  refine ⟨_, rfl, g.p, _, g.dx, _, _, rfl, k1 _ _ h1 ne1, T.cl_Grove, T.na_Grove_levels, Ei g, .inl ⟨rfl, _, SqL.of (k1 _ _ h2 ne2)⟩, _, rfl, g.lv, _, _, rfl, rfl, k1 _ _ h2 ne2, by rw [List.length_map]; exact EC (by lia), ?_⟩
  generalize hH2 : upd H1 g.lv (.lst ((G.map fun q => V.int q.lev) ++ [.int l])) = H2
  have k2 : ∀ b o, H1 b = some o -> b ≠ g.lv -> H2 b = some o := fun b o e n => by rw [<- hH2, Av n]; exact e
  have n2 : H2 g.lv = some (.lst ((G ++ [(⟨ps, l⟩ : Sq)]).map fun q => V.int q.lev)) := by rw [<- hH2, Ai, List.map_append]; rfl
  have h3' := k2 _ _ (k1 _ _ h3 ne3) (Ne.symm h6)
  refine ⟨_, rfl, g.p, _, g.dx, _, _, rfl, k2 _ _ (k1 _ _ h1 ne1) ne4, T.cl_Grove, T.na_Grove_parts, DQ g, .inl ⟨rfl, _, SqL.of h3'⟩, _, rfl, g.pt, _, _, rfl, rfl, h3', by rw [List.length_map, lt]; exact EC (by lia), ?_⟩
  generalize hH3 : upd H2 g.pt (.lst (ts.map V.ref ++ [.ref t])) = H3
  have k3 : ∀ b o, H2 b = some o -> b ≠ g.pt -> H3 b = some o := fun b o e n => by rw [<- hH3, Av n]; exact e
  have n3 : H3 g.pt = some (.lst ((ts ++ [t]).map V.ref)) := by rw [<- hH3, Ai, List.map_append]; rfl
  have fr : Fr g H H3 := fun b o e m1 m2 m3 => k3 _ _ (k2 _ _ (k1 _ _ e m3) m1) m2
  have tp : ∀ (c : Addr) (xs : List V), H c = some (.tup xs) -> H3 c = some (.tup xs) := fun c xs e => fr _ _ e (Bn e h2 (by intro z; cases z)) (Bn e h3 (by intro z; cases z)) (Bn e h5 (by intro z; cases z))
  refine ⟨_, rfl, k H3 fr ⟨fr _ _ h1 ne4 ne5 ne1, k3 _ _ n2 h6, ⟨ts ++ [t], n3, Paired.snoc (PairedM.imp (fun c q z => tp c _ z) h4) (tp t _ ht)⟩, k3 _ _ (k2 _ _ n1 (Ne.symm ne2)) (Ne.symm ne3), h6⟩⟩
structure AG (G G' : Gv) (n : Nat) : Prop where
 ok : GOk G'
 pre : ∃ r, G' = G ++ r
 few : G'.length <= G.length + n
theorem AG.refl {G : Gv} (h : GOk G) : AG G G 0 := ⟨h, ⟨[], by simp⟩, Nat.le_refl _⟩
theorem AG.trans {G G' G'' : Gv} {n m : Nat} (h : AG G G' n) (h2 : AG G' G'' m) : AG G G'' (n + m) := by
 obtain ⟨r, e⟩ := h.pre
 obtain ⟨t, e2⟩ := h2.pre
 have f1 := h.few
 have f2 := h2.few
 exact ⟨h2.ok, ⟨r ++ t, by rw [e2, e, List.append_assoc]⟩, by lia⟩
theorem AG.get {G G' : Gv} {n x : Nat} {q : Sq} (h : AG G G' n) (e : G[x]? = some q) : G'[x]? = some q := by
 obtain ⟨r, e2⟩ := h.pre
 rw [e2]
 exact Jl e
theorem AG.lev {G G' : Gv} {n x : Nat} {l : Int} (h : AG G G' n) (e : Ao G x l) : Ao G' x l := by
 obtain ⟨q, e, z⟩ := e
 exact ⟨q, h.get e, z⟩
inductive Sr (a : Ad) (vs : List V) (H : Hp) (Q : VK) : Prop
 | mk (g : GA) (G : Gv) (t : Addr) (x y z w : Nat) (l : Int) (_ : vs = [.ref g.p, .ref t]) (_ : AS a H g G) (_ : GOk G) (_ : H t = some (.tup [.int x, .int y, .int z, .int w])) (_ : (Ao G x l /\ Ao G y l /\ Ao G z l /\ Ao G w l)) (_ : l <= 47) (_ : G.length < 9000000) (_ : ∀ (n : Nat) (G' : Gv) (H' : Hp), Fr g H H' -> AS a H' g G' -> AG G G' 1 -> G'[n]? = some ⟨[(x : Int), (y : Int), (z : Int), (w : Int)], l + 1⟩ -> Q (.int n) H') : Sr a vs H Q
def Fj (a : Ad) : Sp := fun vs H Q _ => Sr a vs H Q
theorem ok_link {f : Addr} {fd : FuncData} (F : Fun K "linked" "Grove.linked" Ci f fd) (T : Top K mg a) (M_Grove_kept : CM P w K mg base CX0 1 a.c_Grove "kept" CY (LN a)) : AY P w K mg base CX0 2 f fd AT (Fj a) := by
 refine F.ok FV (fun vs H Q E h => ?_) (fun cdv A outer s H vs Q E hr h => ?_)
 ·obtain ⟨g, G, t, x, y, z, w, l, rfl, _⟩ := h
  rfl
 ·obtain ⟨g, G, t, x, y, z, w, l, rfl, hg, ok, ht, ⟨hx, hy, hz, hw⟩, h47, few, k⟩ := h
  have hg0 := hg
  obtain ⟨h1, h2, ⟨ts, h3, h4⟩, h5, h6⟩ := hg
  refine ⟨_, (Ab (Al (i := 2) FV.nd rfl (Or.inl rfl) (JD (FW hr) (AQ (pv 0) rfl) (pv 1) ⟨rfl, rfl, rfl, rfl⟩)) (Ab (Bh (AL GM (pv 2) Fl (AM _)) (Aj (Aw (AU (pv 0) M_Grove_kept (rm hr) Ar (Aa (pv 1) (Bk AI (Ak AC (AQ (pv 0) rfl) (Ak Am (pv 1) Ac (fun _ _ => rfl)) (fun _ _ => rfl)) Ac Ae))))) AD) (Aj (Aw (pv 2))))), ?_⟩
  try dsimp only [cxK]
  refine ⟨_, rfl, g.p, _, g.dx, _, _, rfl, h1, T.cl_Grove, T.na_Grove_numbers, RX g, g.nm, rfl, .inr ⟨_, .inl h5⟩, _, rfl, _, IZ.t (k := kOf [(x : Int), (y : Int), (z : Int), (w : Int)]) h5 (by rw [kOf_v]; exact ht), ?_⟩
  rcases Mo [(x : Int), (y : Int), (z : Int), (w : Int)] G 0 with ⟨i, q, e1, e2, e3⟩ | ⟨e, new⟩
  ·rw [e3]
   refine ⟨_, rfl, rfl, _, rfl, BC ⟨_, rfl, ?_⟩⟩
   rw [Nat.zero_add]
   refine k i G H (Fr.refl g H) hg0 ⟨ok, ⟨[], by simp⟩, by lia⟩ ?_
   have h8 : 8 <= i := by
    refine Nat.le_of_not_lt fun z' => ?_
    rw [ok.leaf i z'] at e1
    cases e1
    cases e2
   obtain ⟨x', y', z', w', p1, ⟨lx, _⟩, _⟩ := ok.node i q e1 h8
   have exx : x' = x := by
    rw [p1] at e2
    injection e2 with e2 _
    exact Int.ofNat.inj e2
   rw [exx] at lx
   obtain ⟨qa, a1, a2⟩ := lx
   obtain ⟨qb, b1, b2⟩ := hx
   rw [a1] at b1
   cases b1
   have el : q.lev = l + 1 := by lia
   rw [e1]
   cases q with
   | mk pp ll => cases e2; cases el; rfl
  ·rw [e]
   refine ⟨_, rfl, rfl, _, rfl, Da ?_⟩
   obtain ⟨q, e1, e2⟩ := id hx
   refine ⟨_, rfl, g.p, g.dx, _, rfl, h1, LX g, _, rfl, _, rfl, g.p, _, g.dx, _, _, rfl, h1, T.cl_Grove, T.na_Grove_levels, Ei g, _, rfl, t, _, 0, .int x, rfl, rfl, SqT.of ht, Af (j := 0) rfl, g.lv, _, (x : Int), .int q.lev, rfl, rfl, SqL.of h2, Af (by rw [List.getElem?_map, e1]; rfl), _, _, rfl, rfl, ?_⟩
   refine ⟨g, G, t, [(x : Int), (y : Int), (z : Int), (w : Int)], l + 1, by rw [<- e2]; rfl, hg0, ht, new, few, fun H' fr hg' => ?_⟩
   refine k G.length _ H' fr hg' ⟨ok.snoc hx hy hz hw h47 new, ⟨_, rfl⟩, by rw [List.length_append]; exact Nat.le_refl _⟩ ?_
   rw [List.getElem?_append_right (Nat.le_refl _), Nat.sub_self]
   rfl
inductive SpChk (a : Ad) (vs : List V) (H : Hp) (Q : VK) : Prop
 | mk (g : GA) (G : Gv) (i : Nat) (_ : vs = [.ref g.p, .int i]) (_ : AS a H g G) (_ : i < G.length) (_ : Q .non H) : SpChk a vs H Q
def OM (a : Ad) : Sp := fun vs H Q _ => SpChk a vs H Q
theorem ok_chk {f : Addr} {fd : FuncData} (F : Fun K "check_square" "Grove.check_square" Be f fd) (T : Top K mg a) (C_is_whole : Cal P w K mg base CX0 1 "is_whole" Dl QL) : AY P w K mg base CX0 2 f fd Bf (OM a) := by
 refine F.ok FX (fun vs H Q E h => ?_) (fun cdv A outer s H vs Q E hr h => ?_)
 ·obtain ⟨g, G, i, rfl, _⟩ := h
  rfl
 ·obtain ⟨g, G, i, rfl, hg, hi, k⟩ := h
  refine ⟨_, (Aj (Bh (PW.pt (IG (CD (Cs (As C_is_whole (rm hr) rfl Ar (Aa (pv 1) Ae)))) (Ga (CD (MY IH JH Ac (pv 1) (AN DR rfl T.b_len PySem.boot_len (Aa (AQ (pv 0) rfl) Ae))))))) (Aj CJ) AD)), ?_⟩
  try dsimp only [cxK]
  refine ⟨_, rfl, _, rfl, true, rfl, BC ⟨_, rfl, _, _, rfl, rfl, _, rfl, ?_⟩⟩
  rw [decide_eq_true (by lia : (0 : Int) <= (i : Int))]
  refine Da ⟨_, rfl, g.p, _, g.dx, _, _, rfl, hg.hp, T.cl_Grove, T.na_Grove_levels, Ei g, g.lv, _, rfl, .inl (SqL.of hg.lv), _, _, rfl, rfl, _, rfl, ?_⟩
  rw [List.length_map, decide_eq_true (by lia : (i : Int) < (G.length : Int))]
  exact BC k
inductive Ss (a : Ad) (vs : List V) (H : Hp) (Q : VK) : Prop
 | mk (p : Addr) (i : Int) (_ : vs = [.ref p, .int i]) (_ : 0 <= i) (_ : i < 8) (_ : Q (.int i) H) : Ss a vs H Q
def LM (a : Ad) : Sp := fun vs H Q _ => Ss a vs H Q
theorem ok_leaf {f : Addr} {fd : FuncData} (F : Fun K "leaf" "Grove.leaf" CS f fd) (T : Top K mg a) (C_is_state : Cal P w K mg base CX0 2 "is_state" Dm QM) : AY P w K mg base CX0 3 f fd CW (LM a) := by
 refine F.ok Lb (fun vs H Q E h => ?_) (fun cdv A outer s H vs Q E hr h => ?_)
 ·obtain ⟨g, i, rfl, _⟩ := h
  rfl
 ·obtain ⟨g, i, rfl, h0, h1, k⟩ := h
  exact ⟨_, (Ab (Bh (CD (Cs (As C_is_state (rm hr) rfl Ar (Aa (pv 1) Ae)))) (Aj CJ) AD) (Aj (Aw (pv 1)))), _, rfl, i, rfl, h0, h1, true, rfl, BC ⟨_, rfl, k⟩⟩
inductive SpLev (a : Ad) (vs : List V) (H : Hp) (Q : VK) : Prop
 | mk (g : GA) (G : Gv) (i : Nat) (q : Sq) (_ : vs = [.ref g.p, .int i]) (_ : AS a H g G) (_ : G[i]? = some q) (_ : Q (.int q.lev) H) : SpLev a vs H Q
def Jv (a : Ad) : Sp := fun vs H Q _ => SpLev a vs H Q
theorem ok_lev {f : Addr} {fd : FuncData} (F : Fun K "level_of" "Grove.level_of" BP f fd) (T : Top K mg a) (M_Grove_check_square : CM P w K mg base CX0 2 a.c_Grove "check_square" Bf (OM a)) : AY P w K mg base CX0 3 f fd AW (Jv a) := by
 refine F.ok GU (fun vs H Q E h => ?_) (fun cdv A outer s H vs Q E hr h => ?_)
 ·obtain ⟨g, G, i, q, rfl, _⟩ := h
  rfl
 ·obtain ⟨g, G, i, q, rfl, hg, hi, k⟩ := h
  refine ⟨_, (Ab (DI (AU (pv 0) M_Grove_check_square (rm hr) Ar (Aa (pv 1) Ae))) (Aj (Aw (Ak AC (AQ (pv 0) rfl) (pv 1) (fun _ _ => rfl))))), ?_⟩
  try dsimp only [cxK]
  refine ⟨_, rfl, g.p, g.dx, _, rfl, hg.hp, Ni g, _, rfl, g, G, i, rfl, hg, (List.getElem?_eq_some_iff.mp hi).1, ?_⟩
  exact ⟨_, rfl, g.p, _, g.dx, _, _, rfl, hg.hp, T.cl_Grove, T.na_Grove_levels, Ei g, _, rfl, g.lv, _, (i : Int), .int q.lev, rfl, rfl, SqL.of hg.lv, Af (by rw [List.getElem?_map, hi]; rfl), k⟩
end
end J
namespace J
open PySem L2
seal L2.PA L2.PE L2.PS L2.PSs L2.PT L2.PW
def Sol (G : Gv) (s : Nat) : Nat -> Nat -> Prop
 | 0, n => n = s
 | l + 1, n => ∃ m : Nat, Sol G s l m /\ G[n]? = some ⟨[(m : Int), (m : Int), (m : Int), (m : Int)], (l : Int) + 1⟩
theorem Sol.lev {G : Gv} (h : GOk G) {s : Nat} (hs : s < 8) : ∀ {l n : Nat}, Sol G s l n -> Ao G n l
 | 0, n, e => by
  have e : n = s := e
  subst e
  exact ⟨_, h.leaf n hs, rfl⟩
 | l + 1, n, e => by
  obtain ⟨m, _, e⟩ := e
  exact ⟨_, e, rfl⟩
theorem Sol.goes {G G' : Gv} {k : Nat} (h : AG G G' k) {s : Nat} : ∀ {l n : Nat}, Sol G s l n -> Sol G' s l n
 | 0, n, e => e
 | l + 1, n, e => by
  obtain ⟨m, e1, e2⟩ := e
  exact ⟨m, Sol.goes h e1, h.get e2⟩
section
variable {P : Program} {w : World} {K : PySem.W.Frag} {mg : Str -> Option Value} {base : Heap} {a : Ad}
inductive Pq (a : Ad) (vs : List V) (H : Hp) (Q : VK) : Prop
 | mk (g : GA) (G : Gv) (l s : Nat) (_ : vs = [.ref g.p, .int l, .int s]) (_ : AS a H g G) (_ : GOk G) (_ : l <= 48) (_ : s < 8) (_ : G.length < 8000000) (_ : ∀ (n : Nat) (G' : Gv) (H' : Hp), Fr g H H' -> AS a H' g G' -> AG G G' l -> Sol G' s l n -> Q (.int n) H') : Pq a vs H Q
def GR (a : Ad) : Sp := fun vs H Q _ => Pq a vs H Q
theorem Rh {f : Addr} {fd : FuncData} (F : Fun K "solid" "Grove.solid" CB f fd) (T : Top K mg a) (C_is_whole : Cal P w K mg base CX0 1 "is_whole" Dl QL) (M_Grove_leaf : CM P w K mg base CX0 3 a.c_Grove "leaf" CW (LM a)) (M_Grove_linked : CM P w K mg base CX0 2 a.c_Grove "linked" AT (Fj a)) : AY P w K mg base CX0 4 f fd Cd (GR a) := by
 refine F.ok DF (fun vs H Q E h => ?_) (fun cdv A outer s H vs Q E hr h => ?_)
 ·obtain ⟨g, G, l, s, rfl, _⟩ := h
  rfl
 ·obtain ⟨g, G, l, st, rfl, hg, ok, h48, h8, few, k⟩ := h
  refine ⟨_, (Ab (Bh (PW.pt (IG (CD (Cs (As C_is_whole (rm hr) rfl Ar (Aa (pv 1) Ae)))) (Ga (CD (MY IH IH Ac (pv 1) (Df rfl T.k_TOP_LEVEL)))))) (Aj CJ) AD) (Ab (Al (i := 3) DF.nd rfl (Or.inl rfl) (AU (pv 0) M_Grove_leaf (rm hr) Ar (Aa (pv 2) Ae))) (Ab (Dj PassesOwn.never rfl (Ed rfl T.b_range (Aa (pv 1) Ae)) (BG (i := 4) DF.nd rfl (Or.inl rfl)) (Aj (Al (i := 3) DF.nd rfl (Or.inl rfl) (AU (pv 0) M_Grove_linked (rm hr) Ar (BV (Aa (pv 3) (Aa (pv 3) (Aa (pv 3) (Aa (pv 3) Ae)))) Ae))))) (Aj (Aw (pv 3)))))), ?_⟩
  try dsimp only [cxK]
  refine ⟨_, rfl, _, rfl, true, rfl, BC ⟨_, rfl, _, _, rfl, rfl, _, rfl, ?_⟩⟩
  rw [decide_eq_true (by lia : (0 : Int) <= (l : Int))]
  refine Da ⟨_, _, rfl, rfl, _, rfl, ?_⟩
  rw [decide_eq_true (by lia : (l : Int) <= (48 : Int))]
  refine BC ⟨_, rfl, g.p, g.dx, _, rfl, hg.hp, OT g, _, rfl, g.p, (st : Int), rfl, by lia, by lia, ?_⟩
  refine ⟨_, rfl, _, rfl, by lia, by lia, ?_⟩
  rw [Int.toNat_natCast]
  refine Dx (n := l) (fun i σ H2 => ∃ (G' : Gv) (m : Nat) (u4 : Option V), σ = [some (.ref g.p), some (.int l), some (.int st), some (.int m), u4] /\ Fr g H H2 /\ AS a H2 g G' /\ AG G G' i /\ Sol G' st i m) ⟨G, st, none, rfl, Fr.refl g H, hg, AG.refl ok, rfl⟩ ?_ ?_
  ·rintro i σ H2 hi ⟨G', m, u4, rfl, fr, hg2, go, so⟩
   have lf := go.few
   have lm := Sol.lev go.ok h8 so
   refine ⟨_, rfl, g.p, g.dx, _, rfl, hg2.hp, CC g, _, rfl, _, rfl, _, rfl, _, rfl, (by show 4 <= sizeLine; decide), fun t ht => ?_⟩
   have s3 := An (o := .tup [.int m, .int m, .int m, .int m]) ht
   refine ⟨g, G', t, m, m, m, m, (i : Int), rfl, hg2.same s3, go.ok, Ai, ⟨lm, lm, lm, lm⟩, by lia, by lia, fun n G'' H' fr' hg' go' e => ?_⟩
   exact ⟨G'', n, _, rfl, (fr.trans (AB.fr s3)).trans fr', hg', go.trans go', m, Sol.goes go' so, e⟩
  ·rintro σ H2 ⟨G', m, u4, rfl, fr, hg2, go, so⟩
   exact ⟨_, rfl, k m G' H2 fr hg2 go so⟩
end
end J
namespace J
open PySem L2
def bareN : Nat -> Nat
 | 0 => 0
 | j + 1 => 8 + j
def Dw (n : Nat) : Gv := (List.range n).map fun (s : Nat) => (⟨[(s : Int)], 0⟩ : Sq)
def Fb (n : Nat) : Gv := (List.range n).map fun (j : Nat) => (⟨[(bareN j : Int), (bareN j : Int), (bareN j : Int), (bareN j : Int)], (j : Int) + 1⟩ : Sq)
def G0 : Gv := Dw 8 ++ Fb 48
theorem Oo (n : Nat) : Dw (n + 1) = Dw n ++ [⟨[(n : Int)], 0⟩] := by unfold Dw; rw [List.range_succ, List.map_append]; rfl
theorem JW (n : Nat) : Fb (n + 1) = Fb n ++ [⟨[(bareN n : Int), (bareN n : Int), (bareN n : Int), (bareN n : Int)], (n : Int) + 1⟩] := by unfold Fb; rw [List.range_succ, List.map_append]; rfl
theorem EN (n : Nat) : (Dw n).length = n := by unfold Dw; rw [List.length_map, List.length_range]
theorem LJ (n : Nat) : (Fb n).length = n := by unfold Fb; rw [List.length_map, List.length_range]
theorem Qv {i j : Nat} (h : bareN i = bareN j) : i = j := by
 cases i <;> cases j
 ·rfl
 ·have : 0 = 8 + _ := h; lia
 ·have : 8 + _ = 0 := h; lia
 ·have : 8 + _ = 8 + _ := h; lia
theorem Qd (n : Nat) : ∀ q ∈ Dw n, q.parts ≠ [(n : Int)] := fun q hq z => by
 obtain ⟨s, hs, rfl⟩ := List.mem_map.mp hq
 have := List.mem_range.mp hs
 injection z with z _
 have : s = n := Int.ofNat.inj z
 lia
theorem LI (n : Nat) : ∀ q ∈ Dw 8 ++ Fb n, q.parts ≠ [(bareN n : Int), (bareN n : Int), (bareN n : Int), (bareN n : Int)] := fun q hq z => by
 rcases List.mem_append.mp hq with hq | hq
 ·obtain ⟨s, hs, rfl⟩ := List.mem_map.mp hq
  cases z
 ·obtain ⟨s, hs, rfl⟩ := List.mem_map.mp hq
  have := List.mem_range.mp hs
  injection z with z _
  have := Qv (Int.ofNat.inj z)
  lia
theorem Mw : G0.length = 56 := by unfold G0; rw [List.length_append, EN, LJ]
theorem Mz (j : Nat) (h : j < 48) : G0[8 + j]? = some ⟨[(bareN j : Int), (bareN j : Int), (bareN j : Int), (bareN j : Int)], (j : Int) + 1⟩ := by
 unfold G0
 rw [List.getElem?_append_right (by rw [EN]; lia), EN, show 8 + j - 8 = j by lia]
 unfold Fb
 rw [List.getElem?_map, List.getElem?_range h]
 rfl
theorem Mx (s : Nat) (h : s < 8) : G0[s]? = some ⟨[(s : Int)], 0⟩ := by
 unfold G0
 rw [List.getElem?_append_left (by rw [EN]; exact h)]
 unfold Dw
 rw [List.getElem?_map, List.getElem?_range h]
 rfl
theorem RT (j : Nat) (h : j <= 48) : Ao G0 (bareN j) (j : Int) := by
 cases j with
 | zero => exact ⟨_, Mx 0 (by decide), rfl⟩
 | succ j => exact ⟨_, Mz j (by lia), rfl⟩
theorem g0_nd : ∀ n, ((Dw 8 ++ Fb n).map Sq.parts).Nodup
 | 0 => by decide
 | n + 1 => by
  rw [JW, <- List.append_assoc, List.map_append, List.nodup_append]
  refine ⟨g0_nd n, by simp, fun p hp p' hp' => ?_⟩
  obtain ⟨q, hq, rfl⟩ := List.mem_map.mp hp
  rw [show p' = [(bareN n : Int), (bareN n : Int), (bareN n : Int), (bareN n : Int)] by simpa using hp']
  exact LI n q hq
theorem g0_ok : GOk G0 where
 leaf := Mx
 node := fun i q e h8 => by
  have hi : i < 56 := by rw [<- Mw]; exact (List.getElem?_eq_some_iff.mp e).1
  obtain ⟨j, rfl⟩ : ∃ j, i = 8 + j := ⟨i - 8, by lia⟩
  rw [Mz j (by lia)] at e
  cases e
  have := RT j (by lia)
  refine ⟨bareN j, bareN j, bareN j, bareN j, rfl, ?_, ?_, ?_⟩
  ·show Ao G0 _ ((j : Int) + 1 - 1) /\ Ao G0 _ ((j : Int) + 1 - 1) /\ Ao G0 _ ((j : Int) + 1 - 1) /\ Ao G0 _ ((j : Int) + 1 - 1)
   rw [show (j : Int) + 1 - 1 = (j : Int) by lia]
   exact ⟨this, this, this, this⟩
  ·show 1 <= (j : Int) + 1; lia
  ·show (j : Int) + 1 <= 48; lia
 nd := g0_nd 48
def amK (n : Nat) : List (Key × V) := (List.range n).map fun (s : Nat) => (Sum.inl (s : Int), V.int (if (1 : Int) < (s : Int) then 1 else (s : Int)))
theorem NJ (n : Nat) : amK (n + 1) = amK n ++ [(Sum.inl (n : Int), V.int (if (1 : Int) < (n : Int) then 1 else (n : Int)))] := by unfold amK; rw [List.range_succ, List.map_append]; rfl
theorem amK_len (n : Nat) : (amK n).length = n := by unfold amK; rw [List.length_map, List.length_range]
theorem OF {κ : Type} [DecidableEq κ] {k : κ} : ∀ {l m : List (κ × V)}, Bv l k = none -> Bv (l ++ m) k = Bv m k
 | [], _, _ => rfl
 | p :: r, m, h => by
  by_cases e : p.1 = k
  ·rw [Bz e] at h; cases h
  ·rw [Bc e] at h
   show Bv (p :: (r ++ m)) k = _
   rw [Bc e]
   exact OF h
theorem NL (n : Nat) : ∀ m, n <= m -> Bv (amK n) (Sum.inl (m : Int)) = none := by
 induction n with
 | zero => intro m _; rfl
 | succ n ih =>
  intro m hm
  rw [NJ, OF (ih m (by lia)), Bc (by intro z; injection z with z; have := Int.ofNat.inj z; lia)]
  rfl
def Dz (n : Nat) : List Int := (List.range (n + 1)).map fun j => ((bareN j : Nat) : Int)
theorem JX (n : Nat) : Dz (n + 1) = Dz n ++ [((bareN (n + 1) : Nat) : Int)] := by unfold Dz; rw [List.range_succ, List.map_append]; rfl
theorem Ox (n : Nat) : (Dz n).getLast? = some ((bareN n : Nat) : Int) := by
 cases n with
 | zero => rfl
 | succ n => rw [JX, List.getLast?_append]; rfl
theorem Sk {xs : List V} {x : V} (h : xs.getLast? = some x) : atI xs (-1) = some x := by
 obtain ⟨ys, rfl⟩ := List.getLast?_eq_some_iff.mp h
 unfold atI ixN
 rw [if_neg (by decide), if_pos (by rw [List.length_append, List.length_singleton]; lia)]
 show (ys ++ [x])[((-1 : Int) + ((ys ++ [x]).length : Nat)).toNat]? = some x
 rw [List.length_append, List.length_singleton, show ((-1 : Int) + ((ys.length + 1 : Nat) : Int)).toNat = ys.length by lia, List.getElem?_append_right (Nat.le_refl _), Nat.sub_self]
 rfl
end J
namespace J
open PySem L2
seal L2.PA L2.PE L2.PS L2.PSs L2.PT L2.PW
structure NO (a : Ad) (H H' : Hp) (g : GA) (G : Gv) (B : List Int) (am : List (Key × V)) : Prop where
 kp : ∀ b o, H b = some o -> b ≠ g.p -> H' b = some o
 at' : AS a H' g G
 br : H' g.br = some (.lst (B.map V.int))
 am : H' g.am = some (.dK am)
 bx : H' g.bx = some (.dK [])
 fresh : H g.lv = none /\ H g.pt = none /\ H g.nm = none /\ H g.br = none /\ H g.am = none /\ H g.bx = none
 n1 : g.br ≠ g.lv
 n2 : g.br ≠ g.pt
 n3 : g.am ≠ g.bx
section
variable {P : Program} {w : World} {K : PySem.W.Frag} {mg : Str -> Option Value} {base : Heap} {a : Ad}
inductive Pw (a : Ad) (vs : List V) (H : Hp) (Q : VK) : Prop
 | mk (p dx : Addr) (_ : vs = [.ref p]) (_ : H p = some (.ins a.c_Grove dx [])) (_ : ∀ (g : GA) (H' : Hp), g.p = p -> NO a H H' g G0 (Dz 48) (amK 8) -> Q .non H') : Pw a vs H Q
def LO (a : Ad) : Sp := fun vs H Q _ => Pw a vs H Q
theorem Rp {f : Addr} {fd : FuncData} (F : Fun K "__init__" "Grove.__init__" CU f fd) (T : Top K mg a) (M_Grove_kept : CM P w K mg base CX0 1 a.c_Grove "kept" CY (LN a)) : AY P w K mg base CX0 2 f fd DO (LO a) := by
 refine F.ok Ek (fun vs H Q E h => ?_) (fun cdv A outer s H vs Q E hr h => ?_)
 ·obtain ⟨p, dx, rfl, _⟩ := h
  rfl
 ·obtain ⟨p, dx, rfl, hp, k⟩ := h
  refine ⟨_, (Ab (Io (pv 0) (EV Ae) rfl) (Ab (Io (pv 0) (EV Ae) rfl) (Ab (Io (pv 0) GZ rfl) (Ab (Io (pv 0) (EV (AH Ae)) rfl) (Ab (Io (pv 0) Nc rfl) (Ab (Io (pv 0) Nc rfl) (Ab (Dj PassesOwn.never rfl (Ed rfl T.b_range (Aa (Df rfl T.k_STATES) Ae)) (BG (i := 1) Ek.nd rfl (Or.inl rfl)) (Ab (DI (AU (pv 0) M_Grove_kept (rm hr) Ar (BV (Aa (pv 1) Ae) (AH Ae)))) (Aj (FP (FW hr) (AQ (pv 0) rfl) (pv 1) (AN (FG rfl) rfl T.b_min PyProof.Rows.boot_min (Aa (pv 1) (AH Ae))) rfl)))) (Aj (Dj PassesOwn.never rfl (PP rfl T.b_range (AH (Bk AI (Df rfl T.k_TOP_LEVEL) Ac Ae))) (BG (i := 2) Ek.nd rfl (Or.inl rfl)) (Ab (Al (i := 3) Ek.nd rfl (Or.inl rfl) (Ak AC (AQ (pv 0) rfl) (En CG Ac) (fun _ _ => rfl))) (Aj (DI (JE PySem.F.plainAttrs_list PySem.F.slot_list_append PySem.F.type_list_append Eh (AQ (pv 0) rfl) (Aa (AU (pv 0) M_Grove_kept (rm hr) Ar (BV (Aa (pv 3) (Aa (pv 3) (Aa (pv 3) (Aa (pv 3) Ae)))) (Aa (pv 2) Ae))) Ae)))))))))))))), ?_⟩
  try dsimp only [cxK]
  have stp : ∀ {Hk : Hp} {x : Addr} {o : HO} {fs fs' : List (Str × V)}, Hk p = some (.ins a.c_Grove dx fs) -> Hk x = none -> (∀ b v, Hk b = some v -> b ≠ p -> upd (upd Hk x o) p (.ins a.c_Grove dx fs') b = some v) /\ upd (upd Hk x o) p (.ins a.c_Grove dx fs') x = some o /\ upd (upd Hk x o) p (.ins a.c_Grove dx fs') p = some (.ins a.c_Grove dx fs') /\ upd Hk x o p = some (.ins a.c_Grove dx fs) := fun {Hk x o fs fs'} e1 e2 => by
   have n : x ≠ p := fun z => by rw [z, e1] at e2; cases e2
   exact ⟨fun b v e nb => by rw [Av nb, Av (At e e2)]; exact e, by rw [Av n]; exact Ai, Ai, by rw [Av (Ne.symm n)]; exact e1⟩
  refine ⟨(by show 0 <= sizeLine; decide), fun lv hlv => ?_⟩
  obtain ⟨k1, x1, p1, q1⟩ := stp (o := .lst []) (fs' := BB "levels" (.ref lv) []) hp hlv
  refine ⟨_, rfl, p, _, dx, [], rfl, q1, T.cl_Grove, T.na_Grove_levels, (by show 0 < 1000; decide), ?_⟩
  generalize upd (upd H lv (.lst [])) p (.ins a.c_Grove dx (BB "levels" (.ref lv) [])) = H1 at k1 x1 p1 ⊢
  refine ⟨(by show 0 <= sizeLine; decide), fun pt hpt => ?_⟩
  obtain ⟨k2, x2, p2, q2⟩ := stp (o := .lst []) (fs' := BB "parts" (.ref pt) (BB "levels" (.ref lv) [])) p1 hpt
  refine ⟨_, rfl, p, _, dx, _, rfl, q2, T.cl_Grove, T.na_Grove_parts, (by show 1 < 1000; decide), ?_⟩
  generalize upd (upd H1 pt (.lst [])) p (.ins a.c_Grove dx (BB "parts" (.ref pt) (BB "levels" (.ref lv) []))) = H2 at k2 x2 p2 ⊢
  intro nm hnm
  obtain ⟨k3, x3, p3, q3⟩ := stp (o := .dT []) (fs' := BB "numbers" (.ref nm) (BB "parts" (.ref pt) (BB "levels" (.ref lv) []))) p2 hnm
  refine ⟨_, rfl, p, _, dx, _, rfl, q3, T.cl_Grove, T.na_Grove_numbers, (by show 2 < 1000; decide), ?_⟩
  generalize upd (upd H2 nm (.dT [])) p (.ins a.c_Grove dx (BB "numbers" (.ref nm) (BB "parts" (.ref pt) (BB "levels" (.ref lv) [])))) = H3 at k3 x3 p3 ⊢
  refine ⟨(by show 1 <= sizeLine; decide), fun br hbr => ?_⟩
  obtain ⟨k4, x4, p4, q4⟩ := stp (o := .lst [.int 0]) (fs' := BB "bares" (.ref br) (BB "numbers" (.ref nm) (BB "parts" (.ref pt) (BB "levels" (.ref lv) [])))) p3 hbr
  refine ⟨_, rfl, p, _, dx, _, rfl, q4, T.cl_Grove, T.na_Grove_bares, (by show 3 < 1000; decide), ?_⟩
  generalize upd (upd H3 br (.lst [.int 0])) p (.ins a.c_Grove dx (BB "bares" (.ref br) (BB "numbers" (.ref nm) (BB "parts" (.ref pt) (BB "levels" (.ref lv) []))))) = H4 at k4 x4 p4 ⊢
  intro am ham
  obtain ⟨k5, x5, p5, q5⟩ := stp (o := .dK []) (fs' := BB "amounts" (.ref am) (BB "bares" (.ref br) (BB "numbers" (.ref nm) (BB "parts" (.ref pt) (BB "levels" (.ref lv) []))))) p4 ham
  refine ⟨_, rfl, p, _, dx, _, rfl, q5, T.cl_Grove, T.na_Grove_amounts, (by show 4 < 1000; decide), ?_⟩
  generalize upd (upd H4 am (.dK [])) p (.ins a.c_Grove dx (BB "amounts" (.ref am) (BB "bares" (.ref br) (BB "numbers" (.ref nm) (BB "parts" (.ref pt) (BB "levels" (.ref lv) [])))))) = H5 at k5 x5 p5 ⊢
  intro bx hbx
  obtain ⟨k6, x6, p6, q6⟩ := stp (o := .dK []) (fs' := fl6 ⟨p, dx, lv, pt, nm, br, am, bx⟩) p5 hbx
  refine ⟨_, rfl, p, _, dx, _, rfl, q6, T.cl_Grove, T.na_Grove_boxes, (by show 5 < 1000; decide), ?_⟩
  show (NR _ _) _ _ (upd (upd H5 bx (.dK [])) p (.ins a.c_Grove dx (fl6 ⟨p, dx, lv, pt, nm, br, am, bx⟩)))
  generalize upd (upd H5 bx (.dK [])) p (.ins a.c_Grove dx (fl6 ⟨p, dx, lv, pt, nm, br, am, bx⟩)) = H6 at k6 x6 p6 ⊢
  have f26 : ∀ b v, H1 b = some v -> b ≠ p -> H6 b = some v := fun b v e n => k6 _ _ (k5 _ _ (k4 _ _ (k3 _ _ (k2 _ _ e n) n) n) n) n
  have f36 : ∀ b v, H2 b = some v -> b ≠ p -> H6 b = some v := fun b v e n => k6 _ _ (k5 _ _ (k4 _ _ (k3 _ _ e n) n) n) n
  have f46 : ∀ b v, H3 b = some v -> b ≠ p -> H6 b = some v := fun b v e n => k6 _ _ (k5 _ _ (k4 _ _ e n) n) n
  have f56 : ∀ b v, H4 b = some v -> b ≠ p -> H6 b = some v := fun b v e n => k6 _ _ (k5 _ _ e n) n
  have np : ∀ {Hk : Hp} {x : Addr} {fs : List (Str × V)}, Hk p = some (.ins a.c_Grove dx fs) -> Hk x = none -> x ≠ p := fun {Hk x fs} e1 e2 z => by rw [z, e1] at e2; cases e2
  have no : ∀ {Hk Hm : Hp} {x y : Addr} {v : HO}, Hk x = some v -> Hk y = none -> x ≠ y := fun {Hk Hm x y v} e1 e2 => At e1 e2
  have nlv := np hp hlv
  have npt := np p1 hpt
  have nnm := np p2 hnm
  have nbr := np p3 hbr
  have nam := np p4 ham
  have nbx := np p5 hbx
  have y1 := f26 _ _ x1 nlv
  have y2 := f36 _ _ x2 npt
  have y3 := f46 _ _ x3 nnm
  have y4 := f56 _ _ x4 nbr
  have y5 := k6 _ _ x5 nam
  have back : ∀ {Hk : Hp} {x : Addr}, (∀ b v, H b = some v -> b ≠ p -> Hk b = some v) -> x ≠ p -> Hk x = none -> H x = none := fun {Hk x} kp n e => by
   cases h : H x with
   | none => rfl
   | some v => rw [kp _ _ h n] at e; cases e
  have c2 : ∀ b v, H b = some v -> b ≠ p -> H2 b = some v := fun b v e n => k2 _ _ (k1 _ _ e n) n
  have c3 : ∀ b v, H b = some v -> b ≠ p -> H3 b = some v := fun b v e n => k3 _ _ (c2 _ _ e n) n
  have c4 : ∀ b v, H b = some v -> b ≠ p -> H4 b = some v := fun b v e n => k4 _ _ (c3 _ _ e n) n
  have c5 : ∀ b v, H b = some v -> b ≠ p -> H5 b = some v := fun b v e n => k5 _ _ (c4 _ _ e n) n
  have c6 : ∀ b v, H b = some v -> b ≠ p -> H6 b = some v := fun b v e n => k6 _ _ (c5 _ _ e n) n
  have d1 : lv ≠ pt := At x1 hpt
  have d2 : br ≠ lv := Ne.symm (At (k3 _ _ (k2 _ _ x1 nlv) nlv) hbr)
  have d3 : br ≠ pt := Ne.symm (At (k3 _ _ x2 npt) hbr)
  have d4 : am ≠ bx := At x5 hbx
  have N0 : NO a H H6 ⟨p, dx, lv, pt, nm, br, am, bx⟩ (Dw 0) (Dz 0) (amK 0) := ⟨c6, ⟨p6, y1, ⟨[], y2, .nil⟩, y3, d1⟩, y4, y5, x6, ⟨hlv, back k1 npt hpt, back c2 nnm hnm, back c3 nbr hbr, back c4 nam ham, back c5 nbx hbx⟩, d2, d3, d4⟩
  have k' := k ⟨p, dx, lv, pt, nm, br, am, bx⟩
  have gp : (⟨p, dx, lv, pt, nm, br, am, bx⟩ : GA).p = p := rfl
  generalize (⟨p, dx, lv, pt, nm, br, am, bx⟩ : GA) = g at N0 k' gp
  subst gp
  clear k p6 q6 q5 q4 q3 q2 q1 y1 y2 y3 y4 y5 x6 c6 c5 c4 c3 c2 f26 f36 f46 f56 k1 k2 k3 k4 k5 k6 x1 x2 x3 x4 x5 p1 p2 p3 p4 p5 d1 d2 d3 d4 nlv npt nnm nbr nam nbx hbx ham hbr hnm hpt hlv back no np stp
  refine ⟨8, rfl, by decide, by decide, ?_⟩
  refine Dx (n := 8) (fun i σ H7 => ∃ u1 : Option V, σ = [some (.ref g.p), u1, none, none] /\ NO a H H7 g (Dw i) (Dz 0) (amK i)) ⟨none, rfl, N0⟩ ?_ ?_
  ·rintro i σ H7 hi ⟨u1, rfl, N⟩
   obtain ⟨kp, at', hbr, ham, hbx, fresh, n1, n2, n3⟩ := N
   have cl : (i : Int) = 0 + (i : Int) := (Int.zero_add _).symm
   refine ⟨_, rfl, g.p, g.dx, _, rfl, at'.hp, LX g, _, rfl, (by show 1 <= sizeLine; decide), fun t ht => ?_⟩
   have s1 := An (o := .tup [.int (0 + (i : Int))]) ht
   refine ⟨g, Dw i, t, [0 + (i : Int)], 0, rfl, at'.same s1, Ai, by rw [<- cl]; exact Qd i, by rw [EN]; lia, fun H8 fr at8 => ?_⟩
   rw [<- cl, <- Oo] at at8
   have fr' : Fr g H7 H8 := (AB.fr s1).trans fr
   obtain ⟨ts, h3, h4⟩ := at'.pt
   have kd : ∀ (b : Addr) (kvs : List (Key × V)), H7 b = some (.dK kvs) -> H8 b = some (.dK kvs) := fun b kvs e => fr' _ _ e (Bn e at'.lv (by intro z; cases z)) (Bn e h3 (by intro z; cases z)) (Bn e at'.nm (by intro z; cases z))
   have ham8 := kd _ _ ham
   refine ⟨_, rfl, _, _, rfl, _, rfl, g.p, _, g.dx, _, _, rfl, at8.hp, T.cl_Grove, T.na_Grove_amounts, fl6_am g, _, rfl, g.am, _, rfl, IW.k (k := Sum.inl (0 + (i : Int))) ham8 (by rw [amK_len]; exact EC (by lia)), ?_⟩
   rw [<- cl, Gb _ (NL i i (Nat.le_refl _)), <- NJ]
   have other : ∀ {b : Addr} {v : HO}, H8 b = some v -> b ≠ g.am -> upd H8 g.am (.dK (amK (i + 1))) b = some v := fun {b v} e n => by rw [Av n]; exact e
   have na : ∀ {b : Addr} {v : HO}, H8 b = some v -> v ≠ .dK (amK i) -> b ≠ g.am := fun {b v} e n => Bn e ham8 n
   obtain ⟨ts8, h38, h48⟩ := at8.pt
   refine ⟨_, rfl, ?_, ⟨other at8.hp (na at8.hp (by intro z; cases z)), other at8.lv (na at8.lv (by intro z; cases z)), ⟨ts8, other h38 (na h38 (by intro z; cases z)), PairedM.imp (fun c q z => other z (na z (by intro z; cases z))) h48⟩, other at8.nm (na at8.nm (by intro z; cases z)), at8.ne⟩, ?_, Ai, ?_, fresh, n1, n2, n3⟩
   ·intro b v e nb
    have e8 : H8 b = some v := fr' _ _ (kp _ _ e nb) (At e fresh.1) (At e fresh.2.1) (At e fresh.2.2.1)
    exact other e8 (At e fresh.2.2.2.2.1)
   ·have e8 : H8 g.br = _ := fr' _ _ hbr n1 n2 (Bn hbr at'.nm (by intro z; cases z))
    exact other e8 (na e8 (by intro z; cases z))
   ·exact other (kd _ _ hbx) (Ne.symm n3)
  ·rintro σ H7 ⟨u1, rfl, N⟩
   refine ⟨_, _, rfl, rfl, 1, 49, rfl, ⟨by decide, by decide, by decide, by decide⟩, ?_⟩
   have N0 : NO a H H7 g (Dw 8 ++ Fb 0) (Dz 0) (amK 8) := by rw [show Dw 8 ++ Fb 0 = Dw 8 from List.append_nil _]; exact N
   clear N
   refine Dx (lo := 1) (n := 48) (fun j σ H8 => ∃ u2 u3 : Option V, σ = [some (.ref g.p), u1, u2, u3] /\ NO a H H8 g (Dw 8 ++ Fb j) (Dz j) (amK 8)) ⟨none, none, rfl, N0⟩ ?_ ?_
   ·rintro j σ H8 hj ⟨u2, u3, rfl, N⟩
    obtain ⟨kp, at', hbr, ham, hbx, fresh, n1, n2, n3⟩ := N
    refine ⟨_, rfl, g.p, _, g.dx, _, _, rfl, at'.hp, T.cl_Grove, T.na_Grove_bares, Gh g, _, rfl, g.br, _, -1, .int (bareN j : Int), rfl, rfl, SqL.of hbr, Sk (by rw [List.getLast?_map, Ox]; rfl), ?_⟩
    refine ⟨_, rfl, g.p, _, g.dx, _, _, rfl, at'.hp, T.cl_Grove, T.na_Grove_bares, Gh g, .inl ⟨rfl, _, SqL.of hbr⟩, _, rfl, g.p, g.dx, _, rfl, at'.hp, LX g, _, rfl, _, rfl, _, rfl, _, rfl, (by show 4 <= sizeLine; decide), fun t ht => ⟨_, rfl, ?_⟩⟩
    have s1 := An (o := .tup [.int (bareN j : Int), .int (bareN j : Int), .int (bareN j : Int), .int (bareN j : Int)]) ht
    have ln : (Dw 8 ++ Fb j).length = 8 + j := by rw [List.length_append, EN, LJ]
    refine ⟨g, Dw 8 ++ Fb j, t, [(bareN j : Int), (bareN j : Int), (bareN j : Int), (bareN j : Int)], 1 + (j : Int), rfl, at'.same s1, Ai, LI j, by rw [ln]; lia, fun H9 fr at9 => ?_⟩
    rw [show (1 : Int) + (j : Int) = (j : Int) + 1 by lia, List.append_assoc, <- JW] at at9
    have fr' : Fr g H8 H9 := (AB.fr s1).trans fr
    obtain ⟨ts, h3, h4⟩ := at'.pt
    have kd : ∀ (b : Addr) (kvs : List (Key × V)), H8 b = some (.dK kvs) -> H9 b = some (.dK kvs) := fun b kvs e => fr' _ _ e (Bn e at'.lv (by intro z; cases z)) (Bn e h3 (by intro z; cases z)) (Bn e at'.nm (by intro z; cases z))
    have hbr9 : H9 g.br = _ := fr' _ _ hbr n1 n2 (Bn hbr at'.nm (by intro z; cases z))
    refine ⟨g.br, _, _, rfl, rfl, hbr9, by rw [List.length_map]; unfold Dz; rw [List.length_map, List.length_range]; exact EC (by lia), ?_⟩
    have eb : (Dz j).map V.int ++ [V.int ((Dw 8 ++ Fb j).length : Int)] = (Dz (j + 1)).map V.int := by rw [JX, List.map_append, ln]; rfl
    rw [eb]
    have other : ∀ {b : Addr} {v : HO}, H9 b = some v -> v ≠ .lst ((Dz j).map V.int) -> upd H9 g.br (.lst ((Dz (j + 1)).map V.int)) b = some v := fun {b v} e n => by rw [Av (Bn e hbr9 n)]; exact e
    refine ⟨_, _, rfl, ?_, at9.put hbr9 n1 n2, Ai, other (kd _ _ ham) (by intro z; cases z), other (kd _ _ hbx) (by intro z; cases z), fresh, n1, n2, n3⟩
    intro b v e nb
    rw [Av (At e fresh.2.2.2.1)]
    exact fr' _ _ (kp _ _ e nb) (At e fresh.1) (At e fresh.2.1) (At e fresh.2.2.1)
   ·rintro σ H8 ⟨u2, u3, rfl, N⟩
    exact k' H8 rfl N
end
end J
namespace J
open PySem L2
theorem Ao.uniq {G : Gv} {i : Nat} {l m : Int} (h : Ao G i l) (h2 : Ao G i m) : l = m := by
 obtain ⟨q, e, z⟩ := h
 obtain ⟨p, e2, z2⟩ := h2
 rw [e] at e2
 cases e2
 exact z.symm.trans z2
theorem leaf_of {G : Gv} (ok : GOk G) {i : Nat} (h : Ao G i 0) : i < 8 := by
 obtain ⟨q, e, z⟩ := h
 refine Nat.lt_of_not_le fun n => ?_
 obtain ⟨_, _, _, _, _, _, l1, _⟩ := ok.node i q e n
 lia
structure Ce (G : Gv) (n i : Nat) (q : Sq) (x y z w : Nat) : Prop where
 g : G[i]? = some q
 ps : q.parts = [(x : Int), (y : Int), (z : Int), (w : Int)]
 lev : q.lev = (n : Int) + 1
 hx : Ao G x n
 hy : Ao G y n
 hz : Ao G z n
 hw : Ao G w n
theorem AX {G : Gv} (ok : GOk G) {n i : Nat} (h : Ao G i ((n + 1 : Nat) : Int)) : ∃ q x y z w, Ce G n i q x y z w := by
 obtain ⟨q, e, el⟩ := h
 have n8 : 8 <= i := by
  refine Nat.le_of_not_lt fun l8 => ?_
  rw [ok.leaf i l8] at e
  cases e
  have : (0 : Int) = ((n + 1 : Nat) : Int) := el
  lia
 obtain ⟨x, y, z, w, ep, ⟨hx, hy, hz, hw⟩, _, _⟩ := ok.node i q e n8
 have en : q.lev - 1 = (n : Int) := by lia
 rw [en] at hx hy hz hw
 exact ⟨q, x, y, z, w, e, ep, by lia, hx, hy, hz, hw⟩
theorem Ce.app {G G' : Gv} {k n i : Nat} {q : Sq} {x y z w : Nat} (go : AG G G' k) (h : Ce G n i q x y z w) : Ce G' n i q x y z w := ⟨go.get h.g, h.ps, h.lev, go.lev h.hx, go.lev h.hy, go.lev h.hz, go.lev h.hw⟩
def Dp (G : Gv) : Nat -> Nat -> Int
 | 0, i => if i = 0 then 0 else 1
 | n + 1, i => match G[i]? with
  | some q => (q.parts.map fun p => Dp G n p.toNat).sum
  | none => 0
theorem Gu {G : Gv} {n i : Nat} {q : Sq} {x y z w : Nat} (h : Ce G n i q x y z w) : Dp G (n + 1) i = ([x, y, z, w].map fun k => Dp G n k).sum := by
 rw [show Dp G (n + 1) i = (match G[i]? with | some q => (q.parts.map fun (p : Int) => Dp G n p.toNat).sum | none => 0) from rfl, h.g]
 show (q.parts.map fun (p : Int) => Dp G n p.toNat).sum = _
 rw [h.ps]
 rfl
theorem Gj {G G' : Gv} {k : Nat} (ok : GOk G) (go : AG G G' k) : ∀ (n i : Nat), Ao G i (n : Int) -> Dp G' n i = Dp G n i
 | 0, i, _ => rfl
 | n + 1, i, h => by
  obtain ⟨q, x, y, z, w, nd⟩ := AX ok h
  rw [Gu nd, Gu (nd.app go)]
  show Dp G' n x + (Dp G' n y + (Dp G' n z + (Dp G' n w + 0))) = _
  rw [Gj ok go n x nd.hx, Gj ok go n y nd.hy, Gj ok go n z nd.hz, Gj ok go n w nd.hw]
  rfl
theorem EH (G : Gv) : ∀ (n i : Nat), 0 <= Dp G n i
 | 0, i => by
  show 0 <= if i = 0 then (0 : Int) else 1
  split <;> lia
 | n + 1, i => by
  unfold Dp
  split
  ·rename_i q _
   have : ∀ l : List Int, 0 <= (l.map fun p => Dp G n p.toNat).sum := by
    intro l
    induction l with
    | nil => exact Int.le_refl 0
    | cons p r ih => rw [List.map_cons, List.sum_cons]; have := EH G n p.toNat; lia
   exact this _
  ·exact Int.le_refl 0
theorem FF : ∀ (n : Nat) (l : List Nat), l.Nodup -> (∀ x ∈ l, x < n) -> l.length <= n
 | 0, l, _, h => by
  cases l with
  | nil => exact Nat.le_refl 0
  | cons x r => exact absurd (h x List.mem_cons_self) (Nat.not_lt_zero _)
 | n + 1, l, nd, h => by
  by_cases hm : n ∈ l
  ·have := FF n (l.erase n) (nd.erase n) fun x hx => by
    have h1 := (nd.mem_erase_iff).mp hx
    have := h x h1.2
    have := h1.1
    lia
   rw [List.length_erase_of_mem hm] at this
   lia
  ·have := FF n l nd fun x hx => by
    have := h x hx
    have : x ≠ n := fun z => hm (z ▸ hx)
    lia
   lia
structure Fp (G : Gv) (ks : List (Key × V)) : Prop where
 nd : (ks.map Prod.fst).Nodup
 lt : ∀ k ∈ ks.map Prod.fst, ∃ i : Nat, i < G.length /\ k = Sum.inl (i : Int)
theorem Fp.len {G : Gv} {ks : List (Key × V)} (h : Fp G ks) : ks.length <= G.length := by
 let f : Key -> Nat := fun k => match k with | .inl i => i.toNat | .inr _ => 0
 have := FF G.length ((ks.map Prod.fst).map f) (by
  rw [List.nodup_iff_pairwise_ne, List.pairwise_map]
  refine List.Pairwise.imp_of_mem (fun {a b} ha hb hne z => hne ?_) (List.nodup_iff_pairwise_ne.mp h.nd)
  obtain ⟨i, _, rfl⟩ := h.lt a ha
  obtain ⟨j, _, rfl⟩ := h.lt b hb
  have : (i : Int).toNat = (j : Int).toNat := z
  rw [Int.toNat_natCast, Int.toNat_natCast] at this
  rw [this]) (fun x hx => by
  obtain ⟨k, hk, rfl⟩ := List.mem_map.mp hx
  obtain ⟨i, hi, rfl⟩ := h.lt k hk
  show (i : Int).toNat < _
  rw [Int.toNat_natCast]
  exact hi)
 rw [List.length_map, List.length_map] at this
 exact this
theorem Fp.app {G G' : Gv} {ks : List (Key × V)} (le : G.length <= G'.length) (h : Fp G ks) : Fp G' ks := ⟨h.nd, fun k hk => by
 obtain ⟨i, hi, e⟩ := h.lt k hk
 exact ⟨i, by lia, e⟩⟩
theorem Fp.put {G : Gv} {ks : List (Key × V)} (h : Fp G ks) {i : Nat} (hi : i < G.length) (v : V) : Fp G (Di ks (Sum.inl (i : Int)) v) := by
 unfold Di
 by_cases a : (ks.any fun kv => decide (kv.1 = Sum.inl (i : Int))) = true
 ·rw [if_pos a]
  have e : (ks.map fun kv => if kv.1 = Sum.inl (i : Int) then (kv.1, v) else kv).map Prod.fst = ks.map Prod.fst := by
   rw [List.map_map]
   refine List.map_congr_left fun kv _ => ?_
   show (if kv.1 = Sum.inl (i : Int) then (kv.1, v) else kv).1 = kv.1
   split <;> rfl
  exact ⟨by rw [e]; exact h.nd, by rw [e]; exact h.lt⟩
 ·rw [if_neg a]
  refine ⟨?_, fun k hk => ?_⟩
  ·rw [List.map_append, List.nodup_append]
   refine ⟨h.nd, by simp, fun k hk k' hk' z => a ?_⟩
   have : k' = Sum.inl (i : Int) := by simpa using hk'
   subst this
   subst z
   obtain ⟨kv, h1, h2⟩ := List.mem_map.mp hk
   exact List.any_eq_true.mpr ⟨kv, h1, decide_eq_true h2⟩
  ·rw [List.map_append] at hk
   rcases List.mem_append.mp hk with z | z
   ·exact h.lt k z
   ·exact ⟨i, hi, by simpa using z⟩
structure SB (G : Gv) (ks : List (Key × V)) : Prop where
 keys : Fp G ks
 leaf : ∀ s : Nat, s < 8 -> ∃ v, Bv ks (Sum.inl (s : Int)) = some v
 val : ∀ (i : Nat) v, Bv ks (Sum.inl (i : Int)) = some v -> ∃ l : Nat, Ao G i l /\ v = .int (Dp G l i)
theorem SB.app {G G' : Gv} {k : Nat} {ks : List (Key × V)} (ok : GOk G) (go : AG G G' k) (h : SB G ks) : SB G' ks := ⟨h.keys.app (by obtain ⟨r, e⟩ := go.pre; rw [e, List.length_append]; lia), h.leaf, fun i v e => by
 obtain ⟨l, h1, h2⟩ := h.val i v e
 exact ⟨l, go.lev h1, by rw [Gj ok go l i h1]; exact h2⟩⟩
theorem am0 : SB G0 (amK 8) where
 keys := ⟨by decide +kernel, fun k hk => by
  obtain ⟨p, hp, rfl⟩ := List.mem_map.mp hk
  obtain ⟨s, hs, rfl⟩ := List.mem_map.mp hp
  have := List.mem_range.mp hs
  exact ⟨s, by rw [Mw]; lia, rfl⟩⟩
 leaf := fun s hs => by
  match s, hs with
  | 0, _ => exact ⟨_, rfl⟩
  | 1, _ => exact ⟨_, rfl⟩
  | 2, _ => exact ⟨_, rfl⟩
  | 3, _ => exact ⟨_, rfl⟩
  | 4, _ => exact ⟨_, rfl⟩
  | 5, _ => exact ⟨_, rfl⟩
  | 6, _ => exact ⟨_, rfl⟩
  | 7, _ => exact ⟨_, rfl⟩
 val := fun i v e => by
  have hi : i < 8 := by
   refine Nat.lt_of_not_le fun z => ?_
   rw [NL 8 i z] at e
   cases e
  refine ⟨0, ⟨_, Mx i hi, rfl⟩, ?_⟩
  match i, hi with
  | 0, _ => cases e; rfl
  | 1, _ => cases e; rfl
  | 2, _ => cases e; rfl
  | 3, _ => cases e; rfl
  | 4, _ => cases e; rfl
  | 5, _ => cases e; rfl
  | 6, _ => cases e; rfl
  | 7, _ => cases e; rfl
end J
namespace J
open PySem L2
structure Bx where
 l : Int
 t : Int
 w : Int
 h : Int
def Bx.ns (b : Bx) : List Int := [b.l, b.t, b.w, b.h]
def shB (half : Int) (k : Nat) (b : Bx) : Bx := ⟨b.l + half * ((k : Int) % 2), b.t + half * ((k : Int) / 2), b.w, b.h⟩
def DB (half : Int) : Nat -> List (Option Bx) -> List Bx
 | _, [] => []
 | k, none :: r => DB half (k + 1) r
 | k, some b :: r => shB half k b :: DB half (k + 1) r
def mnL (l : List Int) : Int := l.min?.getD 0
def mxL (l : List Int) : Int := l.max?.getD 0
def JQ (bs : List Bx) : Bx := ⟨mnL (bs.map (·.l)), mnL (bs.map (·.t)), mxL (bs.map fun b => b.l + b.w) - mnL (bs.map (·.l)), mxL (bs.map fun b => b.t + b.h) - mnL (bs.map (·.t))⟩
def Lc (half : Int) (obs : List (Option Bx)) : Option Bx := match DB half 0 obs with
 | [] => none
 | b :: r => some (JQ (b :: r))
def BH (G : Gv) : Nat -> Nat -> Option Bx
 | 0, i => if i = 0 then none else some ⟨0, 0, 1, 1⟩
 | n + 1, i => match G[i]? with
  | some q => Lc (2 ^ n) (q.parts.map fun (p : Int) => BH G n p.toNat)
  | none => none
theorem RA {l : List Int} {m : Int} (h : m ∈ l) (h2 : ∀ x ∈ l, m <= x) : m = mnL l := by
 unfold mnL
 rw [List.min?_eq_some_iff.mpr ⟨h, h2⟩]
 rfl
theorem Rz {l : List Int} {m : Int} (h : m ∈ l) (h2 : ∀ x ∈ l, x <= m) : m = mxL l := by
 unfold mxL
 rw [List.max?_eq_some_iff.mpr ⟨h, h2⟩]
 rfl
theorem EO {G : Gv} {n i : Nat} {q : Sq} {x y z w : Nat} (h : Ce G n i q x y z w) : BH G (n + 1) i = Lc (2 ^ n) [BH G n x, BH G n y, BH G n z, BH G n w] := by
 rw [show BH G (n + 1) i = (match G[i]? with | some q => Lc (2 ^ n) (q.parts.map fun (p : Int) => BH G n p.toNat) | none => none) from rfl, h.g]
 show Lc (2 ^ n) (q.parts.map fun (p : Int) => BH G n p.toNat) = _
 rw [h.ps]
 rfl
theorem Gm {G G' : Gv} {k : Nat} (ok : GOk G) (go : AG G G' k) : ∀ (n i : Nat), Ao G i (n : Int) -> BH G' n i = BH G n i
 | 0, i, _ => rfl
 | n + 1, i, h => by
  obtain ⟨q, x, y, z, w, nd⟩ := AX ok h
  rw [EO nd, EO (nd.app go), Gm ok go n x nd.hx, Gm ok go n y nd.hy, Gm ok go n z nd.hz, Gm ok go n w nd.hw]
theorem Lp {half : Int} : ∀ {obs : List (Option Bx)}, Lc half obs = none ↔ ∀ o ∈ obs, o = none := by
 intro obs
 have g : ∀ (obs : List (Option Bx)) (k : Nat), DB half k obs = [] ↔ ∀ o ∈ obs, o = none := by
  intro obs
  induction obs with
  | nil => intro k; exact ⟨fun _ o ho => by simp at ho, fun _ => rfl⟩
  | cons o r ih =>
   intro k
   cases o with
   | none =>
    rw [show DB half k (none :: r) = DB half (k + 1) r from rfl, ih (k + 1)]
    exact ⟨fun h o ho => by rcases List.mem_cons.mp ho with z | z; exact z; exact h o z, fun h o ho => h o (List.mem_cons_of_mem _ ho)⟩
   | some b => exact ⟨fun h => (by cases h), fun h => (by cases h (some b) List.mem_cons_self)⟩
 rw [<- g obs 0]
 unfold Lc
 constructor
 ·intro h
  split at h
  ·assumption
  ·cases h
 ·intro h
  rw [h]
theorem GB {G : Gv} (ok : GOk G) : ∀ (n i : Nat), Ao G i (n : Int) -> (BH G n i = none ↔ Dp G n i = 0)
 | 0, i, _ => by
  show (if i = 0 then none else some (⟨0, 0, 1, 1⟩ : Bx)) = none ↔ (if i = 0 then (0 : Int) else 1) = 0
  split
  ·exact ⟨fun _ => rfl, fun _ => rfl⟩
  ·exact ⟨fun h => (by cases h), fun h => (by lia)⟩
 | n + 1, i, h => by
  obtain ⟨q, x, y, z, w, nd⟩ := AX ok h
  rw [EO nd, Gu nd, Lp]
  show _ ↔ Dp G n x + (Dp G n y + (Dp G n z + (Dp G n w + 0))) = 0
  have ex := GB ok n x nd.hx
  have ey := GB ok n y nd.hy
  have ez := GB ok n z nd.hz
  have ew := GB ok n w nd.hw
  have nx := EH G n x
  have ny := EH G n y
  have nz := EH G n z
  have nw := EH G n w
  constructor
  ·intro h
   rw [ex.mp (h _ (by simp)), ey.mp (h _ (by simp)), ez.mp (h _ (by simp)), ew.mp (h _ (by simp))]
   rfl
  ·intro h o ho
   simp only [List.mem_cons, List.not_mem_nil, or_false] at ho
   rcases ho with rfl | rfl | rfl | rfl
   ·exact ex.mpr (by lia)
   ·exact ey.mpr (by lia)
   ·exact ez.mpr (by lia)
   ·exact ew.mpr (by lia)
theorem Mv {G r : Gv} (e : G = G0 ++ r) (j : Nat) (h : j < 48) : G[8 + j]? = some ⟨[(bareN j : Int), (bareN j : Int), (bareN j : Int), (bareN j : Int)], (j : Int) + 1⟩ := by
 rw [e]
 exact Jl (Mz j h)
theorem Gn {G : Gv} (ok : GOk G) {r : Gv} (e : G = G0 ++ r) : ∀ (n i : Nat), n <= 48 -> Ao G i (n : Int) -> (BH G n i = none ↔ i = bareN n)
 | 0, i, _, _ => by
  show (if i = 0 then none else some (⟨0, 0, 1, 1⟩ : Bx)) = none ↔ i = 0
  split
  ·rename_i z; exact ⟨fun _ => z, fun _ => rfl⟩
  ·rename_i z; exact ⟨fun h => (by cases h), fun h => absurd h z⟩
 | n + 1, i, hn, h => by
  obtain ⟨q, x, y, z, w, nd⟩ := AX ok h
  rw [EO nd, Lp]
  have ex := Gn ok e n x (by lia) nd.hx
  have ey := Gn ok e n y (by lia) nd.hy
  have ez := Gn ok e n z (by lia) nd.hz
  have ew := Gn ok e n w (by lia) nd.hw
  have hb := Mv e n (by lia)
  constructor
  ·intro h
   have hx := ex.mp (h _ (by simp))
   have hy := ey.mp (h _ (by simp))
   have hz := ez.mp (h _ (by simp))
   have hw := ew.mp (h _ (by simp))
   show i = 8 + n
   refine ok.one nd.g hb ?_
   rw [nd.ps, hx, hy, hz, hw]
  ·intro h
   have h : i = 8 + n := h
   have g := nd.g
   rw [h, hb] at g
   cases g
   have p := nd.ps
   have p : [(bareN n : Int), (bareN n : Int), (bareN n : Int), (bareN n : Int)] = [(x : Int), (y : Int), (z : Int), (w : Int)] := p
   injection p with p1 p
   injection p with p2 p
   injection p with p3 p
   injection p with p4 p
   intro o ho
   simp only [List.mem_cons, List.not_mem_nil, or_false] at ho
   rcases ho with rfl | rfl | rfl | rfl
   ·exact ex.mpr (Int.ofNat.inj p1).symm
   ·exact ey.mpr (Int.ofNat.inj p2).symm
   ·exact ez.mpr (Int.ofNat.inj p3).symm
   ·exact ew.mpr (Int.ofNat.inj p4).symm
structure BxOk (G : Gv) (H : Hp) (ks : List (Key × V)) : Prop where
 keys : Fp G ks
 val : ∀ (i : Nat) v, Bv ks (Sum.inl (i : Int)) = some v -> ∃ (l : Nat) (b : Bx) (t : Addr), Ao G i l /\ BH G l i = some b /\ v = .ref t /\ H t = some (.tup (b.ns.map V.int))
structure AO (a : Ad) (H : Hp) (g : GA) (G : Gv) : Prop where
 at' : AS a H g G
 ok : GOk G
 g0 : ∃ r, G = G0 ++ r
 br : H g.br = some (.lst ((Dz 48).map V.int))
 am : ∃ ks, H g.am = some (.dK ks) /\ SB G ks
 bx : ∃ ks, H g.bx = some (.dK ks) /\ BxOk G H ks
 n1 : g.br ≠ g.lv
 n2 : g.br ≠ g.pt
 n3 : g.am ≠ g.bx
theorem AO.new {a : Ad} {H H' : Hp} {g : GA} (h : NO a H H' g G0 (Dz 48) (amK 8)) : AO a H' g G0 := ⟨h.at', g0_ok, ⟨[], by simp⟩, h.br, ⟨_, h.am, am0⟩, ⟨_, h.bx, ⟨by simp, fun k hk => by simp at hk⟩, fun i v e => by cases e⟩, h.n1, h.n2, h.n3⟩
theorem AO.ne_am {a : Ad} {H : Hp} {g : GA} {G : Gv} (h : AO a H g G) {b : Addr} {o : HO} (e : H b = some o) (n : ∀ ks, o ≠ .dK ks) : b ≠ g.am /\ b ≠ g.bx := by
 obtain ⟨ks, h1, _⟩ := h.am
 obtain ⟨ks', h2, _⟩ := h.bx
 exact ⟨Bn e h1 (n _), Bn e h2 (n _)⟩
theorem AO.same {a : Ad} {H H' : Hp} {g : GA} {G : Gv} (s : AB H H') (h : AO a H g G) : AO a H' g G := by
 obtain ⟨at', ok, g0, br, ⟨ks, h1, h2⟩, ⟨ks', h3, h4⟩, n1, n2, n3⟩ := h
 refine ⟨at'.same s, ok, g0, s _ _ br, ⟨ks, s _ _ h1, h2⟩, ⟨ks', s _ _ h3, h4.keys, fun i v e => ?_⟩, n1, n2, n3⟩
 obtain ⟨l, b, t, e1, e2, e3, e4⟩ := h4.val i v e
 exact ⟨l, b, t, e1, e2, e3, s _ _ e4⟩
theorem AG.le {G G' : Gv} {k : Nat} (go : AG G G' k) : G.length <= G'.length := by
 obtain ⟨r, e⟩ := go.pre
 rw [e, List.length_append]
 lia
theorem AO.fr {a : Ad} {H H' : Hp} {g : GA} {G G' : Gv} {m : Nat} (h : AO a H g G) (f : Fr g H H') (at2 : AS a H' g G') (go : AG G G' m) : AO a H' g G' := by
 obtain ⟨at', ok, ⟨r, g0⟩, br, ⟨ks, h1, h2⟩, ⟨ks', h3, h4⟩, n1, n2, n3⟩ := h
 obtain ⟨us, hp, _⟩ := at'.pt
 have keep : ∀ {b : Addr} {o : HO}, H b = some o -> (∀ l, o ≠ .lst l) -> (∀ l, o ≠ .dT l) -> H' b = some o := fun {b o} e z1 z2 => f _ _ e (Bn e at'.lv (z1 _)) (Bn e hp (z1 _)) (Bn e at'.nm (z2 _))
 obtain ⟨t, et⟩ := go.pre
 refine ⟨at2, go.ok, ⟨r ++ t, by rw [et, g0, List.append_assoc]⟩, f _ _ br n1 n2 (Bn br at'.nm (by intro z; cases z)), ⟨ks, keep h1 (by intro l z; cases z) (by intro l z; cases z), h2.app ok go⟩, ⟨ks', keep h3 (by intro l z; cases z) (by intro l z; cases z), h4.keys.app go.le, fun i v e => ?_⟩, n1, n2, n3⟩
 obtain ⟨l, b, t, e1, e2, e3, e4⟩ := h4.val i v e
 exact ⟨l, b, t, go.lev e1, by rw [Gm ok go l i e1]; exact e2, e3, keep e4 (by intro l z; cases z) (by intro l z; cases z)⟩
theorem AO.put {a : Ad} {H : Hp} {g : GA} {G : Gv} {l : Addr} {xs : List V} {o : HO} (h : AO a H g G) (hl : H l = some (.lst xs)) (m1 : l ≠ g.lv) (m2 : l ≠ g.pt) (m3 : l ≠ g.br) : AO a (upd H l o) g G := by
 obtain ⟨at', ok, g0, br, ⟨ks, h1, h2⟩, ⟨ks', h3, h4⟩, n1, n2, n3⟩ := h
 have other : ∀ {b v}, H b = some v -> v ≠ .lst xs -> upd H l o b = some v := fun {b v} e n => by rw [Av (Bn e hl n)]; exact e
 refine ⟨at'.put hl m1 m2, ok, g0, by rw [Av (Ne.symm m3)]; exact br, ⟨ks, other h1 (by intro z; cases z), h2⟩, ⟨ks', other h3 (by intro z; cases z), h4.keys, fun i v e => ?_⟩, n1, n2, n3⟩
 obtain ⟨l, b, t, e1, e2, e3, e4⟩ := h4.val i v e
 exact ⟨l, b, t, e1, e2, e3, other e4 (by intro z; cases z)⟩
def FrQ (g : GA) (H H' : Hp) : Prop := ∀ b o, H b = some o -> b ≠ g.am -> b ≠ g.bx -> H' b = some o
theorem FrQ.refl (g : GA) (H : Hp) : FrQ g H H := fun _ _ e _ _ => e
theorem FrQ.trans {g : GA} {H1 H2 H3 : Hp} (h : FrQ g H1 H2) (h2 : FrQ g H2 H3) : FrQ g H1 H3 := fun b o e n1 n2 => h2 b o (h b o e n1 n2) n1 n2
theorem AB.frq {g : GA} {H1 H2 : Hp} (h : AB H1 H2) : FrQ g H1 H2 := fun b o e _ _ => h b o e
theorem AS.dict {a : Ad} {H : Hp} {g : GA} {G : Gv} {d : Addr} {ks : List (Key × V)} {o : HO} (hd : H d = some (.dK ks)) (h : AS a H g G) : AS a (upd H d o) g G := by
 obtain ⟨h1, h2, ⟨ts, h3, h4⟩, h5, h6⟩ := h
 have other : ∀ {b v}, H b = some v -> v ≠ .dK ks -> upd H d o b = some v := fun {b v} e n => by rw [Av (Bn e hd n)]; exact e
 exact ⟨other h1 (by intro z; cases z), other h2 (by intro z; cases z), ⟨ts, other h3 (by intro z; cases z), PairedM.imp (fun t q z => other z (by intro z; cases z)) h4⟩, other h5 (by intro z; cases z), h6⟩
theorem AO.bx_put {a : Ad} {H : Hp} {g : GA} {G : Gv} {ks ks2 : List (Key × V)} (h : AO a H g G) (e : H g.bx = some (.dK ks)) (h2 : BxOk G H ks2) : AO a (upd H g.bx (.dK ks2)) g G /\ FrQ g H (upd H g.bx (.dK ks2)) := by
 obtain ⟨at', ok, g0, br, ⟨ks', h3, h4⟩, ⟨_, _, _⟩, n1, n2, n3⟩ := h
 have other : ∀ {b v}, H b = some v -> v ≠ .dK ks -> upd H g.bx (.dK ks2) b = some v := fun {b v} e' n => by rw [Av (Bn e' e n)]; exact e'
 refine ⟨⟨at'.dict e, ok, g0, other br (by intro z; cases z), ⟨ks', by rw [Av n3]; exact h3, h4⟩, ⟨_, Ai, h2.keys, fun i v e => ?_⟩, n1, n2, n3⟩, fun b o e' _ m1 => by rw [Av m1]; exact e'⟩
 obtain ⟨l, b, t, e1, e2, e3, e4⟩ := h2.val i v e
 exact ⟨l, b, t, e1, e2, e3, other e4 (by intro z; cases z)⟩
theorem Nj (g : GA) : (fl6 g).lookup ("boxed" : Str) = none := FR g (by decide +kernel) (by decide +kernel) (by decide +kernel) (by decide +kernel) (by decide +kernel) (by decide +kernel)
theorem Nh (g : GA) : (fl6 g).lookup ("measured" : Str) = none := FR g (by decide +kernel) (by decide +kernel) (by decide +kernel) (by decide +kernel) (by decide +kernel) (by decide +kernel)
theorem no_span (g : GA) : (fl6 g).lookup ("span" : Str) = none := FR g (by decide +kernel) (by decide +kernel) (by decide +kernel) (by decide +kernel) (by decide +kernel) (by decide +kernel)
end J
namespace J
open PySem L2
seal L2.PA L2.PE L2.PS L2.PSs L2.PT L2.PW
theorem Ce.mem {G : Gv} {n i : Nat} {q : Sq} {x y z w : Nat} (h : Ce G n i q x y z w) {j : Nat} {v : V} (e : (q.parts.map V.int)[j]? = some v) : ∃ k : Nat, v = .int k /\ Ao G k n /\ q.parts[j]? = some (k : Int) := by
 rw [List.getElem?_map] at e
 obtain ⟨p, hp, rfl⟩ := Option.map_eq_some_iff.mp e
 have hm := List.mem_of_getElem? hp
 rw [h.ps] at hm
 simp only [List.mem_cons, List.not_mem_nil, or_false] at hm
 rcases hm with rfl | rfl | rfl | rfl
 ·exact ⟨x, rfl, h.hx, hp⟩
 ·exact ⟨y, rfl, h.hy, hp⟩
 ·exact ⟨z, rfl, h.hz, hp⟩
 ·exact ⟨w, rfl, h.hw, hp⟩
section
variable {P : Program} {w : World} {K : PySem.W.Frag} {mg : Str -> Option Value} {base : Heap} {a : Ad}
end
end J
namespace J
open PySem L2
seal L2.PA L2.PE L2.PS L2.PSs L2.PT L2.PW
theorem JR (half : Int) : ∀ (l r : List (Option Bx)) (k : Nat), DB half k (l ++ r) = DB half k l ++ DB half (k + l.length) r
 | [], r, k => rfl
 | none :: l, r, k => by
  show DB half (k + 1) (l ++ r) = DB half (k + 1) l ++ DB half (k + (l.length + 1)) r
  rw [JR half l r (k + 1), show k + 1 + l.length = k + (l.length + 1) by lia]
 | some b :: l, r, k => by
  show shB half k b :: DB half (k + 1) (l ++ r) = shB half k b :: (DB half (k + 1) l ++ DB half (k + (l.length + 1)) r)
  rw [JR half l r (k + 1), show k + 1 + l.length = k + (l.length + 1) by lia]
theorem Ij (half : Int) : ∀ (l : List (Option Bx)) (k : Nat), (DB half k l).length <= l.length
 | [], k => Nat.le_refl _
 | none :: l, k => Nat.le_trans (Ij half l (k + 1)) (Nat.le_succ _)
 | some b :: l, k => Nat.succ_le_succ (Ij half l (k + 1))
theorem PairedM.getL {α β : Type} {F : α -> β -> Prop} : ∀ {l : List α} {m : List β} {i : Nat} {x : α}, Paired F l m -> l[i]? = some x -> ∃ y, m[i]? = some y /\ F x y
 | _, _, _, _, .nil, e => by simp at e
 | _, _, 0, _, .cons r _, e => by simp at e; subst e; exact ⟨_, rfl, r⟩
 | _, _, i + 1, x, .cons _ t, e => by
  obtain ⟨y, h1, h2⟩ := PairedM.getL (i := i) (x := x) t (by simpa using e)
  exact ⟨y, by simpa using h1, h2⟩
def IE (H : Hp) (t : Addr) (b : Bx) : Prop := H t = some (.tup (b.ns.map V.int))
theorem Jp {β : Type} {K : PySem.W.Frag} {k : Nat} {cs : List Nat} {g : TG} {tc : TT} {te : TE} {σ : St} {H : Hp} {fin : List V -> Hp -> Prop} {D : Addr -> β -> Prop} {L : Addr} {ts : List Addr} {bs : List β} (col : β -> Int) (hL : H L = some (.lst (ts.map V.ref))) (pr : Paired D ts bs) (few : ts.length < 1000)
  (hs : ∀ t b acc N, D t b -> acc.length < sizeLine -> N (acc ++ [.int (col b)]) H -> Bt k cs g tc te σ (.ref t) acc H N) (hd : fin ((bs.map col).map V.int) H) : FK k cs g tc te (Itl K L) σ H fin := by
 have ln : ts.length = bs.length := Paired.length pr
 refine Sh (xs := ts.map V.ref) (fun j acc H2 => H = H2 /\ acc = ((bs.take j).map col).map V.int) ⟨rfl, rfl⟩ (fun j acc H2 _ z => z.1 ▸ SqL.of hL) ?_ ?_
 ·rintro j v acc H2 ev ⟨rfl, rfl⟩
  rw [List.getElem?_map] at ev
  obtain ⟨t, et, rfl⟩ := Option.map_eq_some_iff.mp ev
  obtain ⟨b, eb, d⟩ := PairedM.getL pr et
  refine hs t b _ _ d (by rw [List.length_map, List.length_map, List.length_take]; exact EC (by lia)) ⟨rfl, ?_⟩
  rw [List.take_add_one, eb, List.map_append, List.map_append]
  rfl
 ·rintro acc H2 ⟨rfl, rfl⟩
  rw [List.length_map, ln, List.take_length]
  exact hd
section
variable {P : Program} {w : World} {K : PySem.W.Frag} {mg : Str -> Option Value} {base : Heap} {a : Ad}
inductive Pr (vs : List V) (H : Hp) (Q : VK) : Prop
 | mk (t : Addr) (b : Bx) (dx dy : Int) (_ : vs = [.ref t, .int dx, .int dy]) (_ : IE H t b) (_ : ∀ t', H t' = none -> Q (.ref t') (upd H t' (.tup [.int (b.l + dx), .int (b.t + dy), .int b.w, .int b.h]))) : Pr vs H Q
def Gp : Sp := fun vs H Q _ => Pr vs H Q
theorem Ri {f : Addr} {fd : FuncData} (F : Fun K "shifted_box" "shifted_box" Cy f fd) (T : Top K mg a) : AY P w K mg base CX0 1 f fd BJ Gp := by
 refine F.ok Jx (fun vs H Q E h => ?_) (fun cdv A outer s H vs Q E hr h => ?_)
 ·obtain ⟨t, b, dx, dy, rfl, _⟩ := h
  rfl
 ·obtain ⟨t, b, dx, dy, rfl, ht, k⟩ := h
  have ht : H t = some (.tup [.int b.l, .int b.t, .int b.w, .int b.h]) := ht
  refine ⟨_, (Aj (Aw (Cc (Bk AI (Ak Am (pv 0) Ac (fun _ _ => rfl)) (pv 1) (Bk AI (Ak Am (pv 0) Ac (fun _ _ => rfl)) (pv 2) (Aa (Ak Am (pv 0) Ac (fun _ _ => rfl)) (Aa (Ak Am (pv 0) Ac (fun _ _ => rfl)) Ae))))))), ?_⟩
  try dsimp only [cxK]
  refine ⟨_, rfl, t, _, 0, .int b.l, rfl, rfl, SqT.of ht, Af (j := 0) rfl, _, rfl, _, _, rfl, rfl, _, rfl, t, _, 1, .int b.t, rfl, rfl, SqT.of ht, Af (j := 1) rfl, _, rfl, _, _, rfl, rfl, _, rfl, t, _, 2, .int b.w, rfl, rfl, SqT.of ht, Af (j := 2) rfl, _, rfl, t, _, 3, .int b.h, rfl, rfl, SqT.of ht, Af (j := 3) rfl, (by show 4 <= sizeLine; decide), fun t' n => k t' n⟩
inductive Pu (vs : List V) (H : Hp) (Q : VK) : Prop
 | mk (L : Addr) (ts : List Addr) (bs : List Bx) (_ : vs = [.ref L]) (_ : H L = some (.lst (ts.map V.ref))) (_ : Paired (IE H) ts bs) (_ : bs ≠ []) (_ : ts.length < 1000) (_ : ∀ t' H', AB H H' -> IE H' t' (JQ bs) -> Q (.ref t') H') : Pu vs H Q
def Je : Sp := fun vs H Q _ => Pu vs H Q
theorem Ro {f : Addr} {fd : FuncData} (F : Fun K "least_box" "least_box" BI f fd) (T : Top K mg a) : AY P w K mg base CX0 1 f fd Dv Je := by
 refine F.ok DC (fun vs H Q E h => ?_) (fun cdv A outer s H vs Q E hr h => ?_)
 ·obtain ⟨L, ts, bs, rfl, _⟩ := h
  rfl
 ·obtain ⟨L, ts, bs, rfl, hL, pr, ne, few, k⟩ := h
  have nem : ∀ col : Bx -> Int, bs.map col ≠ [] := fun col z => ne (List.map_eq_nil_iff.mp z)
  refine ⟨_, (Ab (Al (i := 1) DC.nd rfl (Or.inl rfl) (AN (Gw rfl) rfl T.b_min PyProof.Rows.boot_min (Aa (Fg rfl (Db.of (So := Ah BI) (No := Et) (N := ["box"]) (k := 1) (cs := []) rfl rfl (by decide +kernel)) (GY (pv 0)) (fun _ _ _ => (DK (i := 0) (by decide +kernel) rfl rfl)) (fun _ _ _ => ED) (fun _ _ _ => (Ak (El (K := K) rfl) (pv 0) Ac (fun _ _ => rfl)))) Ae))) (Ab (Al (i := 2) DC.nd rfl (Or.inl rfl) (AN (Gw rfl) rfl T.b_min PyProof.Rows.boot_min (Aa (Fg rfl (Db.of (So := Ah BI) (No := Et) (N := ["box"]) (k := 1) (cs := []) rfl rfl (by decide +kernel)) (GY (pv 0)) (fun _ _ _ => (DK (i := 0) (by decide +kernel) rfl rfl)) (fun _ _ _ => ED) (fun _ _ _ => (Ak (El (K := K) rfl) (pv 0) Ac (fun _ _ => rfl)))) Ae))) (Ab (Al (i := 3) DC.nd rfl (Or.inl rfl) (AN (Gx rfl) rfl T.b_max PyProof.Rows.boot_max (Aa (Fg rfl (Db.of (So := Ah BI) (No := Et) (N := ["box"]) (k := 1) (cs := []) rfl rfl (by decide +kernel)) (GY (pv 0)) (fun _ _ _ => (DK (i := 0) (by decide +kernel) rfl rfl)) (fun _ _ _ => ED) (fun _ _ _ => (Aq AI (Ak (El (K := K) rfl) (pv 0) Ac (fun _ _ => rfl)) (Ak (El (K := K) rfl) (pv 0) Ac (fun _ _ => rfl))))) Ae))) (Ab (Al (i := 4) DC.nd rfl (Or.inl rfl) (AN (Gx rfl) rfl T.b_max PyProof.Rows.boot_max (Aa (Fg rfl (Db.of (So := Ah BI) (No := Et) (N := ["box"]) (k := 1) (cs := []) rfl rfl (by decide +kernel)) (GY (pv 0)) (fun _ _ _ => (DK (i := 0) (by decide +kernel) rfl rfl)) (fun _ _ _ => ED) (fun _ _ _ => (Aq AI (Ak (El (K := K) rfl) (pv 0) Ac (fun _ _ => rfl)) (Ak (El (K := K) rfl) (pv 0) Ac (fun _ _ => rfl))))) Ae))) (Aj (Aw (Cc (Aa (pv 1) (Aa (pv 2) (Bk AV (pv 3) (pv 1) (Bk AV (pv 4) (pv 2) Ae))))))))))), ?_⟩
  try dsimp only [cxK]
  refine ⟨_, rfl, L, rfl, ⟨_, SqL.of hL⟩, Jp (·.l) hL pr few (fun t b acc N d la nx => ⟨⟨[some (.ref t)], rfl, rfl⟩, la, PB ⟨_, rfl, t, _, 0, .int b.l, rfl, rfl, SqT.of d, Af (j := 0) rfl, nx⟩⟩) fun q1 h1 => ?_⟩
  refine ⟨q1, _, rfl, SqL.of Ai, nem _, fun m1 hm1 hn1 => ?_⟩
  obtain rfl := RA hm1 hn1
  have s1 := An (o := .lst ((bs.map (·.l)).map V.int)) h1
  generalize upd H q1 (.lst ((bs.map (·.l)).map V.int)) = H1 at s1 ⊢
  have hL1 := s1 _ _ hL
  have pr1 : Paired (IE H1) ts bs := PairedM.imp (fun t b z => s1 _ _ z) pr
  refine ⟨_, rfl, L, rfl, ⟨_, SqL.of hL1⟩, Jp (·.t) hL1 pr1 few (fun t b acc N d la nx => ⟨⟨[some (.ref t)], rfl, rfl⟩, la, PB ⟨_, rfl, t, _, 1, .int b.t, rfl, rfl, SqT.of d, Af (j := 1) rfl, nx⟩⟩) fun q2 h2 => ?_⟩
  refine ⟨q2, _, rfl, SqL.of Ai, nem _, fun m2 hm2 hn2 => ?_⟩
  obtain rfl := RA hm2 hn2
  have s2 := s1.trans (An (o := .lst ((bs.map (·.t)).map V.int)) h2)
  generalize upd H1 q2 (.lst ((bs.map (·.t)).map V.int)) = H2 at s2 ⊢
  have hL2 := s2 _ _ hL
  have pr2 : Paired (IE H2) ts bs := PairedM.imp (fun t b z => s2 _ _ z) pr
  refine ⟨_, rfl, L, rfl, ⟨_, SqL.of hL2⟩, Jp (fun b => b.l + b.w) hL2 pr2 few (fun t b acc N d la nx => ⟨⟨[some (.ref t)], rfl, rfl⟩, la, PB ⟨_, rfl, t, _, 0, .int b.l, rfl, rfl, SqT.of d, Af (j := 0) rfl, _, rfl, t, _, 2, .int b.w, rfl, rfl, SqT.of d, Af (j := 2) rfl, _, _, rfl, rfl, nx⟩⟩) fun q3 h3 => ?_⟩
  refine ⟨q3, _, rfl, SqL.of Ai, nem _, fun m3 hm3 hn3 => ?_⟩
  obtain rfl := Rz hm3 hn3
  have s3 := s2.trans (An (o := .lst ((bs.map fun b => b.l + b.w).map V.int)) h3)
  generalize upd H2 q3 (.lst ((bs.map fun b => b.l + b.w).map V.int)) = H3 at s3 ⊢
  have hL3 := s3 _ _ hL
  have pr3 : Paired (IE H3) ts bs := PairedM.imp (fun t b z => s3 _ _ z) pr
  refine ⟨_, rfl, L, rfl, ⟨_, SqL.of hL3⟩, Jp (fun b => b.t + b.h) hL3 pr3 few (fun t b acc N d la nx => ⟨⟨[some (.ref t)], rfl, rfl⟩, la, PB ⟨_, rfl, t, _, 1, .int b.t, rfl, rfl, SqT.of d, Af (j := 1) rfl, _, rfl, t, _, 3, .int b.h, rfl, rfl, SqT.of d, Af (j := 3) rfl, _, _, rfl, rfl, nx⟩⟩) fun q4 h4 => ?_⟩
  refine ⟨q4, _, rfl, SqL.of Ai, nem _, fun m4 hm4 hn4 => ?_⟩
  obtain rfl := Rz hm4 hn4
  have s4 := s3.trans (An (o := .lst ((bs.map fun b => b.t + b.h).map V.int)) h4)
  generalize upd H3 q4 (.lst ((bs.map fun b => b.t + b.h).map V.int)) = H4 at s4 ⊢
  exact ⟨_, rfl, _, rfl, _, rfl, _, rfl, _, _, rfl, rfl, _, rfl, _, rfl, _, _, rfl, rfl, (by show 4 <= sizeLine; decide), fun t5 h5 => k t5 _ (s4.trans (An h5)) Ai⟩
inductive SpBox (a : Ad) (n : Nat) (vs : List V) (H : Hp) (Q : VK) : Prop
 | mk (g : GA) (G : Gv) (i l : Nat) (_ : vs = [.ref g.p, .int i]) (_ : AO a H g G) (_ : Ao G i l) (_ : l < n) (_ : G.length < 9000000) (_ : (BH G l i = none -> ∀ H', FrQ g H H' -> AO a H' g G -> Q .non H')) (_ : ∀ b, BH G l i = some b -> ∀ t H', FrQ g H H' -> AO a H' g G -> IE H' t b -> Q (.ref t) H') : SpBox a n vs H Q
def MO (a : Ad) (n : Nat) : Sp := fun vs H Q _ => SpBox a n vs H Q
inductive SpMea (a : Ad) (n : Nat) (vs : List V) (H : Hp) (Q : VK) : Prop
 | mk (g : GA) (G : Gv) (i l : Nat) (b : Bx) (_ : vs = [.ref g.p, .int i]) (_ : AO a H g G) (_ : Ao G i l) (_ : l < n) (_ : G.length < 9000000) (_ : BH G l i = some b) (_ : ∀ t H', FrQ g H H' -> AO a H' g G -> IE H' t b -> Q (.ref t) H') : SpMea a n vs H Q
def spMea (a : Ad) (n : Nat) : Sp := fun vs H Q _ => SpMea a n vs H Q
theorem LK (m : Nat) {l : Int} (e : l = (m : Int) + 1) : (1 : Int) * 2 ^ (l - 1).toNat = 2 ^ m := by
 rw [e, Int.one_mul, show ((m : Int) + 1 - 1).toNat = m by lia]
theorem ok_mea {n d : Nat} {f : Addr} {fd : FuncData} (F : Fun K "measured" "Grove.measured" Br f fd) (T : Top K mg a) (hd : 1 <= d) (C_shifted_box : Cal P w K mg base CX0 1 "shifted_box" BJ Gp) (C_least_box : Cal P w K mg base CX0 1 "least_box" Dv Je) (M_Grove_boxed : CM P w K mg base CX0 d a.c_Grove "boxed" BL (MO a n)) : AY P w K mg base CX0 (d + 1) f fd Co (spMea a (n + 1)) := by
 refine F.ok Bj (fun vs H Q E h => ?_) (fun cdv A outer s H vs Q E hr h => ?_)
 ·obtain ⟨g, G, i, l, b, rfl, _⟩ := h
  rfl
 ·obtain ⟨g, G, i, l, b, rfl, fu, hl, ln, few, eb, k⟩ := h
  obtain ⟨q0, e0, l0⟩ := id hl
  refine ⟨_, (Ab (Al (i := 2) Bj.nd rfl (Or.inl rfl) (Ak AC (AQ (pv 0) rfl) (pv 1) (fun _ _ => rfl))) (Ab (Bh (AL FD (pv 2) Ac (AM _)) (Aj (Aw (Cc (AH (AH (AH (AH Ae))))))) AD) (Ab (Al (i := 3) Bj.nd rfl (Or.inl rfl) (Aq GL Ac (Aq AV (pv 2) Ac))) (Ab (Al (i := 4) Bj.nd rfl (Or.inl rfl) (EV Ae)) (Ab (Dj PassesOwn.never rfl (LU true rfl T.b_enumerate (Aa (Ak AC (AQ (pv 0) rfl) (pv 1) (fun _ _ => rfl)) Ae)) (NZ rfl (Fw (BG (i := 5) Bj.nd rfl (Or.inl rfl)) (Fw (BG (i := 6) Bj.nd rfl (Or.inl rfl)) LV))) (Ab (Al (i := 7) Bj.nd rfl (Or.inl rfl) (AU (pv 0) M_Grove_boxed (rm hr) Ar (Aa (pv 6) Ae))) (Aj (Bh (AL op_notN (pv 7) Fl (AM _)) (Aj (DI (JE PySem.F.plainAttrs_list PySem.F.slot_list_append PySem.F.type_list_append Eh (pv 4) (Aa (As C_shifted_box (rm hr) rfl Ar (Aa (pv 7) (Bk Ez (pv 3) (Aq Bl (pv 5) Ac) (Bk Ez (pv 3) (Aq Bw (pv 5) Ac) Ae)))) Ae)))) AD)))) (Aj (Aw (As C_least_box (rm hr) rfl Ar (Aa (pv 4) Ae))))))))), ?_⟩
  try dsimp only [cxK]
  refine ⟨_, rfl, g.p, _, g.dx, _, _, rfl, fu.at'.hp, T.cl_Grove, T.na_Grove_levels, Ei g, _, rfl, g.lv, _, (i : Int), .int q0.lev, rfl, rfl, SqL.of fu.at'.lv, Af (by rw [List.getElem?_map, e0]; rfl), ?_⟩
  cases l with
  | zero =>
   rw [l0]
   refine ⟨_, rfl, rfl, _, rfl, Da ⟨(by show 4 <= sizeLine; decide), fun t ht => ?_⟩⟩
   have e : b = ⟨0, 0, 1, 1⟩ := by
    have eb : (if i = 0 then none else some (⟨0, 0, 1, 1⟩ : Bx)) = some b := eb
    split at eb
    ·cases eb
    ·cases eb; rfl
   subst e
   have sm := An (o := .tup [.int 0, .int 0, .int 1, .int 1]) ht
   exact k t _ (AB.frq sm) (fu.same sm) Ai
  | succ m =>
   have l0' : q0.lev = (m : Int) + 1 := by rw [l0]; lia
   refine ⟨_, rfl, rfl, _, rfl, ?_⟩
   rw [decide_eq_false (by intro z; injection z with z; lia)]
   obtain ⟨q, x, y, z, w, nd⟩ := AX fu.ok hl
   obtain ⟨ts, h3, h4⟩ := fu.at'.pt
   obtain ⟨t, et, ht⟩ := PairedM.get h4 nd.g
   have ht : H t = some (.tup (q.parts.map V.int)) := ht
   have nt := fu.ne_am ht (by intro l z; cases z)
   refine BC ⟨_, rfl, _, _, rfl, rfl, _, _, rfl, rfl, ⟨by lia, by have := (fu.ok.lev e0).2; lia, by decide⟩, ?_⟩
   rw [show (fun (i j : Int) => V.int (i * 2 ^ j.toNat)) 1 (q0.lev - 1) = V.int (2 ^ m) from congrArg V.int (LK m l0')]
   refine ⟨(by show 0 <= sizeLine; decide), fun L hL => ?_⟩
   have m1 : L ≠ g.lv := Ne.symm (At fu.at'.lv hL)
   have m2 : L ≠ g.pt := Ne.symm (At h3 hL)
   have m3 : L ≠ g.br := Ne.symm (At fu.br hL)
   have s1 := An (o := .lst []) hL
   have hL1 : upd H L (.lst []) L = some (.lst []) := Ai
   generalize upd H L (.lst []) = H1 at s1 hL1 ⊢
   have fu1 := fu.same s1
   have h31 := s1 _ _ h3
   have ht1 := s1 _ _ ht
   generalize hobs : [BH G m x, BH G m y, BH G m z, BH G m w] = obs
   have lobs : obs.length = 4 := by rw [<- hobs]; rfl
   have eobs : BH G (m + 1) i = Lc (2 ^ m) obs := by rw [EO nd, hobs]
   have gobs : ∀ (j k : Nat), q.parts[j]? = some (k : Int) -> obs[j]? = some (BH G m k) := by
    intro j k e
    rw [nd.ps] at e
    rw [<- hobs]
    match j, e with
    | 0, e => have e : some (x : Int) = some (k : Int) := e; rw [show x = k from Int.ofNat.inj (Option.some.inj e)]; rfl
    | 1, e => have e : some (y : Int) = some (k : Int) := e; rw [show y = k from Int.ofNat.inj (Option.some.inj e)]; rfl
    | 2, e => have e : some (z : Int) = some (k : Int) := e; rw [show z = k from Int.ofNat.inj (Option.some.inj e)]; rfl
    | 3, e => have e : some (w : Int) = some (k : Int) := e; rw [show w = k from Int.ofNat.inj (Option.some.inj e)]; rfl
    | j + 4, e => simp at e
   refine ⟨_, rfl, g.p, _, g.dx, _, _, rfl, fu1.at'.hp, T.cl_Grove, T.na_Grove_parts, DQ g, _, rfl, g.pt, _, (i : Int), .ref t, rfl, rfl, SqL.of h31, Af (by rw [List.getElem?_map, et]; rfl), t, rfl, ⟨_, SqT.of ht1⟩, ?_⟩
   refine JS (b := true) (xs := q.parts.map V.int) (fun j σ H2 => ∃ (us : List Addr) (u5 u6 u7 : Option V), σ = [some (.ref g.p), some (.int i), some (.int q0.lev), some (.int (2 ^ m)), some (.ref L), u5, u6, u7] /\ FrQ g H H2 /\ AO a H2 g G /\ H2 L = some (.lst (us.map V.ref)) /\ Paired (IE H2) us (DB (2 ^ m) 0 (obs.take j))) ⟨[], none, none, none, rfl, AB.frq s1, fu1, hL1, .nil⟩ (fun j σ H2 _ ⟨_, _, _, _, _, fr, _⟩ => SqT.of (fr _ _ ht nt.1 nt.2)) ?_ ?_
   ·rintro j v σ H2 T' ev ⟨us, u5, u6, u7, rfl, fr, fu2, hL2, pr⟩ nT
    obtain ⟨k', rfl, hk, ek⟩ := nd.mem ev
    have eo := gobs j k' ek
    have hj : j < 4 := by rw [<- lobs]; exact (List.getElem?_eq_some_iff.mp eo).1
    have lu : us.length <= 4 := by
     rw [Paired.length pr]
     have := Ij (2 ^ m) (obs.take j) 0
     rw [List.length_take] at this
     lia
    have s2 := An (o := .tup [.int j, .int k']) nT
    refine RP Ai ?_
    generalize upd H2 T' (.tup [.int j, .int k']) = H3 at s2 ⊢
    have fu3 := fu2.same s2
    have ge : DB (2 ^ m) 0 (obs.take (j + 1)) = DB (2 ^ m) 0 (obs.take j) ++ DB (2 ^ m) j [BH G m k'] := by
     rw [List.take_add_one, eo, Option.toList_some, JR, List.length_take, lobs, Nat.zero_add, Nat.min_eq_left (by lia)]
    have nL : ∀ {H4 : Hp}, FrQ g H3 H4 -> H4 L = some (.lst (us.map V.ref)) := fun {H4} f4 => by
     have := s2 _ _ hL2
     have n := fu3.ne_am this (by intro l z; cases z)
     exact f4 _ _ this n.1 n.2
    have nP : ∀ {H4 : Hp}, FrQ g H3 H4 -> Paired (IE H4) us (DB (2 ^ m) 0 (obs.take j)) := fun {H4} f4 => PairedM.imp (fun t b z => by
     have := s2 _ _ z
     have n := fu3.ne_am this (by intro l z; cases z)
     exact f4 _ _ this n.1 n.2) pr
    refine ⟨_, rfl, g.p, g.dx, _, rfl, fu3.at'.hp, Nj g, _, rfl, g, G, k', m, rfl, fu3, hk, by lia, few, fun en H4 f4 fu4 => ?_, fun b' eb' t4 H4 f4 fu4 ht4 => ?_⟩
    ·refine ⟨_, rfl, rfl, _, rfl, BC ⟨us, _, _, _, rfl, (fr.trans (AB.frq s2)).trans f4, fu4, nL f4, ?_⟩⟩
     rw [ge, en]
     show Paired _ us (_ ++ [])
     rw [List.append_nil]
     exact nP f4
    ·refine ⟨_, rfl, rfl, _, rfl, Da ?_⟩
     refine ⟨_, rfl, .inl ⟨rfl, _, SqL.of (nL f4)⟩, _, rfl, _, rfl, _, rfl, _, _, rfl, rfl, (by show (0 : Int) < 2; decide), _, _, rfl, rfl, .inr ⟨by lia, by lia⟩, _, rfl, _, rfl, _, _, rfl, rfl, ⟨by decide, by decide⟩, _, _, rfl, rfl, .inr ⟨by lia, by lia⟩, ?_⟩
     refine ⟨t4, b', _, _, rfl, ht4, fun t5 h5 => ?_⟩
     have s5 := An (o := .tup [.int (b'.l + 2 ^ m * ((j : Int) % 2)), .int (b'.t + 2 ^ m * ((j : Int) / 2)), .int b'.w, .int b'.h]) h5
     have ht5 : IE (upd H4 t5 (.tup [.int (b'.l + 2 ^ m * ((j : Int) % 2)), .int (b'.t + 2 ^ m * ((j : Int) / 2)), .int b'.w, .int b'.h])) t5 (shB (2 ^ m) j b') := Ai
     generalize upd H4 t5 (.tup [.int (b'.l + 2 ^ m * ((j : Int) % 2)), .int (b'.t + 2 ^ m * ((j : Int) / 2)), .int b'.w, .int b'.h]) = H5 at s5 ht5 ⊢
     have hL5 := s5 _ _ (nL f4)
     have fu5 := fu4.same s5
     refine ⟨L, _, _, rfl, rfl, hL5, by rw [List.length_map]; exact EC (by lia), ?_⟩
     have other : ∀ {c : Addr} {l : List V}, H5 c = some (.tup l) -> upd H5 L (.lst (us.map V.ref ++ [.ref t5])) c = some (.tup l) := fun {c l} e => by rw [Av (Bn e hL5 (by intro z; cases z))]; exact e
     refine ⟨us ++ [t5], _, _, _, rfl, ?_, fu5.put hL5 m1 m2 m3, by rw [Ai, List.map_append]; rfl, ?_⟩
     ·intro c o e n1 n2
      have e5 := s5 _ _ (((fr.trans (AB.frq s2)).trans f4) _ _ e n1 n2)
      rw [Av (At e hL)]
      exact e5
     ·rw [ge, eb']
      exact Paired.snoc (PairedM.imp (fun c b z => other (s5 _ _ z)) (nP f4)) (other ht5)
   ·rintro σ H2 ⟨us, u5, u6, u7, rfl, fr, fu2, hL2, pr⟩
    rw [List.length_map, show q.parts.length = obs.length by rw [nd.ps, lobs]; rfl, List.take_length] at pr
    have eb2 : Lc (2 ^ m) obs = some b := by rw [<- eobs]; exact eb
    have lu : us.length <= 4 := by
     rw [Paired.length pr]
     have := Ij (2 ^ m) obs 0
     lia
    have e3 : DB (2 ^ m) 0 obs ≠ [] /\ JQ (DB (2 ^ m) 0 obs) = b := by
     unfold Lc at eb2
     split at eb2
     ·cases eb2
     ·rename_i b1 r1 eg
      rw [eg]
      exact ⟨(by intro z; cases z), Option.some.inj eb2⟩
    refine ⟨_, rfl, L, us, _, rfl, hL2, pr, e3.1, by lia, fun t' H' s' ht' => ?_⟩
    rw [e3.2] at ht'
    exact k t' H' (fr.trans (AB.frq s')) (fu2.same s') ht'
theorem Sj {l : Nat} (h : l <= 48) : ((Dz 48).map V.int)[l]? = some (.int (bareN l : Int)) := by
 unfold Dz
 rw [List.getElem?_map, List.getElem?_map, List.getElem?_range (by lia)]
 rfl
theorem ok_boxS {n d : Nat} {f : Addr} {fd : FuncData} (F : Fun K "boxed" "Grove.boxed" Cb f fd) (T : Top K mg a) (M_Grove_measured : CM P w K mg base CX0 d a.c_Grove "measured" Co (spMea a n)) : AY P w K mg base CX0 (d + 1) f fd BL (MO a n) := by
 refine F.ok DG (fun vs H Q E h => ?_) (fun cdv A outer s H vs Q E hr h => ?_)
 ·obtain ⟨g, G, i, l, rfl, _⟩ := h
  rfl
 ·obtain ⟨g, G, i, l, rfl, fu, hl, ln, few, k1, k2⟩ := h
  obtain ⟨q0, e0, l0⟩ := id hl
  have l48 : l <= 48 := by have := (fu.ok.lev e0).2; lia
  obtain ⟨ks, hbx, bok⟩ := fu.bx
  have lk := bok.keys.len
  obtain ⟨r, eg⟩ := fu.g0
  have bb := Gn fu.ok eg l i l48 hl
  refine ⟨_, (Ab (Bh (AL FD (pv 1) (Ak AC (AQ (pv 0) rfl) (Ak AC (AQ (pv 0) rfl) (pv 1) (fun _ _ => rfl)) (fun _ _ => rfl)) (AM _)) (Aj (Aw Fl)) AD) (Ab (Al (i := 2) DG.nd rfl (Or.inl rfl) (JD (FW hr) (AQ (pv 0) rfl) (pv 1) ⟨rfl, rfl, rfl, rfl⟩)) (Ab (Bh (AL GM (pv 2) Fl (AM _)) (Ab (Al (i := 2) DG.nd rfl (Or.inl rfl) (AU (pv 0) M_Grove_measured (rm hr) Ar (Aa (pv 1) Ae))) (Aj (FP (FW hr) (AQ (pv 0) rfl) (pv 1) (pv 2) rfl))) AD) (Aj (Aw (pv 2)))))), ?_⟩
  try dsimp only [cxK]
  refine ⟨_, rfl, _, rfl, g.p, _, g.dx, _, _, rfl, fu.at'.hp, T.cl_Grove, T.na_Grove_bares, Gh g, _, rfl, g.p, _, g.dx, _, _, rfl, fu.at'.hp, T.cl_Grove, T.na_Grove_levels, Ei g, _, rfl, g.lv, _, (i : Int), .int q0.lev, rfl, rfl, SqL.of fu.at'.lv, Af (by rw [List.getElem?_map, e0]; rfl), g.br, _, q0.lev, .int (bareN l : Int), rfl, rfl, SqL.of fu.br, by rw [l0]; exact Af (Sj l48), rfl, _, rfl, ?_⟩
  refine Ms (fun hc => ?_) (fun hc => ?_)
  ·have ei : i = bareN l := by
    have := of_decide_eq_true hc
    injection this with this
    exact Int.ofNat.inj this
   exact k1 (bb.mpr ei) H (FrQ.refl g H) fu
  ·have ne : ¬ i = bareN l := fun z => hc (by rw [z]; exact decide_eq_true rfl)
   obtain ⟨b, eb⟩ : ∃ b, BH G l i = some b := by
    cases e : BH G l i with
    | none => exact absurd (bb.mp e) ne
    | some b => exact ⟨b, rfl⟩
   refine ⟨_, rfl, g.p, _, g.dx, _, _, rfl, fu.at'.hp, T.cl_Grove, T.na_Grove_boxes, RY g, g.bx, rfl, .inl ⟨_, .inl hbx⟩, _, rfl, _, IZ.k (k := Sum.inl (i : Int)) hbx, ?_⟩
   cases e : Bv ks (Sum.inl (i : Int)) with
   | some v =>
    obtain ⟨l', b', t, hl', eb', rfl, ht⟩ := bok.val i v e
    have el : l' = l := Int.ofNat.inj (hl'.uniq hl)
    subst el
    rw [eb] at eb'
    cases eb'
    exact ⟨_, rfl, rfl, _, rfl, BC ⟨_, rfl, k2 b eb t H (FrQ.refl g H) fu ht⟩⟩
   | none =>
    refine ⟨_, rfl, rfl, _, rfl, Da ⟨_, rfl, g.p, g.dx, _, rfl, fu.at'.hp, Nh g, _, rfl, g, G, i, l, b, rfl, fu, hl, ln, few, eb, fun t H2 f2 fu2 ht2 => ?_⟩⟩
    obtain ⟨ks2, hbx2, bok2⟩ := fu2.bx
    have lk2 := bok2.keys.len
    obtain ⟨fu3, f3⟩ := fu2.bx_put hbx2 (ks2 := Di ks2 (Sum.inl (i : Int)) (.ref t)) ⟨bok2.keys.put hl.lt _, fun j v ev => by
     rw [Jr] at ev
     split at ev
     ·rename_i z
      injection z with z
      have : j = i := Int.ofNat.inj z
      subst this
      cases ev
      exact ⟨l, b, t, hl, eb, rfl, ht2⟩
     ·exact bok2.val j v ev⟩
    have nt := fu2.ne_am ht2 (by intro l z; cases z)
    exact ⟨_, rfl, _, rfl, g.p, _, g.dx, _, _, rfl, fu2.at'.hp, T.cl_Grove, T.na_Grove_boxes, RY g, _, rfl, g.bx, _, rfl, IW.k (k := Sum.inl (i : Int)) hbx2 (EC (by lia)), ⟨_, rfl, k2 b eb t _ (f2.trans f3) fu3 (f3 _ _ ht2 nt.1 nt.2)⟩⟩
theorem Rr {f : Addr} {fd : FuncData} {f' : Addr} {fd' : FuncData} (F : Fun K "boxed" "Grove.boxed" Cb f fd) (F' : Fun K "measured" "Grove.measured" Br f' fd') (T : Top K mg a) (Me : GF K a.c_Grove "boxed" f) (Bi : DA K fd BL []) (Me' : GF K a.c_Grove "measured" f') (Bi' : DA K fd' Co [])
  (C_shifted_box : Cal P w K mg base CX0 1 "shifted_box" BJ Gp) (C_least_box : Cal P w K mg base CX0 1 "least_box" Dv Je) : ∀ n, AY P w K mg base CX0 (2 * n + 2) f fd BL (MO a n)
 | 0 => by
  refine F.ok DG (fun vs H Q E h => ?_) (fun cdv A outer s H vs Q E hr h => ?_)
  ·obtain ⟨g, G, i, l, rfl, _, _, h0, _⟩ := h
   exact absurd h0 (Nat.not_lt_zero _)
  ·obtain ⟨g, G, i, l, rfl, _, _, h0, _⟩ := h
   exact absurd h0 (Nat.not_lt_zero _)
 | n + 1 => ok_boxS F T ⟨⟨f', fd', ok_mea (d := 2 * n + 2) F' T (by lia) C_shifted_box C_least_box ⟨⟨f, fd, Rr F F' T Me Bi Me' Bi' C_shifted_box C_least_box n, Me, Bi⟩, T.cl_Grove⟩, Me', Bi'⟩, T.cl_Grove⟩
inductive Sn (a : Ad) (vs : List V) (H : Hp) (Q : VK) : Prop
 | mk (g : GA) (G : Gv) (i l : Nat) (_ : vs = [.ref g.p, .int i]) (_ : AO a H g G) (_ : Ao G i l) (_ : G.length < 9000000) (_ : (BH G l i = none -> ∀ H', FrQ g H H' -> AO a H' g G -> Q .non H')) (_ : ∀ b, BH G l i = some b -> ∀ t H', FrQ g H H' -> AO a H' g G -> IE H' t b -> Q (.ref t) H') : Sn a vs H Q
def NS (a : Ad) : Sp := fun vs H Q _ => Sn a vs H Q
theorem ok_span {f : Addr} {fd : FuncData} (F : Fun K "span" "Grove.span" CQ f fd) (T : Top K mg a) (M_Grove_check_square : CM P w K mg base CX0 2 a.c_Grove "check_square" Bf (OM a)) (M_Grove_boxed : CM P w K mg base CX0 100 a.c_Grove "boxed" BL (MO a 49)) : AY P w K mg base CX0 101 f fd DN (NS a) := by
 refine F.ok La (fun vs H Q E h => ?_) (fun cdv A outer s H vs Q E hr h => ?_)
 ·obtain ⟨g, G, i, l, rfl, _⟩ := h
  rfl
 ·obtain ⟨g, G, i, l, rfl, fu, hl, few, k0, k1⟩ := h
  refine ⟨_, (Ab (DI (AU (pv 0) M_Grove_check_square (rm hr) Ar (Aa (pv 1) Ae))) (Aj (Aw (AU (pv 0) M_Grove_boxed (rm hr) Ar (Aa (pv 1) Ae))))), ?_⟩
  try dsimp only [cxK]
  have l48 : l < 49 := by
   obtain ⟨q, e, el⟩ := id hl
   have := (fu.ok.lev e).2
   lia
  refine ⟨_, rfl, g.p, g.dx, _, rfl, fu.at'.hp, Ni g, _, rfl, g, G, i, rfl, fu.at', hl.lt, ?_⟩
  exact ⟨_, rfl, g.p, g.dx, _, rfl, fu.at'.hp, Nj g, _, rfl, g, G, i, l, rfl, fu, hl, l48, few, k0, k1⟩
end
end J
namespace J
open PySem L2
seal L2.PA L2.PE L2.PS L2.PSs L2.PT L2.PW
def atN (ns : List Int) (k : Int) : Int := ns.getD k.toNat 0
section
variable {P : Program} {w : World} {K : PySem.W.Frag} {mg : Str -> Option Value} {base : Heap} {a : Ad}
inductive SpAt (K : PySem.W.Frag) (vs : List V) (H : Hp) (Q : VK) : Prop
 | mk (l : Addr) (ns : List Int) (k : Int) (_ : vs = [.ref l, .int k]) (_ : SqL K H l (ns.map V.int)) (_ : 0 <= k) (_ : Q (.int (atN ns k)) H) : SpAt K vs H Q
def QP (K : PySem.W.Frag) : Sp := fun vs H Q _ => SpAt K vs H Q
theorem ok_at {f : Addr} {fd : FuncData} (F : Fun K "_law_at" "_law_at" EM f fd) (T : Top K mg a) : AY P w K mg base CX0 1 f fd Eg (QP K) := by
 refine F.ok NX (fun vs H Q E h => ?_) (fun cdv A outer s H vs Q E hr h => ?_)
 ·obtain ⟨l, ns, k, rfl, _⟩ := h
  rfl
 ·obtain ⟨l, ns, k, rfl, hS, h0, q⟩ := h
  refine ⟨_, (Ab (Bh (AL JH (pv 1) (AN DR rfl T.b_len PySem.boot_len (Aa (pv 0) Ae)) (AM _)) (Aj (Aw (Ak AC (pv 0) (pv 1) (fun _ _ => rfl)))) AD) (Aj (Aw Ac))), ?_⟩
  try dsimp only [cxK]
  refine ⟨_, rfl, _, rfl, l, _, rfl, .inl hS, _, _, rfl, rfl, _, rfl, ?_⟩
  obtain ⟨n, rfl⟩ := Int.eq_ofNat_of_zero_le h0
  refine Ms (fun hc => ?_) (fun hc => ?_)
  ·have hc' : n < ns.length := by
    have := of_decide_eq_true hc
    rw [List.length_map] at this
    lia
   refine ⟨_, rfl, _, rfl, l, _, n, .int ns[n], rfl, rfl, hS, Af (by rw [List.getElem?_map, List.getElem?_eq_getElem hc']; rfl), ?_⟩
   have e : atN ns (n : Int) = ns[n] := by
    unfold atN
    rw [Int.toNat_natCast, List.getD_eq_getElem?_getD, List.getElem?_eq_getElem hc']
    rfl
   rw [e] at q
   exact q
  ·have hc' : ns.length <= n := by
    have : ¬ (n : Int) < ((ns.map V.int).length : Int) := fun z => hc (decide_eq_true z)
    rw [List.length_map] at this
    lia
   have e : atN ns (n : Int) = 0 := by
    unfold atN
    rw [Int.toNat_natCast, List.getD_eq_getElem?_getD, List.getElem?_eq_none hc']
    rfl
   rw [e] at q
   exact q
end
inductive SpLaw (K : PySem.W.Frag) (vs : List V) (H : Hp) (Q : VK) : Prop
 | mk (a : Addr) (ns : List Int) (_ : vs = [.ref a]) (_ : SqL K H a (ns.map V.int)) (_ : ns.length <= 63) (_ : ∀ H', Q (.bl true) H') : SpLaw K vs H Q
def OL (K : PySem.W.Frag) : Sp := fun vs H Q _ => SpLaw K vs H Q
end J
namespace J
open PySem L2
def Ap (g : GA) (x : Addr) : Prop := x ≠ g.lv /\ x ≠ g.pt /\ x ≠ g.nm
theorem Ap.new {a : Ad} {H : Hp} {g : GA} {G : Gv} (h : AS a H g G) {x : Addr} (n : H x = none) : Ap g x := by
 obtain ⟨ts, h3, _⟩ := h.pt
 exact ⟨Ne.symm (At h.lv n), Ne.symm (At h3 n), Ne.symm (At h.nm n)⟩
theorem Fr.get {g : GA} {H H' : Hp} {x : Addr} {o : HO} (f : Fr g H H') (p : Ap g x) (e : H x = some o) : H' x = some o := f _ _ e p.1 p.2.1 p.2.2
theorem Fr.tup {a : Ad} {g : GA} {G : Gv} {H H' : Hp} {x : Addr} {l : List V} (f : Fr g H H') (h : AS a H g G) (e : H x = some (.tup l)) : H' x = some (.tup l) := by
 obtain ⟨us, h3, _⟩ := h.pt
 exact f _ _ e (Bn e h.lv (by intro z; cases z)) (Bn e h3 (by intro z; cases z)) (Bn e h.nm (by intro z; cases z))
theorem AG.mono {G G' : Gv} {n m : Nat} (h : AG G G' n) (e : n <= m) : AG G G' m := ⟨h.ok, h.pre, Nat.le_trans h.few (by lia)⟩
theorem kit_t (K : PySem.W.Frag) : PySem.W.kitOne K (.type "tuple") (.type "tuple") = some true := by kernel_rfl
theorem Ff (l : Nat) : (0 : Int) < 2 ^ l := Int.pow_pos (by decide)
theorem pow2_lt {l : Nat} (h : l < 64) : (2 : Int) ^ l < 2 ^ 64 := by
 have : (2 : Nat) ^ l < 2 ^ 64 := Nat.pow_lt_pow_right (by decide) h
 exact_mod_cast this
section
variable {P : Program} {w : World} {K : PySem.W.Frag} {mg : Str -> Option Value} {base : Heap} {a : Ad}
end
end J
namespace J
open PySem L2
seal L2.PA L2.PE L2.PS L2.PSs L2.PT L2.PW
theorem Ec (l : Nat) : (2 : Int) ^ (l + 1) = 2 ^ l + 2 ^ l := by rw [Int.pow_succ]; lia
def BU (x y w h r : Int) : Prop := -r <= x /\ -r <= y /\ x + w <= r /\ y + h <= r
instance (x y w h r : Int) : Decidable (BU x y w h r) := by unfold BU; infer_instance
theorem lies_b (x y w h r : Int) : (decide (-r <= x) && (decide (-r <= y) && (decide (x + w <= r) && decide (y + h <= r)))) = decide (BU x y w h r) := by
 rw [Bool.eq_iff_iff]
 simp only [Bool.and_eq_true, decide_eq_true_eq]
 exact Iff.rfl
structure Wid (G : Gv) (n f w : Nat) : Prop where
 ex : ∃ (q : Sq) (x y z v a b c d : Nat), Ce G n f q x y z v /\ G[a]? = some ⟨[(bareN n : Int), (bareN n : Int), (bareN n : Int), (x : Int)], (n : Int) + 1⟩ /\ G[b]? = some ⟨[(bareN n : Int), (bareN n : Int), (y : Int), (bareN n : Int)], (n : Int) + 1⟩ /\
  G[c]? = some ⟨[(bareN n : Int), (z : Int), (bareN n : Int), (bareN n : Int)], (n : Int) + 1⟩ /\ G[d]? = some ⟨[(v : Int), (bareN n : Int), (bareN n : Int), (bareN n : Int)], (n : Int) + 1⟩ /\ G[w]? = some ⟨[(a : Int), (b : Int), (c : Int), (d : Int)], (n : Int) + 2⟩
theorem Wid.lev {G : Gv} {n f w : Nat} (h : Wid G n f w) : Ao G w ((n + 2 : Nat) : Int) := by
 obtain ⟨q, x, y, z, v, a, b, c, d, nd, ea, eb, ec, ed, ew⟩ := h.ex
 exact ⟨_, ew, by show (n : Int) + 2 = _; lia⟩
theorem Wid.app {G G' : Gv} {k n f w : Nat} (go : AG G G' k) (h : Wid G n f w) : Wid G' n f w := by
 obtain ⟨q, x, y, z, v, a, b, c, d, nd, ea, eb, ec, ed, ew⟩ := h.ex
 exact ⟨q, x, y, z, v, a, b, c, d, nd.app go, go.get ea, go.get eb, go.get ec, go.get ed, go.get ew⟩
theorem Cq {G r : Gv} (e : G = G0 ++ r) {n : Nat} (h : n <= 48) : Ao G (bareN n) (n : Int) := by
 rw [e]
 exact (RT n h).app
theorem bareL_at' {l : Nat} (h : l <= 48) : ((Dz 48).map V.int)[l]? = some (.int (bareN l : Int)) := by
 unfold Dz
 rw [List.getElem?_map, List.getElem?_map, List.getElem?_range (by lia)]
 rfl
section
variable {P : Program} {w : World} {K : PySem.W.Frag} {mg : Str -> Option Value} {base : Heap} {a : Ad}
inductive SpLie (vs : List V) (H : Hp) (Q : VK) : Prop
 | mk (t : Addr) (x y w h r : Int) (_ : vs = [.ref t, .int r]) (_ : H t = some (.tup [.int x, .int y, .int w, .int h])) (_ : Q (.bl (decide (BU x y w h r))) H) : SpLie vs H Q
def Ln : Sp := fun vs H Q _ => SpLie vs H Q
theorem ok_lie {f : Addr} {fd : FuncData} (F : Fun K "lies_within" "lies_within" Cz f fd) (T : Top K mg a) : AY P w K mg base CX0 1 f fd BK Ln := by
 refine F.ok Jy (fun vs H Q E h => ?_) (fun cdv A outer s H vs Q E hr h => ?_)
 ·obtain ⟨t, x, y, w, h, r, rfl, _⟩ := h
  rfl
 ·obtain ⟨t, x, y, wd, hh, r, rfl, ht, k⟩ := h
  rw [<- lies_b] at k
  refine ⟨_, (Aj (Aw (GK (Fh IH (En CG (pv 1)) (Ak Am (pv 0) Ac (fun _ _ => rfl)) (AM _)) (GK (Fh IH (En CG (pv 1)) (Ak Am (pv 0) Ac (fun _ _ => rfl)) (AM _)) (GK (Fh IH (Aq AI (Ak Am (pv 0) Ac (fun _ _ => rfl)) (Ak Am (pv 0) Ac (fun _ _ => rfl))) (pv 1) (AM _)) (JC (Fh IH (Aq AI (Ak Am (pv 0) Ac (fun _ _ => rfl)) (Ak Am (pv 0) Ac (fun _ _ => rfl))) (pv 1) (AM _)))))))), ?_⟩
  try dsimp only [cxK]
  refine ⟨_, rfl, _, rfl, _, rfl, t, _, 0, .int x, rfl, rfl, SqT.of ht, Af (j := 0) rfl, _, _, rfl, rfl, MD (fun _ Q1 q1 => ?_) k⟩
  refine ⟨_, rfl, _, rfl, _, rfl, t, _, 1, .int y, rfl, rfl, SqT.of ht, Af (j := 1) rfl, _, _, rfl, rfl, MD (fun _ Q2 q2 => ?_) q1⟩
  refine ⟨_, rfl, t, _, 0, .int x, rfl, rfl, SqT.of ht, Af (j := 0) rfl, _, rfl, t, _, 2, .int wd, rfl, rfl, SqT.of ht, Af (j := 2) rfl, _, _, rfl, rfl, _, rfl, _, _, rfl, rfl, MD (fun _ Q3 q3 => ?_) q2⟩
  exact ⟨_, rfl, t, _, 1, .int y, rfl, rfl, SqT.of ht, Af (j := 1) rfl, _, rfl, t, _, 3, .int hh, rfl, rfl, SqT.of ht, Af (j := 3) rfl, _, _, rfl, rfl, _, rfl, _, _, rfl, rfl, q3⟩
inductive Ps (a : Ad) (vs : List V) (H : Hp) (Q : VK) : Prop
 | mk (g : GA) (G : Gv) (i n : Nat) (_ : vs = [.ref g.p, .int i]) (_ : AS a H g G) (_ : Ao G i ((n + 1 : Nat) : Int)) (_ : n < 48) (_ : Q (.int (2 ^ n)) H) : Ps a vs H Q
def FL (a : Ad) : Sp := fun vs H Q _ => Ps a vs H Q
theorem Rl {f : Addr} {fd : FuncData} (F : Fun K "reach_of" "reach_of" DX f fd) (T : Top K mg a) (M_Grove_level_of : CM P w K mg base CX0 3 a.c_Grove "level_of" AW (Jv a)) : AY P w K mg base CX0 4 f fd Ct (FL a) := by
 refine F.ok MR (fun vs H Q E h => ?_) (fun cdv A outer s H vs Q E hr h => ?_)
 ·obtain ⟨g, G, i, n, rfl, _⟩ := h
  rfl
 ·obtain ⟨g, G, i, n, rfl, hg, ⟨q, e, el⟩, n48, k⟩ := h
  refine ⟨_, (Aj (Aw (Aq GL Ac (Aq AV (AU (pv 0) M_Grove_level_of (rm hr) Ar (Aa (pv 1) Ae)) Ac)))), ?_⟩
  try dsimp only [cxK]
  have en : q.lev = (n : Int) + 1 := by rw [el]; lia
  refine ⟨_, rfl, g.p, g.dx, _, rfl, hg.hp, EZ g, _, rfl, g, G, i, q, rfl, hg, e, _, _, rfl, rfl, _, _, rfl, rfl, ⟨by lia, by lia, by decide⟩, ?_⟩
  show Q (.int (1 * 2 ^ (q.lev - 1).toNat)) H
  rw [LK n en]
  exact k
inductive Py (a : Ad) (vs : List V) (H : Hp) (Q : VK) : Prop
 | mk (g : GA) (G : Gv) (_ : vs = [.ref g.p]) (_ : AO a H g G) (_ : Q (.int (bareN 1 : Int)) H) : Py a vs H Q
def LP (a : Ad) : Sp := fun vs H Q _ => Py a vs H Q
theorem Rt {f : Addr} {fd : FuncData} (F : Fun K "bare_field" "bare_field" CN f fd) (T : Top K mg a) : AY P w K mg base CX0 1 f fd DL (LP a) := by
 refine F.ok JZ (fun vs H Q E h => ?_) (fun cdv A outer s H vs Q E hr h => ?_)
 ·obtain ⟨g, G, rfl, _⟩ := h
  rfl
 ·obtain ⟨g, G, rfl, fu, k⟩ := h
  exact ⟨_, (Aj (Aw (Ak AC (AQ (pv 0) rfl) (Df rfl T.k_LEAST_LEVEL) (fun _ _ => rfl)))), _, rfl, g.p, _, g.dx, _, _, rfl, fu.at'.hp, T.cl_Grove, T.na_Grove_bares, Gh g, g.br, _, 1, .int (bareN 1 : Int), rfl, rfl, SqL.of fu.br, Af (j := 1) (bareL_at' (by lia)), k⟩
inductive SpWid (a : Ad) (vs : List V) (H : Hp) (Q : VK) : Prop
 | mk (g : GA) (G : Gv) (f n : Nat) (_ : vs = [.ref g.p, .int f]) (_ : AO a H g G) (_ : Ao G f ((n + 1 : Nat) : Int)) (_ : n < 47) (_ : G.length < 8900000) (_ : ∀ (w : Nat) (G' : Gv) (H' : Hp), Fr g H H' -> AS a H' g G' -> AG G G' 5 -> Wid G' n f w -> Q (.int w) H') : SpWid a vs H Q
def QF (a : Ad) : Sp := fun vs H Q _ => SpWid a vs H Q
theorem ok_wid {f : Addr} {fd : FuncData} (F : Fun K "widened" "widened" EI f fd) (T : Top K mg a) (M_Grove_level_of : CM P w K mg base CX0 3 a.c_Grove "level_of" AW (Jv a)) (M_Grove_linked : CM P w K mg base CX0 2 a.c_Grove "linked" AT (Fj a)) : AY P w K mg base CX0 4 f fd Fz (QF a) := by
 refine F.ok FM (fun vs H Q E h => ?_) (fun cdv A outer s H vs Q E hr h => ?_)
 ·obtain ⟨g, G, f', n, rfl, _⟩ := h
  rfl
 ·obtain ⟨g, G, f', n, rfl, fu, hl, n47, few, k⟩ := h
  obtain ⟨q, x, y, z, v, nd⟩ := AX fu.ok hl
  have lq := nd.lev
  obtain ⟨ts, h3, h4⟩ := fu.at'.pt
  obtain ⟨t, et, ht⟩ := PairedM.get h4 nd.g
  have ht : H t = some (.tup [.int x, .int y, .int z, .int v]) := by
   have ht : H t = some (.tup (q.parts.map V.int)) := ht
   rw [nd.ps] at ht
   exact ht
  obtain ⟨r, e0⟩ := fu.g0
  have lb := Cq e0 (n := n) (by lia)
  refine ⟨_, (Ab (Al (i := 2) FM.nd rfl (Or.inl rfl) (AU (pv 0) M_Grove_level_of (rm hr) Ar (Aa (pv 1) Ae))) (Ab (Bh (PW.pt (IG (AL JH (pv 2) (Df rfl T.k_LEAST_LEVEL) (AM _)) (Ga (AL FD (pv 2) (Df rfl T.k_TOP_LEVEL) (AM _))))) (Aj CJ) AD) (Ab (Al (i := 3) FM.nd rfl (Or.inl rfl) (Ak AC (AQ (pv 0) rfl) (pv 1) (fun _ _ => rfl))) (Ab (Al (i := 4) FM.nd rfl (Or.inl rfl) (Ak AC (AQ (pv 0) rfl) (Aq AV (pv 2) Ac) (fun _ _ => rfl))) (Aj (Aw (AU (pv 0) M_Grove_linked (rm hr) Ar (BV (Aa (AU (pv 0) M_Grove_linked (rm hr) Ar (BV (Aa (pv 4) (Aa (pv 4) (Aa (pv 4) (Aa (Ak Am (pv 3) Ac (fun _ _ => rfl)) Ae)))) Ae)) (Aa (AU (pv 0) M_Grove_linked (rm hr) Ar (BV (Aa (pv 4) (Aa (pv 4) (Aa (Ak Am (pv 3) Ac (fun _ _ => rfl)) (Aa (pv 4) Ae)))) Ae)) (Aa (AU (pv 0) M_Grove_linked (rm hr) Ar (BV (Aa (pv 4) (Aa (Ak Am (pv 3) Ac (fun _ _ => rfl)) (Aa (pv 4) (Aa (pv 4) Ae)))) Ae)) (Aa (AU (pv 0) M_Grove_linked (rm hr) Ar (BV (Aa (Ak Am (pv 3) Ac (fun _ _ => rfl)) (Aa (pv 4) (Aa (pv 4) (Aa (pv 4) Ae)))) Ae)) Ae)))) Ae)))))))), ?_⟩
  try dsimp only [cxK]
  refine ⟨_, rfl, g.p, g.dx, _, rfl, fu.at'.hp, EZ g, _, rfl, g, G, f', q, rfl, fu.at', nd.g, ?_⟩
  refine ⟨_, rfl, _, _, rfl, rfl, _, rfl, ?_⟩
  rw [decide_eq_false (by lia : ¬ q.lev < 1)]
  refine BC ⟨_, rfl, rfl, _, rfl, ?_⟩
  rw [decide_eq_false (by intro z; injection z with z; lia)]
  refine BC ⟨_, rfl, g.p, _, g.dx, _, _, rfl, fu.at'.hp, T.cl_Grove, T.na_Grove_parts, DQ g, _, rfl, g.pt, _, (f' : Int), .ref t, rfl, rfl, SqL.of h3, Af (by rw [List.getElem?_map, et]; rfl), ?_⟩
  refine ⟨_, rfl, g.p, _, g.dx, _, _, rfl, fu.at'.hp, T.cl_Grove, T.na_Grove_bares, Gh g, _, rfl, _, _, rfl, rfl, g.br, _, q.lev - 1, .int (bareN n : Int), rfl, rfl, SqL.of fu.br, by rw [show q.lev - 1 = (n : Int) by lia]; exact Af (bareL_at' (by lia)), ?_⟩
  refine ⟨_, rfl, g.p, g.dx, _, rfl, fu.at'.hp, CC g, ?_⟩
  refine ⟨_, rfl, g.p, g.dx, _, rfl, fu.at'.hp, CC g, _, rfl, _, rfl, _, rfl, _, rfl, t, _, 0, .int x, rfl, rfl, SqT.of ht, Af (j := 0) rfl, (by show 4 <= sizeLine; decide), fun t1 ht1 => ?_⟩
  have s1 := An (o := .tup [.int (bareN n : Int), .int (bareN n : Int), .int (bareN n : Int), .int x]) ht1
  refine ⟨g, G, t1, bareN n, bareN n, bareN n, x, (n : Int), rfl, fu.at'.same s1, fu.ok, Ai, ⟨lb, lb, lb, nd.hx⟩, by lia, by lia, fun a1 G1 H1 fr1 hg1 go1 e1 => ?_⟩
  have f1 := (AB.fr s1).trans fr1
  have htA := f1.tup fu.at' ht
  have n1 := go1.few
  refine ⟨_, rfl, g.p, g.dx, _, rfl, hg1.hp, CC g, _, rfl, _, rfl, _, rfl, t, _, 1, .int y, rfl, rfl, SqT.of htA, Af (j := 1) rfl, _, rfl, (by show 4 <= sizeLine; decide), fun t2 ht2 => ?_⟩
  have s2 := An (o := .tup [.int (bareN n : Int), .int (bareN n : Int), .int y, .int (bareN n : Int)]) ht2
  refine ⟨g, G1, t2, bareN n, bareN n, y, bareN n, (n : Int), rfl, hg1.same s2, go1.ok, Ai, ⟨go1.lev lb, go1.lev lb, go1.lev nd.hy, go1.lev lb⟩, by lia, by lia, fun a2 G2 H2 fr2 hg2 go2 e2 => ?_⟩
  have f2 := f1.trans ((AB.fr s2).trans fr2)
  have htB := f2.tup fu.at' ht
  have n2 := go2.few
  have go12 := go1.trans go2
  refine ⟨_, rfl, g.p, g.dx, _, rfl, hg2.hp, CC g, _, rfl, _, rfl, t, _, 2, .int z, rfl, rfl, SqT.of htB, Af (j := 2) rfl, _, rfl, _, rfl, (by show 4 <= sizeLine; decide), fun t3 ht3 => ?_⟩
  have s3 := An (o := .tup [.int (bareN n : Int), .int z, .int (bareN n : Int), .int (bareN n : Int)]) ht3
  refine ⟨g, G2, t3, bareN n, z, bareN n, bareN n, (n : Int), rfl, hg2.same s3, go2.ok, Ai, ⟨go12.lev lb, go12.lev nd.hz, go12.lev lb, go12.lev lb⟩, by lia, by lia, fun a3 G3 H3 fr3 hg3 go3 e3 => ?_⟩
  have f3 := f2.trans ((AB.fr s3).trans fr3)
  have htC := f3.tup fu.at' ht
  have n3 := go3.few
  have go13 := go12.trans go3
  refine ⟨_, rfl, g.p, g.dx, _, rfl, hg3.hp, CC g, _, rfl, t, _, 3, .int v, rfl, rfl, SqT.of htC, Af (j := 3) rfl, _, rfl, _, rfl, _, rfl, (by show 4 <= sizeLine; decide), fun t4 ht4 => ?_⟩
  have s4 := An (o := .tup [.int v, .int (bareN n : Int), .int (bareN n : Int), .int (bareN n : Int)]) ht4
  refine ⟨g, G3, t4, v, bareN n, bareN n, bareN n, (n : Int), rfl, hg3.same s4, go3.ok, Ai, ⟨go13.lev nd.hw, go13.lev lb, go13.lev lb, go13.lev lb⟩, by lia, by lia, fun a4 G4 H4 fr4 hg4 go4 e4 => ?_⟩
  have f4 := f3.trans ((AB.fr s4).trans fr4)
  have n4 := go4.few
  have go14 := go13.trans go4
  refine ⟨(by show 4 <= sizeLine; decide), fun t5 ht5 => ?_⟩
  have s5 := An (o := .tup [.int a1, .int a2, .int a3, .int a4]) ht5
  have E1 := (go2.trans (go3.trans go4)).get e1
  have E2 := (go3.trans go4).get e2
  have E3 := go4.get e3
  refine ⟨g, G4, t5, a1, a2, a3, a4, (n : Int) + 1, rfl, hg4.same s5, go4.ok, Ai, ⟨⟨_, E1, rfl⟩, ⟨_, E2, rfl⟩, ⟨_, E3, rfl⟩, ⟨_, e4, rfl⟩⟩, by lia, by lia, fun w' G5 H5 fr5 hg5 go5 e5 => ?_⟩
  have go15 := go14.trans go5
  exact k w' G5 H5 (f4.trans ((AB.fr s5).trans fr5)) hg5 go15 ⟨q, x, y, z, v, a1, a2, a3, a4, nd.app go15, go5.get E1, go5.get E2, go5.get E3, go5.get e4, by rw [e5, show (n : Int) + 1 + 1 = (n : Int) + 2 by lia]⟩
end
end J
namespace J
open PySem L2
seal L2.PA L2.PE L2.PS L2.PSs L2.PT L2.PW
structure IV (G : Gv) (n i : Nat) (qs : Nat -> Nat) (ps : Nat -> Nat -> Nat) : Prop where
 node : ∃ q, Ce G (n + 1) i q (qs 0) (qs 1) (qs 2) (qs 3)
 sub : ∀ k, k < 4 -> ∃ q, Ce G n (qs k) q (ps k 0) (ps k 1) (ps k 2) (ps k 3)
theorem IV.app {G G' : Gv} {k n i : Nat} {qs : Nat -> Nat} {ps : Nat -> Nat -> Nat} (go : AG G G' k) (h : IV G n i qs ps) : IV G' n i qs ps := by
 obtain ⟨q, nd⟩ := h.node
 exact ⟨⟨q, nd.app go⟩, fun k hk => by obtain ⟨q, nd⟩ := h.sub k hk; exact ⟨q, nd.app go⟩⟩
def f4 (x y z w : Nat) (k : Nat) : Nat := match k with | 0 => x | 1 => y | 2 => z | _ => w
theorem deep_of {G : Gv} (ok : GOk G) {n i : Nat} (h : Ao G i ((n + 2 : Nat) : Int)) : ∃ qs ps, IV G n i qs ps := by
 obtain ⟨q, x, y, z, w, nd⟩ := AX ok (n := n + 1) h
 obtain ⟨_, x0, x1, x2, x3, nx⟩ := AX ok nd.hx
 obtain ⟨_, y0, y1, y2, y3, ny⟩ := AX ok nd.hy
 obtain ⟨_, z0, z1, z2, z3, nz⟩ := AX ok nd.hz
 obtain ⟨_, w0, w1, w2, w3, nw⟩ := AX ok nd.hw
 refine ⟨f4 x y z w, fun k => match k with | 0 => f4 x0 x1 x2 x3 | 1 => f4 y0 y1 y2 y3 | 2 => f4 z0 z1 z2 z3 | _ => f4 w0 w1 w2 w3, ⟨q, nd⟩, fun k hk => ?_⟩
 match k, hk with
 | 0, _ => exact ⟨_, nx⟩
 | 1, _ => exact ⟨_, ny⟩
 | 2, _ => exact ⟨_, nz⟩
 | 3, _ => exact ⟨_, nw⟩
theorem Ce.nat {G : Gv} {n i : Nat} {q : Sq} {x y z w : Nat} (h : Ce G n i q x y z w) {j : Nat} (hj : j < 4) : q.parts[j]? = some ((f4 x y z w j : Nat) : Int) /\ Ao G (f4 x y z w j) n := by
 rw [h.ps]
 match j, hj with
 | 0, _ => exact ⟨rfl, h.hx⟩
 | 1, _ => exact ⟨rfl, h.hy⟩
 | 2, _ => exact ⟨rfl, h.hz⟩
 | 3, _ => exact ⟨rfl, h.hw⟩
theorem Gi (p : Nat -> Nat) {j : Nat} (hj : j < 4) : f4 (p 0) (p 1) (p 2) (p 3) j = p j := by
 match j, hj with
 | 0, _ => rfl
 | 1, _ => rfl
 | 2, _ => rfl
 | 3, _ => rfl
def BA (n : Nat) (ps : Nat -> Nat -> Nat) : Prop := ∀ k j, k < 4 -> j < 4 -> j + k ≠ 3 -> ps k j = bareN n
def Ex (G : Gv) : Nat -> Nat -> Nat -> Prop
 | 0, _, _ => False
 | 1, f, r => r = f
 | n + 2, f, r => ∃ qs ps, IV G n f qs ps /\ ((¬ BA n ps /\ r = f) \/ (BA n ps /\ ∃ m, G[m]? = some ⟨[(ps 0 3 : Int), (ps 1 2 : Int), (ps 2 1 : Int), (ps 3 0 : Int)], (n : Int) + 1⟩ /\ Ex G (n + 1) m r))
theorem Ex.app {G G' : Gv} {k : Nat} (go : AG G G' k) : ∀ {n f r : Nat}, Ex G n f r -> Ex G' n f r
 | 0, _, _, h => h
 | 1, _, _, h => h
 | n + 2, f, r, h => by
  obtain ⟨qs, ps, d, h⟩ := h
  refine ⟨qs, ps, d.app go, ?_⟩
  rcases h with h | ⟨h1, m, h2, h3⟩
  ·exact .inl h
  ·exact .inr ⟨h1, m, go.get h2, Ex.app go h3⟩
section
variable {P : Program} {w : World} {K : PySem.W.Frag} {mg : Str -> Option Value} {base : Heap} {a : Ad}
theorem EE {H : Hp} {g : GA} {G : Gv} (h : AS a H g G) {n i : Nat} {q : Sq} {x y z w : Nat} (nd : Ce G n i q x y z w) : ∃ (ts : List Addr) (t : Addr), H g.pt = some (.lst (ts.map V.ref)) /\ (ts.map V.ref)[i]? = some (.ref t) /\ H t = some (.tup [.int x, .int y, .int z, .int w]) := by
 obtain ⟨ts, h3, h4⟩ := h.pt
 obtain ⟨t, et, ht⟩ := PairedM.get h4 nd.g
 refine ⟨ts, t, h3, by rw [List.getElem?_map, et]; rfl, ?_⟩
 have ht : H t = some (.tup (q.parts.map V.int)) := ht
 rw [nd.ps] at ht
 exact ht
inductive SpMid (a : Ad) (vs : List V) (H : Hp) (Q : VK) : Prop
 | mk (g : GA) (G : Gv) (i n : Nat) (qs : Nat -> Nat) (ps : Nat -> Nat -> Nat) (_ : vs = [.ref g.p, .int i]) (_ : AS a H g G) (_ : GOk G) (_ : IV G n i qs ps) (_ : n < 47) (_ : G.length < 8900000) (_ : ∀ (m : Nat) (G' : Gv) (H' : Hp), Fr g H H' -> AS a H' g G' -> AG G G' 1 -> G'[m]? = some ⟨[(ps 0 3 : Int), (ps 1 2 : Int), (ps 2 1 : Int), (ps 3 0 : Int)], (n : Int) + 1⟩ -> Q (.int m) H') : SpMid a vs H Q
def QI (a : Ad) : Sp := fun vs H Q _ => SpMid a vs H Q
theorem ok_mid {f : Addr} {fd : FuncData} (F : Fun K "middle_of" "middle_of" CI f fd) (T : Top K mg a) (M_Grove_linked : CM P w K mg base CX0 2 a.c_Grove "linked" AT (Fj a)) : AY P w K mg base CX0 3 f fd Eo (QI a) := by
 refine F.ok GT (fun vs H Q E h => ?_) (fun cdv A outer s H vs Q E hr h => ?_)
 ·obtain ⟨g, G, i, n, qs, ps, rfl, _⟩ := h
  rfl
 ·obtain ⟨g, G, i, n, qs, ps, rfl, hg, ok, dp, n47, few, k⟩ := h
  obtain ⟨q, nd⟩ := dp.node
  obtain ⟨ts, t, h3, et, ht⟩ := EE hg nd
  refine ⟨_, (Ab (NY (i := 2) rfl GT.nd rfl rfl (Db.of (So := Ah CI) (No := II) (N := ["quarter", "grove"]) (k := 1) (cs := [0]) rfl rfl (by decide +kernel)) (QY (Ak AC (AQ (pv 0) rfl) (pv 1) (fun _ _ => rfl))) (fun _ _ _ => (DK (i := 0) (by decide +kernel) rfl rfl)) (fun _ _ _ => ED) (fun _ _ _ => (Ak (RN (K := K) rfl) (pe_fldK (K := K) rfl (pv 1) rfl) (pv 0) (fun _ _ => rfl)))) (Aj (Aw (AU (pv 0) M_Grove_linked (rm hr) Ar (BV (Aa (Ak Am (Ak AC (pv 2) Ac (fun _ _ => rfl)) Ac (fun _ _ => rfl)) (Aa (Ak Am (Ak AC (pv 2) Ac (fun _ _ => rfl)) Ac (fun _ _ => rfl)) (Aa (Ak Am (Ak AC (pv 2) Ac (fun _ _ => rfl)) Ac (fun _ _ => rfl)) (Aa (Ak Am (Ak AC (pv 2) Ac (fun _ _ => rfl)) Ac (fun _ _ => rfl)) Ae)))) Ae))))), ?_⟩
  try dsimp only [cxK]
  refine ⟨_, rfl, g.p, _, g.dx, _, _, rfl, hg.hp, T.cl_Grove, T.na_Grove_parts, DQ g, _, rfl, g.pt, _, (i : Int), .ref t, rfl, rfl, SqL.of h3, Af et, t, rfl, ⟨_, SqT.of ht⟩, ?_⟩
  have sub : ∀ k, k < 4 -> ∃ tk, (ts.map V.ref)[qs k]? = some (.ref tk) /\ H tk = some (.tup [.int (ps k 0), .int (ps k 1), .int (ps k 2), .int (ps k 3)]) := fun k hk => by
   obtain ⟨qk, ndk⟩ := dp.sub k hk
   obtain ⟨ts', tk, h3', et', ht'⟩ := EE hg ndk
   rw [h3] at h3'
   have h3' := HO.lst.inj (Option.some.inj h3')
   exact ⟨tk, by rw [h3']; exact et', ht'⟩
  obtain ⟨t0, e0, p0⟩ := sub 0 (by decide)
  obtain ⟨t1, e1, p1⟩ := sub 1 (by decide)
  obtain ⟨t2, e2, p2⟩ := sub 2 (by decide)
  obtain ⟨t3, e3, p3⟩ := sub 3 (by decide)
  have all : ∀ (j : Nat) (v : V), [V.int (qs 0 : Int), V.int (qs 1 : Int), V.int (qs 2 : Int), V.int (qs 3 : Int)][j]? = some v -> ∃ (k : Nat) (tk : Addr), v = .int (k : Int) /\ (ts.map V.ref)[k]? = some (.ref tk) /\ [V.ref t0, V.ref t1, V.ref t2, V.ref t3][j]? = some (.ref tk) := fun j v ev => by
   match j, ev with
   | 0, ev => cases ev; exact ⟨qs 0, t0, rfl, e0, rfl⟩
   | 1, ev => cases ev; exact ⟨qs 1, t1, rfl, e1, rfl⟩
   | 2, ev => cases ev; exact ⟨qs 2, t2, rfl, e2, rfl⟩
   | 3, ev => cases ev; exact ⟨qs 3, t3, rfl, e3, rfl⟩
   | j + 4, ev => simp at ev
  refine blk_tup (xs := [.int (qs 0 : Int), .int (qs 1 : Int), .int (qs 2 : Int), .int (qs 3 : Int)]) (fun j acc H2 => H = H2 /\ acc = [V.ref t0, V.ref t1, V.ref t2, V.ref t3].take j) ⟨rfl, rfl⟩ (fun j acc H2 _ z => z.1 ▸ SqT.of ht) ?_ ?_
  ·rintro j v acc H2 ev ⟨rfl, rfl⟩
   obtain ⟨k', tk, rfl, ek, el⟩ := all j v ev
   refine ⟨⟨[some (.int k')], rfl, rfl⟩, by rw [List.length_take]; exact EC (by show min j 4 < 10000000; lia), PB ⟨_, rfl, g.p, _, g.dx, _, _, rfl, hg.hp, T.cl_Grove, T.na_Grove_parts, DQ g, _, rfl, g.pt, _, (k' : Int), .ref tk, rfl, rfl, SqL.of h3, Af ek, rfl, ?_⟩⟩
   rw [List.take_add_one, el]
   rfl
  ·rintro acc H2 ⟨rfl, rfl⟩ L hL
   have s1 := An (o := .lst [V.ref t0, V.ref t1, V.ref t2, V.ref t3]) hL
   have hL1 : upd H L (.lst [V.ref t0, V.ref t1, V.ref t2, V.ref t3]) L = some (.lst [V.ref t0, V.ref t1, V.ref t2, V.ref t3]) := Ai
   rw [show (List.take [V.int (qs 0 : Int), V.int (qs 1 : Int), V.int (qs 2 : Int), V.int (qs 3 : Int)].length [V.ref t0, V.ref t1, V.ref t2, V.ref t3]) = [V.ref t0, V.ref t1, V.ref t2, V.ref t3] from rfl]
   generalize upd H L (.lst [V.ref t0, V.ref t1, V.ref t2, V.ref t3]) = H1 at s1 hL1 ⊢
   have hg1 := hg.same s1
   refine ⟨_, rfl, g.p, g.dx, _, rfl, hg1.hp, CC g, _, rfl, L, _, 0, .ref t0, rfl, rfl, SqL.of hL1, Af (j := 0) rfl, t0, _, 3, .int (ps 0 3), rfl, rfl, SqT.of (s1 _ _ p0), Af (j := 3) rfl, _, rfl, L, _, 1, .ref t1, rfl, rfl, SqL.of hL1, Af (j := 1) rfl, t1, _, 2, .int (ps 1 2), rfl, rfl, SqT.of (s1 _ _ p1), Af (j := 2) rfl, ?_⟩
   refine ⟨_, rfl, L, _, 2, .ref t2, rfl, rfl, SqL.of hL1, Af (j := 2) rfl, t2, _, 1, .int (ps 2 1), rfl, rfl, SqT.of (s1 _ _ p2), Af (j := 1) rfl, _, rfl, L, _, 3, .ref t3, rfl, rfl, SqL.of hL1, Af (j := 3) rfl, t3, _, 0, .int (ps 3 0), rfl, rfl, SqT.of (s1 _ _ p3), Af (j := 0) rfl, (by show 4 <= sizeLine; decide), fun t4 ht4 => ?_⟩
   have s2 := An (o := .tup [.int (ps 0 3), .int (ps 1 2), .int (ps 2 1), .int (ps 3 0)]) ht4
   obtain ⟨_, n0⟩ := dp.sub 0 (by decide)
   obtain ⟨_, n1⟩ := dp.sub 1 (by decide)
   obtain ⟨_, n2⟩ := dp.sub 2 (by decide)
   obtain ⟨_, n3⟩ := dp.sub 3 (by decide)
   exact ⟨g, G, t4, ps 0 3, ps 1 2, ps 2 1, ps 3 0, (n : Int), rfl, hg1.same s2, ok, Ai, ⟨n0.hw, n1.hz, n2.hy, n3.hx⟩, by lia, by lia, fun m G' H' fr hg' go e => k m G' H' ((AB.fr s1).trans ((AB.fr s2).trans fr)) hg' go e⟩
inductive SpBA (a : Ad) (vs : List V) (H : Hp) (Q : VK) : Prop
 | mk (g : GA) (G : Gv) (i n : Nat) (qs : Nat -> Nat) (ps : Nat -> Nat -> Nat) (_ : vs = [.ref g.p, .int i]) (_ : AO a H g G) (_ : IV G n i qs ps) (_ : n < 47) (_ : (BA n ps -> ∀ H', AB H H' -> Q (.bl true) H')) (_ : (¬ BA n ps -> ∀ H', AB H H' -> Q (.bl false) H')) : SpBA a vs H Q
def spBA (a : Ad) : Sp := fun vs H Q _ => SpBA a vs H Q
theorem ok_ba {f : Addr} {fd : FuncData} (F : Fun K "is_bare_around" "is_bare_around" BN f fd) (T : Top K mg a) : AY P w K mg base CX0 1 f fd Ck (spBA a) := by
 refine F.ok BD (fun vs H Q E h => ?_) (fun cdv A outer s H vs Q E hr h => ?_)
 ·obtain ⟨g, G, i, n, qs, ps, rfl, _⟩ := h
  rfl
 ·obtain ⟨g, G, i, n, qs, ps, rfl, fu, dp, n47, k1, k2⟩ := h
  obtain ⟨q, nd⟩ := dp.node
  have lq := nd.lev
  obtain ⟨ts, t, h3, et, ht⟩ := EE fu.at' nd
  refine ⟨_, (Ab (Al (i := 2) BD.nd rfl (Or.inl rfl) (Ak AC (AQ (pv 0) rfl) (Aq AV (Ak AC (AQ (pv 0) rfl) (pv 1) (fun _ _ => rfl)) Ac) (fun _ _ => rfl))) (Ab (Dj PassesOwn.never rfl (LU true rfl T.b_enumerate (Aa (Ak AC (AQ (pv 0) rfl) (pv 1) (fun _ _ => rfl)) Ae)) (NZ rfl (Fw (BG (i := 3) BD.nd rfl (Or.inl rfl)) (Fw (BG (i := 4) BD.nd rfl (Or.inl rfl)) LV))) (Aj (Dj PassesOwn.never rfl (LU true rfl T.b_enumerate (Aa (Ak AC (AQ (pv 0) rfl) (pv 4) (fun _ _ => rfl)) Ae)) (NZ rfl (Fw (BG (i := 5) BD.nd rfl (Or.inl rfl)) (Fw (BG (i := 6) BD.nd rfl (Or.inl rfl)) LV))) (Aj (Bh (PW.pt (LT (AL Rf (pv 6) (pv 2) (AM _)) (Jh (AL Rf (pv 5) (Aq AV Ac (pv 3)) (AM _))))) (Aj (Aw Ib)) AD))))) (Aj (Aw Ib)))), ?_⟩
  try dsimp only [cxK]
  refine ⟨_, rfl, g.p, _, g.dx, _, _, rfl, fu.at'.hp, T.cl_Grove, T.na_Grove_bares, Gh g, _, rfl, g.p, _, g.dx, _, _, rfl, fu.at'.hp, T.cl_Grove, T.na_Grove_levels, Ei g, _, rfl, g.lv, _, (i : Int), .int q.lev, rfl, rfl, SqL.of fu.at'.lv, Af (by rw [List.getElem?_map, nd.g]; rfl), _, _, rfl, rfl, g.br, _, q.lev - 2, .int (bareN n : Int), rfl, rfl, SqL.of fu.br, by rw [show q.lev - 2 = (n : Int) by lia]; exact Af (bareL_at' (by lia)), ?_⟩
  refine ⟨_, rfl, g.p, _, g.dx, _, _, rfl, fu.at'.hp, T.cl_Grove, T.na_Grove_parts, DQ g, _, rfl, g.pt, _, (i : Int), .ref t, rfl, rfl, SqL.of h3, Af et, t, rfl, ⟨_, SqT.of ht⟩, ?_⟩
  refine JS (b := true) (xs := [.int (qs 0 : Int), .int (qs 1 : Int), .int (qs 2 : Int), .int (qs 3 : Int)]) (fun j σ H2 => AB H H2 /\ (∃ u3 u4 u5 u6 : Option V, σ = [some (.ref g.p), some (.int i), some (.int (bareN n : Int)), u3, u4, u5, u6]) /\ ∀ k' j', k' < j -> k' < 4 -> j' < 4 -> j' + k' ≠ 3 -> ps k' j' = bareN n) ⟨AB.refl H, ⟨none, none, none, none, rfl⟩, fun k' j' h => absurd h (Nat.not_lt_zero _)⟩ (fun j σ H2 _ z => SqT.of (z.1 _ _ ht)) ?_ ?_
  ·rintro j v σ H2 T' ev ⟨sm, ⟨u3, u4, u5, u6, rfl⟩, al⟩ nT
   have hj : j < 4 := (List.getElem?_eq_some_iff.mp ev).1
   have ev' : v = .int (qs j : Int) := by
    match j, hj, ev with
    | 0, _, ev => cases ev; rfl
    | 1, _, ev => cases ev; rfl
    | 2, _, ev => cases ev; rfl
    | 3, _, ev => cases ev; rfl
   subst ev'
   obtain ⟨qk, ndk⟩ := dp.sub j hj
   have s2 := sm.trans (An (o := .tup [.int j, .int (qs j)]) nT)
   refine RP Ai ?_
   generalize upd H2 T' (.tup [.int j, .int (qs j)]) = H3 at s2 ⊢
   obtain ⟨ts3, t3, h33, et3, ht3⟩ := EE (fu.at'.same s2) ndk
   refine ⟨_, rfl, g.p, _, g.dx, _, _, rfl, (fu.at'.same s2).hp, T.cl_Grove, T.na_Grove_parts, DQ g, _, rfl, g.pt, _, (qs j : Int), .ref t3, rfl, rfl, SqL.of h33, Af et3, t3, rfl, ⟨_, SqT.of ht3⟩, ?_⟩
   refine JS (b := true) (xs := [.int (ps j 0 : Int), .int (ps j 1 : Int), .int (ps j 2 : Int), .int (ps j 3 : Int)]) (fun j2 σ H4 => AB H3 H4 /\ (∃ u5 u6 : Option V, σ = [some (.ref g.p), some (.int i), some (.int (bareN n : Int)), some (.int j), some (.int (qs j)), u5, u6]) /\ ∀ j', j' < j2 -> j' < 4 -> j' + j ≠ 3 -> ps j j' = bareN n) ⟨AB.refl H3, ⟨_, _, rfl⟩, fun j' h => absurd h (Nat.not_lt_zero _)⟩ (fun j2 σ H4 _ z => SqT.of (z.1 _ _ ht3)) ?_ ?_
   ·rintro j2 v σ H4 T2 ev ⟨sm2, ⟨u5, u6, rfl⟩, al2⟩ nT2
    have hj2 : j2 < 4 := (List.getElem?_eq_some_iff.mp ev).1
    have ev' : v = .int (ps j j2 : Int) := by
     match j2, hj2, ev with
     | 0, _, ev => cases ev; rfl
     | 1, _, ev => cases ev; rfl
     | 2, _, ev => cases ev; rfl
     | 3, _, ev => cases ev; rfl
    subst ev'
    have s4 := sm2.trans (An (o := .tup [.int j2, .int (ps j j2)]) nT2)
    refine RP Ai ?_
    generalize upd H4 T2 (.tup [.int j2, .int (ps j j2)]) = H5 at s4 ⊢
    refine ⟨_, rfl, _, rfl, rfl, _, rfl, ?_⟩
    refine QC (b2 := !decide (V.int (j2 : Int) = V.int (3 - (j : Int)))) (fun _ Q' q => ⟨_, rfl, _, rfl, _, _, rfl, rfl, rfl, _, rfl, q⟩) ?_
    refine Ms (fun hc => ?_) (fun hc => ?_)
    ·refine k2 (fun ba => ?_) H5 (s2.trans s4)
     rw [Bool.and_eq_true] at hc
     have c2 : ¬ j2 + j = 3 := fun z => by
      have := hc.2
      rw [decide_eq_true (show V.int (j2 : Int) = V.int (3 - (j : Int)) by congr 1; lia)] at this
      cases this
     have c1 := hc.1
     rw [ba j j2 hj hj2 c2, decide_eq_true rfl] at c1
     cases c1
    ·refine ⟨s4, ⟨_, _, rfl⟩, fun j' h1 h2 h3' => ?_⟩
     rcases Nat.lt_succ_iff_lt_or_eq.mp h1 with h | h
     ·exact al2 j' h h2 h3'
     ·subst h
      refine Classical.byContradiction fun z => hc ?_
      rw [decide_eq_false (show ¬ V.int (ps j j' : Int) = V.int (bareN n : Int) by intro q; injection q with q; exact z (Int.ofNat.inj q)), decide_eq_false (show ¬ V.int (j' : Int) = V.int (3 - (j : Int)) by intro q; injection q with q; lia)]
      rfl
   ·rintro σ H4 ⟨sm2, ⟨u5, u6, rfl⟩, al2⟩
    refine ⟨s2.trans sm2, ⟨_, _, _, _, rfl⟩, fun k' j' h1 h2 h3' h4 => ?_⟩
    rcases Nat.lt_succ_iff_lt_or_eq.mp h1 with h | h
    ·exact al k' j' h h2 h3' h4
    ·subst h
     exact al2 j' h3' h3' h4
  ·rintro σ H2 ⟨sm, ⟨u3, u4, u5, u6, rfl⟩, al⟩
   exact k1 (fun k' j' h1 h2 h3' => al k' j' h1 h1 h2 h3') H2 sm
end
end J
namespace J
open PySem L2
seal L2.PA L2.PE L2.PS L2.PSs L2.PT L2.PW
theorem Ex.lev {G : Gv} : ∀ {l f r : Nat}, Ao G f (l : Int) -> Ex G l f r -> ∃ n, n + 1 <= l /\ Ao G r ((n + 1 : Nat) : Int)
 | 0, _, _, _, h => h.elim
 | 1, f, r, hl, h => by
  have h : r = f := h
  subst h
  exact ⟨0, Nat.le_refl _, hl⟩
 | n + 2, f, r, hl, h => by
  obtain ⟨qs, ps, d, h⟩ := h
  rcases h with ⟨_, rfl⟩ | ⟨_, m, e, h⟩
  ·exact ⟨n + 1, Nat.le_refl _, hl⟩
  ·obtain ⟨k, hk, lk⟩ := Ex.lev (l := n + 1) ⟨_, e, by show (n : Int) + 1 = _; lia⟩ h
   exact ⟨k, by lia, lk⟩
section
variable {P : Program} {w : World} {K : PySem.W.Frag} {mg : Str -> Option Value} {base : Heap} {a : Ad}
inductive Sm (a : Ad) (vs : List V) (H : Hp) (Q : VK) : Prop
 | mk (g : GA) (G : Gv) (f n : Nat) (_ : vs = [.ref g.p, .int f]) (_ : AO a H g G) (_ : Ao G f ((n + 1 : Nat) : Int)) (_ : G.length < 8800000) (_ : ∀ (r : Nat) (G' : Gv) (H' : Hp), Fr g H H' -> AO a H' g G' -> AG G G' 48 -> Ex G' (n + 1) f r -> Q (.int r) H') : Sm a vs H Q
def Jt (a : Ad) : Sp := fun vs H Q _ => Sm a vs H Q
theorem ok_trim {f : Addr} {fd : FuncData} (F : Fun K "trimmed" "trimmed" EJ f fd) (T : Top K mg a) (M_Grove_level_of : CM P w K mg base CX0 3 a.c_Grove "level_of" AW (Jv a)) (C_is_bare_around : Cal P w K mg base CX0 1 "is_bare_around" Ck (spBA a)) (C_middle_of : Cal P w K mg base CX0 3 "middle_of" Eo (QI a)) : AY P w K mg base CX0 4 f fd Ee (Jt a) := by
 refine F.ok GI (fun vs H Q E h => ?_) (fun cdv A outer s H vs Q E hr h => ?_)
 ·obtain ⟨g, G, f', n, rfl, _⟩ := h
  rfl
 ·obtain ⟨g, G, f', n, rfl, fu, hl, few, k⟩ := h
  obtain ⟨q, eq, lq⟩ := id hl
  have n48 : n + 1 <= 48 := by have := (fu.ok.lev eq).2; lia
  refine ⟨_, (Ab (Bh (AL JH (AU (pv 0) M_Grove_level_of (rm hr) Ar (Aa (pv 1) Ae)) (Df rfl T.k_LEAST_LEVEL) (AM _)) (Aj CJ) AD) (Ab (Al (i := 2) GI.nd rfl (Or.inl rfl) (pv 1)) (Ab (MZ PassesOwn.never (PW.pt (LT (AL Nf (Ak AC (AQ (pv 0) rfl) (pv 2) (fun _ _ => rfl)) (Df rfl T.k_LEAST_LEVEL) (AM _)) (Jh (Cs (As C_is_bare_around (rm hr) rfl Ar (Aa (pv 0) (Aa (pv 2) Ae))))))) (Aj (Al (i := 2) GI.nd rfl (Or.inl rfl) (As C_middle_of (rm hr) rfl Ar (Aa (pv 0) (Aa (pv 2) Ae)))))) (Aj (Aw (pv 2)))))), ?_⟩
  try dsimp only [cxK]
  refine ⟨_, rfl, g.p, g.dx, _, rfl, fu.at'.hp, EZ g, _, rfl, g, G, f', q, rfl, fu.at', eq, _, _, rfl, rfl, _, rfl, ?_⟩
  rw [decide_eq_false (by lia : ¬ q.lev < 1)]
  refine BC ⟨_, rfl, ?_⟩
  refine ⟨fun m σ H2 => ∃ (G' : Gv) (c : Nat), σ = [some (.ref g.p), some (.int f'), some (.int c)] /\ Fr g H H2 /\ AO a H2 g G' /\ AG G G' (n - m) /\ m <= n /\ Ao G' c ((m + 1 : Nat) : Int) /\ ∀ (r : Nat) (G'' : Gv) (k : Nat), AG G' G'' k -> Ex G'' (m + 1) c r -> Ex G'' (n + 1) f' r, ⟨n, G, f', rfl, Fr.refl g H, fu, (AG.refl fu.ok).mono (by lia), Nat.le_refl _, hl, fun _ _ _ _ h => h⟩, ?_⟩
  rintro m σ H2 ⟨G', c, rfl, fr, fu2, go, mn, lc, tr⟩
  have gf := go.few
  obtain ⟨qc, ec, lqc⟩ := id lc
  refine ⟨_, rfl, g.p, _, g.dx, _, _, rfl, fu2.at'.hp, T.cl_Grove, T.na_Grove_levels, Ei g, _, rfl, g.lv, _, (c : Int), .int qc.lev, rfl, rfl, SqL.of fu2.at'.lv, Af (by rw [List.getElem?_map, ec]; rfl), _, _, rfl, rfl, _, rfl, ?_⟩
  cases m with
  | zero =>
   rw [decide_eq_false (by lia : ¬ (1 : Int) < qc.lev)]
   exact BC (BC ⟨_, rfl, k c G' H2 fr fu2 (go.mono (by lia)) (tr c G' 0 (AG.refl fu2.ok) rfl)⟩)
  | succ m =>
   rw [decide_eq_true (by lia : (1 : Int) < qc.lev)]
   obtain ⟨qs, ps, dp⟩ := deep_of fu2.ok lc
   refine Da ⟨_, rfl, _, rfl, g, G', c, m, qs, ps, rfl, fu2, dp, by lia, fun ba H3 s3 => ⟨true, rfl, Da ?_⟩, fun nba H3 s3 => ⟨false, rfl, BC ?_⟩⟩
   ·refine ⟨fun σ' H' => ∃ (G2 : Gv) (c2 : Nat), σ' = [some (.ref g.p), some (.int f'), some (.int c2)] /\ Fr g H H' /\ AO a H' g G2 /\ AG G G2 (n - m) /\ m <= n /\ Ao G2 c2 ((m + 1 : Nat) : Int) /\ ∀ (r : Nat) (G'' : Gv) (k : Nat), AG G2 G'' k -> Ex G'' (m + 1) c2 r -> Ex G'' (n + 1) f' r, fun σ' H' z => ⟨m, by lia, z⟩, ?_⟩
    refine ⟨_, rfl, _, rfl, g, G', c, m, qs, ps, rfl, fu2.at'.same s3, fu2.ok, dp, by lia, by lia, fun c2 G2 H4 fr4 hg4 go4 e4 => ?_⟩
    have fu4 := (fu2.same s3).fr fr4 hg4 go4
    refine ⟨G2, c2, rfl, fr.trans ((AB.fr s3).trans fr4), fu4, (go.trans go4).mono (by lia), by lia, ⟨_, e4, by show (m : Int) + 1 = _; lia⟩, fun r G'' k' go5 t5 => ?_⟩
    exact tr r G'' _ (go4.trans go5) ⟨qs, ps, dp.app (go4.trans go5), .inr ⟨ba, c2, go5.get e4, t5⟩⟩
   ·exact ⟨_, rfl, k c G' H3 (fr.trans (AB.fr s3)) (fu2.same s3) (go.mono (by lia)) (tr c G' 0 (AG.refl fu2.ok) ⟨qs, ps, dp, .inl ⟨nba, rfl⟩⟩)⟩
def IT (G : Gv) (n f : Nat) : Nat -> Nat -> Prop
 | 0, w => w = f
 | k + 1, w => ∃ u, IT G n f k u /\ Wid G (n + k) u w
theorem IT.app {G G' : Gv} {m n f : Nat} (go : AG G G' m) : ∀ {k w : Nat}, IT G n f k w -> IT G' n f k w
 | 0, _, h => h
 | k + 1, w, h => by
  obtain ⟨u, h1, h2⟩ := h
  exact ⟨u, IT.app go h1, h2.app go⟩
inductive SpWO (a : Ad) (vs : List V) (H : Hp) (Q : VK) : Prop
 | mk (g : GA) (G : Gv) (f n : Nat) (t : Addr) (x y wd ht : Int) (_ : vs = [.ref g.p, .int f, .ref t]) (_ : AO a H g G) (_ : Ao G f ((n + 1 : Nat) : Int)) (_ : n <= 40) (_ : H t = some (.tup [.int x, .int y, .int wd, .int ht])) (_ : BU x y wd ht (2 ^ 40)) (_ : G.length < 8700000) (_ : ∀ (k w : Nat) (G' : Gv) (H' : Hp), Fr g H H' -> AO a H' g G' -> AG G G' (5 * k) -> n + k <= 40 -> IT G' n f k w -> Ao G' w ((n + k + 1 : Nat) : Int) -> BU x y wd ht (2 ^ (n + k)) -> (∀ j, j < k -> ¬ BU x y wd ht (2 ^ (n + j))) -> Q (.int w) H') : SpWO a vs H Q
def QG (a : Ad) : Sp := fun vs H Q _ => SpWO a vs H Q
theorem ok_wo {f : Addr} {fd : FuncData} (F : Fun K "widened_over" "widened_over" Cg f fd) (T : Top K mg a) (C_lies_within : Cal P w K mg base CX0 1 "lies_within" BK Ln) (C_reach_of : Cal P w K mg base CX0 4 "reach_of" Ct (FL a)) (C_widened : Cal P w K mg base CX0 4 "widened" Fz (QF a)) : AY P w K mg base CX0 5 f fd BS (QG a) := by
 refine F.ok Ey (fun vs H Q E h => ?_) (fun cdv A outer s H vs Q E hr h => ?_)
 ·obtain ⟨g, G, f', n, t, x, y, wd, ht, rfl, _⟩ := h
  rfl
 ·obtain ⟨g, G, f', n, t, x, y, wd, hh, rfl, fu, hl, n40, ht, li, few, k⟩ := h
  refine ⟨_, (Ab (Al (i := 3) Ey.nd rfl (Or.inl rfl) (pv 1)) (Ab (MZ PassesOwn.never (CD (Cs (As C_lies_within (rm hr) rfl Ar (Aa (pv 2) (Aa (As C_reach_of (rm hr) rfl Ar (Aa (pv 0) (Aa (pv 3) Ae))) Ae))))) (Aj (Al (i := 3) Ey.nd rfl (Or.inl rfl) (As C_widened (rm hr) rfl Ar (Aa (pv 0) (Aa (pv 3) Ae)))))) (Aj (Aw (pv 3))))), ?_⟩
  try dsimp only [cxK]
  refine ⟨_, rfl, ?_⟩
  refine ⟨fun m σ H2 => ∃ (G' : Gv) (c j : Nat), σ = [some (.ref g.p), some (.int f'), some (.ref t), some (.int c)] /\ Fr g H H2 /\ AO a H2 g G' /\ AG G G' (5 * j) /\ n + j + m = 40 /\ Ao G' c ((n + j + 1 : Nat) : Int) /\ IT G' n f' j c /\ ∀ i, i < j -> ¬ BU x y wd hh (2 ^ (n + i)), ⟨40 - n, G, f', 0, rfl, Fr.refl g H, fu, AG.refl fu.ok, by lia, hl, rfl, fun i hi => absurd hi (Nat.not_lt_zero _)⟩, ?_⟩
  rintro m σ H2 ⟨G', c, j, rfl, fr, fu2, go, e40, lc, wn, no⟩
  have gf := go.few
  have ht2 := fr.tup fu.at' ht
  refine ⟨_, rfl, _, rfl, _, rfl, g, G', c, n + j, rfl, fu2.at', lc, by lia, t, x, y, wd, hh, _, rfl, ht2, _, rfl, ?_⟩
  by_cases hL : BU x y wd hh (2 ^ (n + j))
  ·rw [decide_eq_true hL]
   exact BC ⟨_, rfl, k j c G' H2 fr fu2 go (by lia) wn lc hL no⟩
  ·rw [decide_eq_false hL]
   have m0 : m ≠ 0 := fun z => by
    subst z
    have : n + j = 40 := by lia
    rw [this] at hL
    exact hL li
   refine Da ⟨fun σ' H' => ∃ (G2 : Gv) (c2 j2 : Nat), σ' = [some (.ref g.p), some (.int f'), some (.ref t), some (.int c2)] /\ Fr g H H' /\ AO a H' g G2 /\ AG G G2 (5 * j2) /\ n + j2 + (m - 1) = 40 /\ Ao G2 c2 ((n + j2 + 1 : Nat) : Int) /\ IT G2 n f' j2 c2 /\ ∀ i, i < j2 -> ¬ BU x y wd hh (2 ^ (n + i)), fun σ' H' z => ⟨m - 1, by lia, z⟩, ?_⟩
   refine ⟨_, rfl, _, rfl, g, G', c, n + j, rfl, fu2, lc, by lia, by lia, fun c2 G2 H3 fr3 hg3 go3 wi => ?_⟩
   refine ⟨G2, c2, j + 1, rfl, fr.trans fr3, fu2.fr fr3 hg3 go3, (go.trans go3).mono (by lia), by lia, ?_, ⟨c, wn.app go3, wi⟩, fun i hi => ?_⟩
   ·have := wi.lev
    rw [show n + (j + 1) + 1 = n + j + 2 by lia]
    exact this
   ·rcases Nat.lt_succ_iff_lt_or_eq.mp hi with h | h
    ·exact no i h
    ·rw [h]
     exact hL
end
end J
namespace J
open PySem L2
seal L2.PA L2.PE L2.PS L2.PSs L2.PT L2.PW
def st4 (x y z w k j : Nat) (i : Nat) : Nat := if i = k then j else f4 x y z w i
def quad (l x y : Nat) : Nat := x / 2 ^ l + 2 * (y / 2 ^ l)
theorem Bg {l x : Nat} (h : x < 2 ^ (l + 1)) : x / 2 ^ l < 2 := by
 rw [Nat.div_lt_iff_lt_mul (Nat.pow_pos (by decide)), Nat.mul_comm, <- Nat.pow_succ]
 exact h
theorem BT {l x y : Nat} (hx : x < 2 ^ (l + 1)) (hy : y < 2 ^ (l + 1)) : quad l x y < 4 := by
 have h1 := Bg hx
 have h2 := Bg hy
 unfold quad
 lia
theorem DJ (l : Nat) : ((2 ^ l : Nat) : Int) = (2 : Int) ^ l := Int.natCast_pow 2 l
theorem quad_c (l x y : Nat) : (x : Int) / 2 ^ l + 2 * ((y : Int) / 2 ^ l) = ((quad l x y : Nat) : Int) := by
 unfold quad
 rw [<- DJ, Int.natCast_add, Int.natCast_mul, Int.natCast_ediv, Int.natCast_ediv]
 rfl
theorem mod_c (l x : Nat) : (x : Int) % 2 ^ l = ((x % 2 ^ l : Nat) : Int) := by rw [<- DJ, Int.natCast_emod]
theorem set4 (x y z w j : Nat) {k : Nat} (hk : k < 4) : ([V.int (x : Int), V.int (y : Int), V.int (z : Int), V.int (w : Int)].set k (.int j)) = [V.int (st4 x y z w k j 0 : Int), V.int (st4 x y z w k j 1 : Int), V.int (st4 x y z w k j 2 : Int), V.int (st4 x y z w k j 3 : Int)] := by
 match k, hk with
 | 0, _ => rfl
 | 1, _ => rfl
 | 2, _ => rfl
 | 3, _ => rfl
def Rep (G : Gv) (s : Nat) : Nat -> Nat -> Nat -> Nat -> Nat -> Prop
 | 0, _, _, _, r => r = s
 | l + 1, i, x, y, r => ∃ (q : Sq) (a b c d j : Nat), Ce G l i q a b c d /\ Rep G s l (f4 a b c d (quad l x y)) (x % 2 ^ l) (y % 2 ^ l) j /\ G[r]? = some ⟨[(st4 a b c d (quad l x y) j 0 : Int), (st4 a b c d (quad l x y) j 1 : Int), (st4 a b c d (quad l x y) j 2 : Int), (st4 a b c d (quad l x y) j 3 : Int)], (l : Int) + 1⟩
theorem Rep.app {G G' : Gv} {m s : Nat} (go : AG G G' m) : ∀ {l i x y r : Nat}, Rep G s l i x y r -> Rep G' s l i x y r
 | 0, _, _, _, _, h => h
 | l + 1, i, x, y, r, h => by
  obtain ⟨q, a, b, c, d, j, nd, h1, e⟩ := h
  exact ⟨q, a, b, c, d, j, nd.app go, Rep.app go h1, go.get e⟩
theorem Rep.lev {G : Gv} (ok : GOk G) {s : Nat} (hs : s < 8) : ∀ {l i x y r : Nat}, Rep G s l i x y r -> Ao G r (l : Int)
 | 0, _, _, _, r, h => by
  have h : r = s := h
  subst h
  exact ⟨_, ok.leaf r hs, rfl⟩
 | l + 1, _, _, _, _, h => by
  obtain ⟨q, a, b, c, d, j, nd, h1, e⟩ := h
  exact ⟨_, e, by show (l : Int) + 1 = _; lia⟩
section
variable {P : Program} {w : World} {K : PySem.W.Frag} {mg : Str -> Option Value} {base : Heap} {a : Ad}
inductive SpRep (a : Ad) (n : Nat) (vs : List V) (H : Hp) (Q : VK) : Prop
 | mk (g : GA) (G : Gv) (i l x y s : Nat) (_ : vs = [.ref g.p, .int i, .int x, .int y, .int s]) (_ : AS a H g G) (_ : GOk G) (_ : Ao G i (l : Int)) (_ : l < n) (_ : x < 2 ^ l) (_ : y < 2 ^ l) (_ : s < 8) (_ : G.length + l < 8900000) (_ : ∀ (r : Nat) (G' : Gv) (H' : Hp), Fr g H H' -> AS a H' g G' -> AG G G' l -> Rep G' s l i x y r -> Q (.int r) H') : SpRep a n vs H Q
def OK (a : Ad) (n : Nat) : Sp := fun vs H Q _ => SpRep a n vs H Q
theorem Rk {f : Addr} {fd : FuncData} (F : Fun K "replaced" "replaced" DW f fd) (T : Top K mg a) (hm : mg "replaced" = some (.ref f)) (Bi : DA K fd Dk []) (M_Grove_leaf : CM P w K mg base CX0 3 a.c_Grove "leaf" CW (LM a)) (M_Grove_linked : CM P w K mg base CX0 2 a.c_Grove "linked" AT (Fj a)) : ∀ n, AY P w K mg base CX0 (n + 4) f fd Dk (OK a n)
 | 0 => by
  refine F.ok Dq (fun vs H Q E h => ?_) (fun cdv A outer s H vs Q E hr h => ?_)
  ·obtain ⟨g, G, i, l, x, y, s, rfl, _, _, _, h0, _⟩ := h
   exact absurd h0 (Nat.not_lt_zero _)
  ·obtain ⟨g, G, i, l, x, y, s, rfl, _, _, _, h0, _⟩ := h
   exact absurd h0 (Nat.not_lt_zero _)
 | n + 1 => by
  have C_replaced : Cal P w K mg base CX0 (n + 4) "replaced" Dk (OK a n) := ⟨f, fd, Rk F T hm Bi M_Grove_leaf M_Grove_linked n, hm, F.kp, Bi⟩
  refine F.ok Dq (fun vs H Q E h => ?_) (fun cdv A outer s H vs Q E hr h => ?_)
  ·obtain ⟨g, G, i, l, x, y, s, rfl, _⟩ := h
   rfl
  ·obtain ⟨g, G, i, l, x, y, st, rfl, hg, ok, hl, ln, hx, hy, s8, few, k⟩ := h
   obtain ⟨q0, e0, l0⟩ := id hl
   refine ⟨_, (Ab (Al (i := 5) Dq.nd rfl (Or.inl rfl) (Ak AC (AQ (pv 0) rfl) (pv 1) (fun _ _ => rfl))) (Ab (Bh (AL FD (pv 5) Ac (AM _)) (Aj (Aw (AU (pv 0) M_Grove_leaf (rm hr) Ar (Aa (pv 4) Ae)))) AD) (Ab (Al (i := 6) Dq.nd rfl (Or.inl rfl) (Aq GL Ac (Aq AV (pv 5) Ac))) (Ab (Al (i := 7) Dq.nd rfl (Or.inl rfl) (Fy MC rfl T.b_list PyProof.Rows.boot_list (Aa (Ak AC (AQ (pv 0) rfl) (pv 1) (fun _ _ => rfl)) Ae))) (Ab (Al (i := 8) Dq.nd rfl (Or.inl rfl) (Aq AI (Aq Ic (pv 2) (pv 6)) (Aq Ez Ac (Aq Ic (pv 3) (pv 6))))) (Ab (QX (As C_replaced (rm hr) rfl Ar (Aa (pv 0) (Aa (Ak AC (pv 7) (pv 8) (fun _ _ => rfl)) (Bk Bl (pv 2) (pv 6) (Bk Bl (pv 3) (pv 6) (Aa (pv 4) Ae)))))) (QZ (pv 7) (pv 8) MQ)) (Aj (Aw (AU (pv 0) M_Grove_linked (rm hr) Ar (Aa (Fy Em rfl T.b_tuple PyProof.Rows.boot_tuple (Aa (pv 7) Ae)) Ae)))))))))), ?_⟩
   try dsimp only [cxK]
   refine ⟨_, rfl, g.p, _, g.dx, _, _, rfl, hg.hp, T.cl_Grove, T.na_Grove_levels, Ei g, _, rfl, g.lv, _, (i : Int), .int q0.lev, rfl, rfl, SqL.of hg.lv, Af (by rw [List.getElem?_map, e0]; rfl), ?_⟩
   cases l with
   | zero =>
    rw [l0]
    exact ⟨_, rfl, rfl, _, rfl, Da ⟨_, rfl, g.p, g.dx, _, rfl, hg.hp, OT g, _, rfl, g.p, (st : Int), rfl, by lia, by lia, k st G H (Fr.refl g H) hg (AG.refl ok) rfl⟩⟩
   | succ l =>
    have l0' : q0.lev = (l : Int) + 1 := by rw [l0]; lia
    have l48 := (ok.lev e0).2
    have lt64 := pow2_lt (l := l) (by lia)
    have lpos := Ff l
    obtain ⟨q, p0, p1, p2, p3, nd⟩ := AX ok hl
    obtain ⟨ts, t, h3, et, ht⟩ := EE hg nd
    refine ⟨_, rfl, rfl, _, rfl, ?_⟩
    rw [decide_eq_false (by intro z; injection z with z; lia)]
    refine BC ⟨_, rfl, _, _, rfl, rfl, _, _, rfl, rfl, ⟨by lia, by lia, by decide⟩, ?_⟩
    rw [show (fun (i j : Int) => V.int (i * 2 ^ j.toNat)) 1 (q0.lev - 1) = V.int (2 ^ l) from congrArg V.int (LK l l0')]
    refine ⟨_, rfl, g.p, _, g.dx, _, _, rfl, hg.hp, T.cl_Grove, T.na_Grove_parts, DQ g, _, rfl, g.pt, _, (i : Int), .ref t, rfl, rfl, SqL.of h3, Af et, t, _, rfl, .inr (SqT.of ht), fun L hL => ?_⟩
    have aL : Ap g L := Ap.new hg hL
    have s1 := An (o := .lst [.int p0, .int p1, .int p2, .int p3]) hL
    have hL1 : upd H L (.lst [.int p0, .int p1, .int p2, .int p3]) L = some (.lst [.int p0, .int p1, .int p2, .int p3]) := Ai
    generalize upd H L (.lst [.int p0, .int p1, .int p2, .int p3]) = H1 at s1 hL1 ⊢
    have hg1 := hg.same s1
    have qk := BT hx hy
    refine ⟨_, rfl, _, rfl, _, _, rfl, rfl, ⟨lpos, lt64⟩, _, rfl, _, rfl, _, _, rfl, rfl, ⟨lpos, lt64⟩, _, _, rfl, rfl, .inl ⟨by decide, by decide⟩, _, _, rfl, rfl, ?_⟩
    rw [show (fun (i j : Int) => V.int (i + j)) ((x : Int) / 2 ^ l) (2 * ((y : Int) / 2 ^ l)) = V.int ((quad l x y : Nat) : Int) from congrArg V.int (quad_c l x y)]
    have atq : [V.int (p0 : Int), V.int (p1 : Int), V.int (p2 : Int), V.int (p3 : Int)][quad l x y]? = some (.int (f4 p0 p1 p2 p3 (quad l x y) : Int)) := by
     generalize quad l x y = kk at qk ⊢
     match kk, qk with
     | 0, _ => rfl
     | 1, _ => rfl
     | 2, _ => rfl
     | 3, _ => rfl
    have lvq : Ao G (f4 p0 p1 p2 p3 (quad l x y)) (l : Int) := (nd.nat qk).2
    refine ⟨_, rfl, _, rfl, _, rfl, L, _, ((quad l x y : Nat) : Int), .int (f4 p0 p1 p2 p3 (quad l x y) : Int), rfl, rfl, SqL.of hL1, Af atq, _, rfl, _, rfl, _, _, rfl, rfl, lpos, _, rfl, _, rfl, _, _, rfl, rfl, lpos, _, rfl, ?_⟩
    refine ⟨g, G, f4 p0 p1 p2 p3 (quad l x y), l, x % 2 ^ l, y % 2 ^ l, st, by rw [<- mod_c, <- mod_c]; rfl, hg1, ok, lvq, by lia, Nat.mod_lt _ (Nat.pow_pos (by decide)), Nat.mod_lt _ (Nat.pow_pos (by decide)), s8, by lia, fun j G1 H2 fr hg2 go rp => ?_⟩
    have gf := go.few
    have hL2 := fr.get aL hL1
    refine ⟨_, rfl, _, rfl, L, _, ((quad l x y : Nat) : Int), quad l x y, rfl, rfl, hL2, by unfold ixN; rw [if_pos (by lia), if_pos (by show ((quad l x y : Nat) : Int) < ((4 : Nat) : Int); lia), Int.toNat_natCast], ?_⟩
    rw [set4 p0 p1 p2 p3 j qk]
    have hg3 := hg2.put (o := .lst [V.int (st4 p0 p1 p2 p3 (quad l x y) j 0 : Int), V.int (st4 p0 p1 p2 p3 (quad l x y) j 1 : Int), V.int (st4 p0 p1 p2 p3 (quad l x y) j 2 : Int), V.int (st4 p0 p1 p2 p3 (quad l x y) j 3 : Int)]) hL2 aL.1 aL.2.1
    have hL3 : upd H2 L (.lst [V.int (st4 p0 p1 p2 p3 (quad l x y) j 0 : Int), V.int (st4 p0 p1 p2 p3 (quad l x y) j 1 : Int), V.int (st4 p0 p1 p2 p3 (quad l x y) j 2 : Int), V.int (st4 p0 p1 p2 p3 (quad l x y) j 3 : Int)]) L = some (.lst [V.int (st4 p0 p1 p2 p3 (quad l x y) j 0 : Int), V.int (st4 p0 p1 p2 p3 (quad l x y) j 1 : Int), V.int (st4 p0 p1 p2 p3 (quad l x y) j 2 : Int), V.int (st4 p0 p1 p2 p3 (quad l x y) j 3 : Int)]) := Ai
    have fr3 : Fr g H (upd H2 L (.lst [V.int (st4 p0 p1 p2 p3 (quad l x y) j 0 : Int), V.int (st4 p0 p1 p2 p3 (quad l x y) j 1 : Int), V.int (st4 p0 p1 p2 p3 (quad l x y) j 2 : Int), V.int (st4 p0 p1 p2 p3 (quad l x y) j 3 : Int)])) := fun b o e m1 m2 m3 => by
     rw [Av (At e hL)]
     exact fr _ _ (s1 _ _ e) m1 m2 m3
    generalize upd H2 L (.lst [V.int (st4 p0 p1 p2 p3 (quad l x y) j 0 : Int), V.int (st4 p0 p1 p2 p3 (quad l x y) j 1 : Int), V.int (st4 p0 p1 p2 p3 (quad l x y) j 2 : Int), V.int (st4 p0 p1 p2 p3 (quad l x y) j 3 : Int)]) = H3 at hg3 hL3 fr3 ⊢
    refine ⟨_, rfl, g.p, g.dx, _, rfl, hg3.hp, CC g, _, rfl, L, _, rfl, .inl ⟨SqL.of hL3, fun t4 ht4 => ?_⟩⟩
    have s4 := An (o := .tup [V.int (st4 p0 p1 p2 p3 (quad l x y) j 0 : Int), V.int (st4 p0 p1 p2 p3 (quad l x y) j 1 : Int), V.int (st4 p0 p1 p2 p3 (quad l x y) j 2 : Int), V.int (st4 p0 p1 p2 p3 (quad l x y) j 3 : Int)]) ht4
    have ndG := nd.app go
    have lj := rp.lev go.ok s8
    have lst : ∀ ii, ii < 4 -> Ao G1 (st4 p0 p1 p2 p3 (quad l x y) j ii) (l : Int) := fun ii hi => by
     unfold st4
     split
     ·exact lj
     ·exact (ndG.nat hi).2
    refine ⟨g, G1, t4, _, _, _, _, (l : Int), rfl, hg3.same s4, go.ok, Ai, ⟨lst 0 (by decide), lst 1 (by decide), lst 2 (by decide), lst 3 (by decide)⟩, by lia, by lia, fun r G2 H4 fr4 hg4 go4 e4 => ?_⟩
    exact k r G2 H4 (fr3.trans ((AB.fr s4).trans fr4)) hg4 (go.trans go4) ⟨q, p0, p1, p2, p3, j, nd.app (go.trans go4), rp.app go4, e4⟩
structure GC (G : Gv) (n f : Nat) (x y : Int) (s r : Nat) (k w i : Nat) : Prop where
 le : n + k <= 40
 wid : IT G n f k w
 lw : Ao G w ((n + k + 1 : Nat) : Int)
 li : BU x y 1 1 (2 ^ (n + k))
 no : ∀ j, j < k -> ¬ BU x y 1 1 (2 ^ (n + j))
 rep : Rep G s (n + k + 1) w (x + 2 ^ (n + k)).toNat (y + 2 ^ (n + k)).toNat i
 tr : Ex G (n + k + 1) i r
theorem OX {x y : Int} {m : Nat} (h : BU x y 1 1 (2 ^ m)) : (x + 2 ^ m).toNat < 2 ^ (m + 1) /\ (y + 2 ^ m).toNat < 2 ^ (m + 1) /\ 0 <= x + 2 ^ m /\ 0 <= y + 2 ^ m := by
 obtain ⟨h1, h2, h3, h4⟩ := h
 have e := DJ (m + 1)
 rw [Ec] at e
 have p := Ff m
 refine ⟨?_, ?_, by lia, by lia⟩ <;> lia
inductive Pt (a : Ad) (vs : List V) (H : Hp) (Q : VK) : Prop
 | mk (g : GA) (G : Gv) (f n : Nat) (x y : Int) (s : Nat) (_ : vs = [.ref g.p, .int f, .int x, .int y, .int s]) (_ : AO a H g G) (_ : Ao G f ((n + 1 : Nat) : Int)) (_ : n <= 40) (_ : BU x y 1 1 (2 ^ 40)) (_ : s < 8) (_ : G.length < 8000000) (_ : ∀ (r k w i : Nat) (G' : Gv) (H' : Hp), Fr g H H' -> AO a H' g G' -> AG G G' 400 -> GC G' n f x y s r k w i -> Q (.int r) H') : Pt a vs H Q
def LL (a : Ad) : Sp := fun vs H Q _ => Pt a vs H Q
theorem Rm {f : Addr} {fd : FuncData} (F : Fun K "planted" "planted" EK f fd) (T : Top K mg a) (C_lies_within : Cal P w K mg base CX0 1 "lies_within" BK Ln) (C_is_state : Cal P w K mg base CX0 2 "is_state" Dm QM) (C_reach_of : Cal P w K mg base CX0 4 "reach_of" Ct (FL a)) (C_widened_over : Cal P w K mg base CX0 5 "widened_over" BS (QG a))
  (C_replaced : Cal P w K mg base CX0 54 "replaced" Dk (OK a 50)) (C_trimmed : Cal P w K mg base CX0 4 "trimmed" Ee (Jt a)) : AY P w K mg base CX0 55 f fd FA (LL a) := by
 refine F.ok FN (fun vs H Q E h => ?_) (fun cdv A outer s H vs Q E hr h => ?_)
 ·obtain ⟨g, G, f', n, x, y, st, rfl, _⟩ := h
  rfl
 ·obtain ⟨g, G, f', n, x, y, st, rfl, fu, hl, n40, li, s8, few, k⟩ := h
  refine ⟨_, (Ab (Al (i := 5) FN.nd rfl (Or.inl rfl) (Cc (Aa (pv 2) (Aa (pv 3) (AH (AH Ae)))))) (Ab (Bh (CD (Cs (As C_lies_within (rm hr) rfl Ar (Aa (pv 5) (Aa (Df rfl T.k_LIMIT) Ae))))) (Aj CJ) AD) (Ab (Bh (CD (Cs (As C_is_state (rm hr) rfl Ar (Aa (pv 4) Ae)))) (Aj CJ) AD) (Ab (Al (i := 6) FN.nd rfl (Or.inl rfl) (As C_widened_over (rm hr) rfl Ar (Aa (pv 0) (Aa (pv 1) (Aa (pv 5) Ae))))) (Ab (Al (i := 7) FN.nd rfl (Or.inl rfl) (As C_reach_of (rm hr) rfl Ar (Aa (pv 0) (Aa (pv 6) Ae)))) (Aj (Aw (As C_trimmed (rm hr) rfl Ar (Aa (pv 0) (Aa (As C_replaced (rm hr) rfl Ar (Aa (pv 0) (Aa (pv 6) (Bk AI (pv 2) (pv 7) (Bk AI (pv 3) (pv 7) (Aa (pv 4) Ae)))))) Ae)))))))))), ?_⟩
  try dsimp only [cxK]
  refine ⟨_, rfl, _, rfl, (by show 4 <= sizeLine; decide), fun t ht => ?_⟩
  have s1 := An (o := .tup [.int x, .int y, .int 1, .int 1]) ht
  have ht1 : upd H t (.tup [.int x, .int y, .int 1, .int 1]) t = some (.tup [.int x, .int y, .int 1, .int 1]) := Ai
  generalize upd H t (.tup [.int x, .int y, .int 1, .int 1]) = H1 at s1 ht1 ⊢
  have fu1 := fu.same s1
  refine ⟨_, rfl, t, x, y, 1, 1, _, rfl, ht1, _, rfl, ?_⟩
  rw [decide_eq_true (show BU x y 1 1 1099511627776 from li)]
  refine BC ⟨_, rfl, (st : Int), rfl, by lia, by lia, true, rfl, BC ?_⟩
  refine ⟨_, rfl, _, rfl, _, rfl, g, G, f', n, t, x, y, 1, 1, rfl, fu1, hl, n40, ht1, li, by lia, fun kk w' G1 H2 fr2 fu2 go2 le wn lw lf no => ?_⟩
  have gf2 := go2.few
  refine ⟨_, rfl, _, rfl, g, G1, w', n + kk, rfl, fu2.at', lw, by lia, ?_⟩
  obtain ⟨b1, b2, b3, b4⟩ := OX lf
  refine ⟨_, rfl, _, rfl, _, rfl, _, rfl, _, rfl, _, _, rfl, rfl, _, rfl, _, rfl, _, _, rfl, rfl, _, rfl, ?_⟩
  refine ⟨g, G1, w', n + kk + 1, (x + 2 ^ (n + kk)).toNat, (y + 2 ^ (n + kk)).toNat, st, by rw [Int.toNat_of_nonneg b3, Int.toNat_of_nonneg b4]; rfl, fu2.at', fu2.ok, lw, by lia, b1, b2, s8, by lia, fun i' G2 H3 fr3 hg3 go3 rp => ?_⟩
  have gf3 := go3.few
  have fu3 := fu2.fr fr3 hg3 go3
  have li' := rp.lev go3.ok s8
  refine ⟨g, G2, i', n + kk, rfl, fu3, li', by lia, fun r G3 H4 fr4 fu4 go4 tr => ?_⟩
  have go34 := go3.trans go4
  exact k r kk w' i' G3 H4 ((AB.fr s1).trans (fr2.trans (fr3.trans fr4))) fu4 ((go2.trans go34).mono (by lia)) ⟨le, wn.app go34, go34.lev lw, lf, no, rp.app go4, tr⟩
end
end J
namespace J
open PySem L2
seal L2.PA L2.PE L2.PS L2.PSs L2.PT L2.PW
structure Cl where
 x : Int
 y : Int
 s : Nat
def MG (H : Hp) (t : Addr) (c : Cl) : Prop := H t = some (.tup [.int c.x, .int c.y, .int c.s])
structure Qx (c : Cl) : Prop where
 li : BU c.x c.y 1 1 (2 ^ 40)
 s : c.s < 8
theorem GC.app {G G' : Gv} {m n f : Nat} {x y : Int} {s r k w i : Nat} (go : AG G G' m) (h : GC G n f x y s r k w i) : GC G' n f x y s r k w i := ⟨h.le, h.wid.app go, go.lev h.lw, h.li, h.no, h.rep.app go, h.tr.app go⟩
inductive MF (G : Gv) : List Cl -> Nat -> Nat -> Prop
 | nil : MF G [] 0 (bareN 1)
 | cons {cs : List Cl} {c : Cl} {n f r k w i m : Nat} (h : MF G cs n f) (l : Ao G f ((n + 1 : Nat) : Int)) (p : GC G n f c.x c.y c.s r k w i) (l' : Ao G r ((m + 1 : Nat) : Int)) : MF G (c :: cs) m r
theorem MF.app {G G' : Gv} {m : Nat} (go : AG G G' m) {cs : List Cl} {n f : Nat} (h : MF G cs n f) : MF G' cs n f := by
 induction h with
 | nil => exact .nil
 | cons _ l p l' ih => exact .cons ih (go.lev l) (p.app go) (go.lev l')
section
variable {P : Program} {w : World} {K : PySem.W.Frag} {mg : Str -> Option Value} {base : Heap} {a : Ad}
inductive Sx (a : Ad) (vs : List V) (H : Hp) (Q : VK) : Prop
 | mk (g : GA) (G : Gv) (L : Addr) (ts : List Addr) (cs : List Cl) (_ : vs = [.ref g.p, .ref L]) (_ : AO a H g G) (_ : H L = some (.lst (ts.map V.ref))) (_ : L ≠ g.lv) (_ : L ≠ g.pt) (_ : Paired (MG H) ts cs) (_ : (∀ c ∈ cs, Qx c)) (_ : G.length + 400 * cs.length < 8000000) (_ : ∀ (f n : Nat) (G' : Gv) (H' : Hp), Fr g H H' -> AO a H' g G' -> AG G G' (400 * cs.length) -> n <= 40 -> Ao G' f ((n + 1 : Nat) : Int) -> MF G' cs.reverse n f -> Q (.int f) H') : Sx a vs H Q
def QN (a : Ad) : Sp := fun vs H Q _ => Sx a vs H Q
theorem ok_fld {f : Addr} {fd : FuncData} (F : Fun K "field_of" "field_of" Eb f fd) (T : Top K mg a) (C_bare_field : Cal P w K mg base CX0 1 "bare_field" DL (LP a)) (C_planted : Cal P w K mg base CX0 55 "planted" FA (LL a)) : AY P w K mg base CX0 56 f fd EX (QN a) := by
 refine F.ok Fc (fun vs H Q E h => ?_) (fun cdv A outer s H vs Q E hr h => ?_)
 ·obtain ⟨g, G, L, ts, cs, rfl, _⟩ := h
  rfl
 ·obtain ⟨g, G, L, ts, cs, rfl, fu, hL, n1, n2, pr, oks, few, k⟩ := h
  obtain ⟨r0, e0⟩ := fu.g0
  have lts := Paired.length pr
  refine ⟨_, (Ab (Al (i := 2) Fc.nd rfl (Or.inl rfl) (As C_bare_field (rm hr) rfl Ar (Aa (pv 0) Ae))) (Ab (Dj PassesOwn.never rfl (GY (pv 1)) (BG (i := 3) Fc.nd rfl (Or.inl rfl)) (Aj (Al (i := 2) Fc.nd rfl (Or.inl rfl) (As C_planted (rm hr) rfl Ar (Aa (pv 0) (Aa (pv 2) (Aa (Ak Am (pv 3) Ac (fun _ _ => rfl)) (Aa (Ak Am (pv 3) Ac (fun _ _ => rfl)) (Aa (Ak Am (pv 3) Ac (fun _ _ => rfl)) Ae))))))))) (Aj (Aw (pv 2))))), ?_⟩
  try dsimp only [cxK]
  refine ⟨_, rfl, g, G, rfl, fu, ?_⟩
  refine ⟨_, rfl, L, rfl, ⟨_, SqL.of hL⟩, ?_⟩
  refine RV (xs := ts.map V.ref) (fun j σ H2 => ∃ (G' : Gv) (f n : Nat) (u3 : Option V), σ = [some (.ref g.p), some (.ref L), some (.int f), u3] /\ Fr g H H2 /\ AO a H2 g G' /\ AG G G' (400 * j) /\ n <= 40 /\ Ao G' f ((n + 1 : Nat) : Int) /\ MF G' (cs.take j).reverse n f) ⟨G, bareN 1, 0, none, rfl, Fr.refl g H, fu, AG.refl fu.ok, by lia, Cq e0 (by lia), .nil⟩ (fun j σ H2 _ ⟨_, _, _, _, _, fr, _⟩ => SqL.of (fr _ _ hL n1 n2 (Bn hL fu.at'.nm (by intro z; cases z)))) ?_ ?_
  ·rintro j v σ H2 ev ⟨G', f', n, u3, rfl, fr, fu2, go, n40, lf, fl⟩
   rw [List.getElem?_map] at ev
   obtain ⟨t, et, rfl⟩ := Option.map_eq_some_iff.mp ev
   obtain ⟨c, ec, hc⟩ := PairedM.getL pr et
   have cok := oks c (List.mem_of_getElem? ec)
   have hj : j < cs.length := (List.getElem?_eq_some_iff.mp ec).1
   have hc2 := fr.tup fu.at' hc
   have gf := go.few
   refine ⟨_, rfl, _, rfl, _, rfl, t, _, 0, .int c.x, rfl, rfl, SqT.of hc2, Af (j := 0) rfl, _, rfl, t, _, 1, .int c.y, rfl, rfl, SqT.of hc2, Af (j := 1) rfl, _, rfl, t, _, 2, .int c.s, rfl, rfl, SqT.of hc2, Af (j := 2) rfl, ?_⟩
   refine ⟨g, G', f', n, c.x, c.y, c.s, rfl, fu2, lf, n40, cok.li, cok.s, by lia, fun r kk w' i' G2 H3 fr3 fu3 go3 pl => ?_⟩
   have li' := pl.rep.lev fu3.ok cok.s
   obtain ⟨m, lm, lr⟩ := Ex.lev li' pl.tr
   have le := pl.le
   refine ⟨G2, r, m, _, rfl, fr.trans fr3, fu3, (go.trans go3).mono (by lia), by lia, lr, ?_⟩
   rw [List.take_add_one, ec, Option.toList_some, List.reverse_append]
   exact .cons (fl.app go3) (go3.lev lf) pl lr
  ·rintro σ H2 ⟨G', f', n, u3, rfl, fr, fu2, go, n40, lf, fl⟩
   rw [List.length_map, lts] at go fl
   rw [List.take_length] at fl
   exact ⟨_, rfl, k f' n G' H2 fr fu2 go n40 lf fl⟩
end
def Ik (G : Gv) (n f : Nat) : Prop := n = 0 \/ ∃ m qs ps, n = m + 1 /\ IV G m f qs ps /\ ¬ BA m ps
theorem Ik.app {G G' : Gv} {k n f : Nat} (go : AG G G' k) (h : Ik G n f) : Ik G' n f := by
 rcases h with h | ⟨m, qs, ps, e, d, b⟩
 ·exact .inl h
 ·exact .inr ⟨m, qs, ps, e, d.app go, b⟩
end J
namespace J
open PySem L2
def BZ (G : Gv) : Nat -> Nat -> Nat -> Nat -> Nat
 | 0, i, _, _ => i
 | n + 1, i, x, y => match G[i]? with
  | some q => BZ G n (q.parts.getD (quad n x y) 0).toNat (x % 2 ^ n) (y % 2 ^ n)
  | none => 0
theorem AA (n : Nat) : 0 < 2 ^ n := Nat.pow_pos (by decide)
theorem AR {G : Gv} {n i : Nat} {q : Sq} {a b c d : Nat} (h : Ce G n i q a b c d) {x y : Nat} (hx : x < 2 ^ (n + 1)) (hy : y < 2 ^ (n + 1)) : BZ G (n + 1) i x y = BZ G n (f4 a b c d (quad n x y)) (x % 2 ^ n) (y % 2 ^ n) := by
 rw [show BZ G (n + 1) i x y = (match G[i]? with | some q => BZ G n (q.parts.getD (quad n x y) 0).toNat (x % 2 ^ n) (y % 2 ^ n) | none => 0) from rfl, h.g]
 show BZ G n (q.parts.getD (quad n x y) 0).toNat _ _ = _
 have := (h.nat (BT hx hy)).1
 rw [List.getD_eq_getElem?_getD, this]
 rfl
theorem Ew {G G' : Gv} {k : Nat} (ok : GOk G) (go : AG G G' k) : ∀ {n i x y : Nat}, Ao G i (n : Int) -> x < 2 ^ n -> y < 2 ^ n -> BZ G' n i x y = BZ G n i x y
 | 0, _, _, _, _, _, _ => rfl
 | n + 1, i, x, y, h, hx, hy => by
  obtain ⟨q, a, b, c, d, nd⟩ := AX ok h
  rw [AR nd hx hy, AR (nd.app go) hx hy]
  exact Ew ok go (nd.nat (BT hx hy)).2 (Nat.mod_lt _ (AA n)) (Nat.mod_lt _ (AA n))
theorem Cp {G r : Gv} (e : G = G0 ++ r) (ok : GOk G) : ∀ {n x y : Nat}, n <= 48 -> x < 2 ^ n -> y < 2 ^ n -> BZ G n (bareN n) x y = 0
 | 0, _, _, _, _, _ => rfl
 | n + 1, x, y, hn, hx, hy => by
  obtain ⟨q, a, b, c, d, nd⟩ := AX ok (Cq e (n := n + 1) hn)
  have bn : a = bareN n /\ b = bareN n /\ c = bareN n /\ d = bareN n := by
   have g := nd.g
   rw [show bareN (n + 1) = 8 + n from rfl, Mv e n (by lia)] at g
   cases g
   have s : [(bareN n : Int), (bareN n : Int), (bareN n : Int), (bareN n : Int)] = [(a : Int), (b : Int), (c : Int), (d : Int)] := nd.ps
   injection s with s0 s
   injection s with s1 s
   injection s with s2 s
   injection s with s3 s
   exact ⟨(Int.ofNat.inj s0).symm, (Int.ofNat.inj s1).symm, (Int.ofNat.inj s2).symm, (Int.ofNat.inj s3).symm⟩
  obtain ⟨rfl, rfl, rfl, rfl⟩ := bn
  rw [AR nd hx hy]
  have : f4 (bareN n) (bareN n) (bareN n) (bareN n) (quad n x y) = bareN n := by unfold f4; split <;> rfl
  rw [this]
  exact Cp e ok (by lia) (Nat.mod_lt _ (AA n)) (Nat.mod_lt _ (AA n))
theorem Do {n k x y : Nat} (hk : k < 4) (hx : x < 2 ^ n) (hy : y < 2 ^ n) : (x + 2 ^ n * (k % 2)) < 2 ^ (n + 1) /\ (y + 2 ^ n * (k / 2)) < 2 ^ (n + 1) /\ quad n (x + 2 ^ n * (k % 2)) (y + 2 ^ n * (k / 2)) = k /\ (x + 2 ^ n * (k % 2)) % 2 ^ n = x /\ (y + 2 ^ n * (k / 2)) % 2 ^ n = y := by
 have p := AA n
 have e : 2 ^ (n + 1) = 2 * 2 ^ n := by rw [Nat.pow_succ]; lia
 unfold quad
 rw [Nat.add_mul_div_left _ _ p, Nat.add_mul_div_left _ _ p, Nat.add_mul_mod_self_left, Nat.add_mul_mod_self_left, Nat.div_eq_of_lt hx, Nat.div_eq_of_lt hy, Nat.mod_eq_of_lt hx, Nat.mod_eq_of_lt hy, e]
 generalize 2 ^ n = h at *
 match k, hk with
 | 0, _ => exact ⟨by lia, by lia, rfl, rfl, rfl⟩
 | 1, _ => exact ⟨by lia, by lia, rfl, rfl, rfl⟩
 | 2, _ => exact ⟨by lia, by lia, rfl, rfl, rfl⟩
 | 3, _ => exact ⟨by lia, by lia, rfl, rfl, rfl⟩
theorem Ej {G : Gv} (ok : GOk G) : ∀ {n i j : Nat}, Ao G i (n : Int) -> Ao G j (n : Int) -> (∀ x y, x < 2 ^ n -> y < 2 ^ n -> BZ G n i x y = BZ G n j x y) -> i = j
 | 0, i, j, _, _, h => h 0 0 (by decide) (by decide)
 | n + 1, i, j, hi, hj, h => by
  obtain ⟨q, a, b, c, d, nd⟩ := AX ok hi
  obtain ⟨q', a', b', c', d', nd'⟩ := AX ok hj
  have key : ∀ k, k < 4 -> f4 a b c d k = f4 a' b' c' d' k := fun k hk => by
   refine Ej ok (nd.nat hk).2 (nd'.nat hk).2 fun x y hx hy => ?_
   obtain ⟨h1, h2, h3, h4, h5⟩ := Do hk hx hy
   have := h _ _ h1 h2
   rw [AR nd h1 h2, AR nd' h1 h2, h3, h4, h5] at this
   exact this
  have k0 : a = a' := key 0 (by decide)
  have k1 : b = b' := key 1 (by decide)
  have k2 : c = c' := key 2 (by decide)
  have k3 : d = d' := key 3 (by decide)
  subst k0 k1 k2 k3
  exact ok.one nd.g nd'.g (nd.ps.trans nd'.ps.symm)
theorem MM {n x X : Nat} (h1 : x / 2 ^ n = X / 2 ^ n) (h2 : x % 2 ^ n = X % 2 ^ n) : x = X := by
 rw [<- Nat.div_add_mod x (2 ^ n), <- Nat.div_add_mod X (2 ^ n), h1, h2]
theorem MV {G : Gv} (ok : GOk G) {s : Nat} (hs : s < 8) : ∀ {n i X Y r x y : Nat}, X < 2 ^ n -> Y < 2 ^ n -> x < 2 ^ n -> y < 2 ^ n -> Rep G s n i X Y r -> BZ G n r x y = if x = X /\ y = Y then s else BZ G n i x y
 | 0, i, X, Y, r, x, y, hX, hY, hx, hy, h => by
  have h : r = s := h
  have e1 : X = 0 := Nat.lt_one_iff.mp hX
  have e2 : Y = 0 := Nat.lt_one_iff.mp hY
  have e3 : x = 0 := Nat.lt_one_iff.mp hx
  have e4 : y = 0 := Nat.lt_one_iff.mp hy
  subst e1 e2 e3 e4 h
  rfl
 | n + 1, i, X, Y, r, x, y, hX, hY, hx, hy, h => by
  obtain ⟨q, a, b, c, d, j, nd, h1, e⟩ := h
  have lj := h1.lev ok hs
  have lst : ∀ ii, ii < 4 -> Ao G (st4 a b c d (quad n X Y) j ii) (n : Int) := fun ii hi => by
   unfold st4
   split
   ·exact lj
   ·exact (nd.nat hi).2
  have nr : Ce G n r _ (st4 a b c d (quad n X Y) j 0) (st4 a b c d (quad n X Y) j 1) (st4 a b c d (quad n X Y) j 2) (st4 a b c d (quad n X Y) j 3) := ⟨e, rfl, rfl, lst 0 (by decide), lst 1 (by decide), lst 2 (by decide), lst 3 (by decide)⟩
  have qk := BT hx hy
  rw [AR nr hx hy, AR nd hx hy, Gi (st4 a b c d (quad n X Y) j) qk]
  have m := AA n
  have x2 := Bg hx
  have y2 := Bg hy
  have X2 := Bg hX
  have Y2 := Bg hY
  unfold st4
  by_cases hq : quad n x y = quad n X Y
  ·rw [if_pos hq, MV ok hs (Nat.mod_lt _ m) (Nat.mod_lt _ m) (Nat.mod_lt _ m) (Nat.mod_lt _ m) h1, hq]
   have exy : x / 2 ^ n = X / 2 ^ n /\ y / 2 ^ n = Y / 2 ^ n := by
    unfold quad at hq
    generalize x / 2 ^ n = A at *
    generalize X / 2 ^ n = B at *
    generalize y / 2 ^ n = C at *
    generalize Y / 2 ^ n = D at *
    lia
   obtain ⟨ex, ey⟩ := exy
   by_cases hxy : x = X /\ y = Y
   ·rw [if_pos hxy, if_pos ⟨by rw [hxy.1], by rw [hxy.2]⟩]
   ·rw [if_neg hxy, if_neg fun z => hxy ⟨MM ex z.1, MM ey z.2⟩]
  ·rw [if_neg hq, if_neg fun z => hq (by rw [z.1, z.2])]
def AF (G : Gv) (n f : Nat) (x y : Int) : Nat := if -(2 ^ n) <= x /\ x < 2 ^ n /\ -(2 ^ n) <= y /\ y < 2 ^ n then BZ G (n + 1) f (x + 2 ^ n).toNat (y + 2 ^ n).toNat else 0
theorem CZ {n : Nat} {x : Int} (h0 : -(2 ^ n) <= x) (h1 : x < 2 ^ n) : (x + 2 ^ n).toNat < 2 ^ (n + 1) := by
 have e := DJ (n + 1)
 rw [Ec] at e
 lia
theorem Dy {G G' : Gv} {k n f : Nat} (ok : GOk G) (go : AG G G' k) (h : Ao G f ((n + 1 : Nat) : Int)) (x y : Int) : AF G' n f x y = AF G n f x y := by
 unfold AF
 split
 ·rename_i z
  exact Ew ok go h (CZ z.1 z.2.1) (CZ z.2.2.1 z.2.2.2)
 ·rfl
theorem Ml {h X : Nat} (u : Nat) (h1 : h * u <= X) (h2 : X < h * (u + 1)) : X / h = u /\ X % h = X - h * u := by
 have e : X / h = u := Nat.div_eq_of_lt_le (by rw [Nat.mul_comm]; exact h1) (by rw [Nat.mul_comm]; exact h2)
 exact ⟨e, by have := Nat.div_add_mod X h; rw [e] at this; lia⟩
end J
namespace J
open PySem L2
theorem DP (x n : Nat) : x % 2 ^ (n + 1) % 2 ^ n = x % 2 ^ n := Nat.mod_mod_of_dvd x ⟨2, by rw [Nat.pow_succ]⟩
theorem IB {G : Gv} {n i : Nat} {qs : Nat -> Nat} {ps : Nat -> Nat -> Nat} (h : IV G n i qs ps) {x y : Nat} (hx : x < 2 ^ (n + 2)) (hy : y < 2 ^ (n + 2)) : BZ G (n + 2) i x y = BZ G n (ps (quad (n + 1) x y) (quad n (x % 2 ^ (n + 1)) (y % 2 ^ (n + 1)))) (x % 2 ^ n) (y % 2 ^ n) := by
 obtain ⟨q, nd⟩ := h.node
 have qk := BT (l := n + 1) hx hy
 have hx1 : x % 2 ^ (n + 1) < 2 ^ (n + 1) := Nat.mod_lt _ (AA _)
 have hy1 : y % 2 ^ (n + 1) < 2 ^ (n + 1) := Nat.mod_lt _ (AA _)
 obtain ⟨q', nk⟩ := h.sub _ qk
 rw [AR nd hx hy, Gi qs qk, AR nk hx1 hy1, Gi (ps _) (BT hx1 hy1), DP, DP]
theorem bits {h u : Nat} (hu : u < 2 * h) : (u + h) / (2 * h) = u / h /\ (u + h) % (2 * h) / h = 1 - u / h /\ (u + h) % h = u % h /\ u / h < 2 := by
 have p : 0 < h := by lia
 rcases Nat.lt_or_ge u h with z | z
 ·have e1 : u / h = 0 := Nat.div_eq_of_lt z
  have e2 : (u + h) / (2 * h) = 0 := Nat.div_eq_of_lt (by lia)
  have e3 : (u + h) % (2 * h) = u + h := Nat.mod_eq_of_lt (by lia)
  have e4 : (u + h) / h = 1 := (Ml (X := u + h) 1 (by lia) (by lia)).1
  exact ⟨by rw [e1, e2], by rw [e3, e4, e1], Nat.add_mod_right u h, by lia⟩
 ·have e1 : u / h = 1 := (Ml 1 (by lia) (by lia)).1
  have e2 := Ml (h := 2 * h) (X := u + h) 1 (by lia) (by lia)
  have e3 : (u + h - 2 * h * 1) / h = 0 := Nat.div_eq_of_lt (by lia)
  exact ⟨by rw [e1, e2.1], by rw [e2.2, e3, e1], Nat.add_mod_right u h, by lia⟩
theorem Gc (n : Nat) : 2 ^ (n + 1) = 2 * 2 ^ n := by rw [Nat.pow_succ]; lia
theorem RC {G : Gv} (ok : GOk G) {n i m : Nat} {qs : Nat -> Nat} {ps : Nat -> Nat -> Nat} (h : IV G n i qs ps) (em : G[m]? = some ⟨[(ps 0 3 : Int), (ps 1 2 : Int), (ps 2 1 : Int), (ps 3 0 : Int)], (n : Int) + 1⟩) {u v : Nat} (hu : u < 2 ^ (n + 1)) (hv : v < 2 ^ (n + 1)) : BZ G (n + 2) i (u + 2 ^ n) (v + 2 ^ n) = BZ G (n + 1) m u v := by
 have lp : ∀ k j, k < 4 -> j < 4 -> Ao G (ps k j) (n : Int) := fun k j hk hj => by
  obtain ⟨q, nk⟩ := h.sub k hk
  have := (nk.nat hj).2
  rw [Gi (ps k) hj] at this
  exact this
 have nm : Ce G n m _ (ps 0 3) (ps 1 2) (ps 2 1) (ps 3 0) := ⟨em, rfl, rfl, lp 0 3 (by decide) (by decide), lp 1 2 (by decide) (by decide), lp 2 1 (by decide) (by decide), lp 3 0 (by decide) (by decide)⟩
 have e1 := Gc n
 have e2 : 2 ^ (n + 2) = 2 * 2 ^ (n + 1) := Gc (n + 1)
 have p := AA n
 rw [IB h (by lia) (by lia), AR nm hu hv]
 unfold quad
 rw [e1]
 rw [e1] at hu hv
 obtain ⟨a1, a2, a3, a4⟩ := bits hu
 obtain ⟨b1, b2, b3, b4⟩ := bits hv
 rw [a1, a2, a3, b1, b2, b3]
 have two : ∀ {A : Nat}, A < 2 -> A = 0 \/ A = 1 := fun {A} h => by lia
 have hu2 := two a4
 have hv2 := two b4
 rcases hu2 with z | z <;> rcases hv2 with z' | z' <;> rw [z, z'] <;> rfl
theorem mid_iff' {m X Y : Nat} {x y : Int} (eX : (X : Int) = x + 2 ^ (m + 1)) (eY : (Y : Int) = y + 2 ^ (m + 1)) (hX : X < 2 ^ (m + 2)) (hY : Y < 2 ^ (m + 2)) : quad m (X % 2 ^ (m + 1)) (Y % 2 ^ (m + 1)) + quad (m + 1) X Y = 3 ↔ (-(2 ^ m) <= x /\ x < 2 ^ m /\ -(2 ^ m) <= y /\ y < 2 ^ m) := by
 have p := AA m
 have e1 := Gc m
 have e2 : 2 ^ (m + 2) = 2 * 2 ^ (m + 1) := Gc (m + 1)
 have c1 := DJ m
 have c2 := DJ (m + 1)
 rw [e1] at c2
 unfold quad
 rw [e1]
 rw [e2, e1] at hX hY
 rw [<- c2] at eX eY
 rw [<- c1]
 generalize 2 ^ m = h at *
 have key : ∀ {X : Nat} {x : Int}, (X : Int) = x + ((2 * h : Nat) : Int) -> X < 2 * (2 * h) -> (X % (2 * h) / h + X / (2 * h) = 1 ↔ -(h : Int) <= x /\ x < (h : Int)) /\ X % (2 * h) / h < 2 /\ X / (2 * h) < 2 := by
  intro X x e l
  have h2 : 0 < 2 * h := by lia
  have q2 : X / (2 * h) < 2 := by rw [Nat.div_lt_iff_lt_mul h2]; exact l
  have r2 : X % (2 * h) < 2 * h := Nat.mod_lt _ h2
  have q1 : X % (2 * h) / h < 2 := by rw [Nat.div_lt_iff_lt_mul p]; exact r2
  have d2 := Nat.div_add_mod X (2 * h)
  have d1 := Nat.div_add_mod (X % (2 * h)) h
  have m1 := Nat.mod_lt (X % (2 * h)) p
  refine ⟨?_, q1, q2⟩
  generalize X / (2 * h) = u at *
  generalize X % (2 * h) / h = v at *
  generalize X % (2 * h) % h = t at *
  generalize X % (2 * h) = rr at *
  have hu : u = 0 \/ u = 1 := by lia
  have hv : v = 0 \/ v = 1 := by lia
  rcases hu with rfl | rfl <;> rcases hv with rfl | rfl <;> simp only [Nat.mul_zero, Nat.mul_one, Nat.zero_add] at d1 d2 <;> lia
 obtain ⟨kx, x1, x2⟩ := key eX hX
 obtain ⟨ky, y1, y2⟩ := key eY hY
 clear key
 generalize X % (2 * h) / h = A at *
 generalize X / (2 * h) = B at *
 generalize Y % (2 * h) / h = C at *
 generalize Y / (2 * h) = D at *
 constructor
 ·intro z
  have zx := kx.mp (by lia)
  have zy := ky.mp (by lia)
  exact ⟨zx.1, zx.2, zy.1, zy.2⟩
 ·rintro ⟨z1, z2, z3, z4⟩
  have zx := kx.mpr ⟨z1, z2⟩
  have zy := ky.mpr ⟨z3, z4⟩
  lia
theorem Lr {G r : Gv} (e0 : G = G0 ++ r) (ok : GOk G) {n i m : Nat} (hn : n <= 46) {qs : Nat -> Nat} {ps : Nat -> Nat -> Nat} (h : IV G n i qs ps) (ba : BA n ps) (em : G[m]? = some ⟨[(ps 0 3 : Int), (ps 1 2 : Int), (ps 2 1 : Int), (ps 3 0 : Int)], (n : Int) + 1⟩) (x y : Int) : AF G (n + 1) i x y = AF G n m x y := by
 have s1 := Ec n
 have p := Ff n
 unfold AF
 by_cases hin : -(2 ^ n) <= x /\ x < 2 ^ n /\ -(2 ^ n) <= y /\ y < 2 ^ n
 ·obtain ⟨a1, a2, a3, a4⟩ := hin
  rw [if_pos ⟨by lia, by lia, by lia, by lia⟩, if_pos ⟨a1, a2, a3, a4⟩]
  have hu := CZ a1 a2
  have hv := CZ a3 a4
  have c := DJ n
  have ex : (x + 2 ^ (n + 1)).toNat = (x + 2 ^ n).toNat + 2 ^ n := by lia
  have ey : (y + 2 ^ (n + 1)).toNat = (y + 2 ^ n).toNat + 2 ^ n := by lia
  rw [ex, ey]
  exact RC ok h em hu hv
 ·rw [if_neg hin]
  split
  ·rename_i z
   obtain ⟨z1, z2, z3, z4⟩ := z
   have hX := CZ z1 z2
   have hY := CZ z3 z4
   rw [IB h hX hY]
   have ne : ¬ quad n ((x + 2 ^ (n + 1)).toNat % 2 ^ (n + 1)) ((y + 2 ^ (n + 1)).toNat % 2 ^ (n + 1)) + quad (n + 1) (x + 2 ^ (n + 1)).toNat (y + 2 ^ (n + 1)).toNat = 3 := fun q => hin ((mid_iff' (Int.toNat_of_nonneg (by lia)) (Int.toNat_of_nonneg (by lia)) hX hY).mp q)
   rw [ba _ _ (BT hX hY) (BT (Nat.mod_lt _ (AA _)) (Nat.mod_lt _ (AA _))) ne]
   exact Cp e0 ok (by lia) (Nat.mod_lt _ (AA _)) (Nat.mod_lt _ (AA _))
  ·rfl
theorem FJ {G r0 : Gv} (e0 : G = G0 ++ r0) (ok : GOk G) : ∀ {n f r : Nat}, n <= 47 -> Ao G f ((n + 1 : Nat) : Int) -> Ex G (n + 1) f r -> ∃ m, m <= n /\ Ao G r ((m + 1 : Nat) : Int) /\ Ik G m r /\ ∀ x y, AF G m r x y = AF G n f x y
 | 0, f, r, _, hl, h => by
  have h : r = f := h
  subst h
  exact ⟨0, Nat.le_refl _, hl, .inl rfl, fun _ _ => rfl⟩
 | n + 1, f, r, hn, hl, h => by
  obtain ⟨qs, ps, d, h⟩ := h
  rcases h with ⟨nb, rfl⟩ | ⟨ba, m, em, h⟩
  ·exact ⟨n + 1, Nat.le_refl _, hl, .inr ⟨n, qs, ps, rfl, d, nb⟩, fun _ _ => rfl⟩
  ·obtain ⟨k, hk, lk, tk, ek⟩ := FJ e0 ok (by lia) ⟨_, em, by show (n : Int) + 1 = _; lia⟩ h
   refine ⟨k, by lia, lk, tk, fun x y => ?_⟩
   rw [ek x y, Lr e0 ok (by lia) d ba em x y]
theorem Pz {G r : Gv} (e0 : G = G0 ++ r) (ok : GOk G) {n f w : Nat} (hn : n <= 46) (h : Wid G n f w) (x y : Int) : AF G (n + 1) w x y = AF G n f x y := by
 obtain ⟨q, a, b, c, d, w0, w1, w2, w3, nd, ea, eb, ec, ed, ew⟩ := h.ex
 have lb := Cq e0 (n := n) (by lia)
 have lv : ∀ {p : Nat} {l : List Int}, G[p]? = some ⟨l, (n : Int) + 1⟩ -> Ao G p ((n + 1 : Nat) : Int) := fun {p l} e => ⟨_, e, by show (n : Int) + 1 = _; lia⟩
 have dp : IV G n w (f4 w0 w1 w2 w3) (fun k j => if j + k = 3 then f4 a b c d k else bareN n) := by
  refine ⟨⟨_, ew, rfl, by show (n : Int) + 2 = _; lia, lv ea, lv eb, lv ec, lv ed⟩, fun k hk => ?_⟩
  match k, hk with
  | 0, _ => exact ⟨_, ea, rfl, rfl, lb, lb, lb, nd.hx⟩
  | 1, _ => exact ⟨_, eb, rfl, rfl, lb, lb, nd.hy, lb⟩
  | 2, _ => exact ⟨_, ec, rfl, rfl, lb, nd.hz, lb, lb⟩
  | 3, _ => exact ⟨_, ed, rfl, rfl, nd.hw, lb, lb, lb⟩
 have g := nd.g
 have l := nd.lev
 have ps := nd.ps
 refine Lr e0 ok hn dp (fun k j _ _ ne => if_neg ne) ?_ x y
 rw [g]
 cases q with
 | mk pp ll => cases ps; cases l; rfl
theorem EQ {G r : Gv} (e0 : G = G0 ++ r) (ok : GOk G) {n f : Nat} : ∀ {k w : Nat}, n + k <= 46 -> IT G n f k w -> ∀ x y, AF G (n + k) w x y = AF G n f x y
 | 0, w, _, h, x, y => by
  have h : w = f := h
  subst h
  rfl
 | k + 1, w, hk, h, x, y => by
  obtain ⟨u, h1, h2⟩ := h
  rw [show n + (k + 1) = n + k + 1 by lia, Pz e0 ok (by lia) h2 x y]
  exact EQ e0 ok (by lia) h1 x y
theorem Na {G r0 : Gv} (e0 : G = G0 ++ r0) (ok : GOk G) {n f s r k w i : Nat} {X Y : Int} (hs : s < 8) (h : GC G n f X Y s r k w i) : ∃ m, m <= 40 /\ Ao G r ((m + 1 : Nat) : Int) /\ Ik G m r /\ ∀ x y, AF G m r x y = if x = X /\ y = Y then s else AF G n f x y := by
 have le := h.le
 have li := h.rep.lev ok hs
 obtain ⟨m, hm, lm, tm, em⟩ := FJ e0 ok (by lia) li h.tr
 refine ⟨m, by lia, lm, tm, fun x y => ?_⟩
 rw [em x y, <- EQ e0 ok (by lia) h.wid x y]
 obtain ⟨b1, b2, b3, b4⟩ := OX h.li
 obtain ⟨l1, l2, l3, l4⟩ := h.li
 unfold AF
 split
 ·rename_i z
  obtain ⟨z1, z2, z3, z4⟩ := z
  rw [MV ok hs b1 b2 (CZ z1 z2) (CZ z3 z4) h.rep]
  by_cases hxy : x = X /\ y = Y
  ·rw [if_pos hxy, if_pos ⟨by rw [hxy.1], by rw [hxy.2]⟩]
  ·rw [if_neg hxy, if_neg fun q => hxy ⟨by lia, by lia⟩]
 ·rename_i z
  rw [if_neg fun q => z ⟨by lia, by lia, by lia, by lia⟩]
theorem Nz {G r : Gv} (e0 : G = G0 ++ r) (ok : GOk G) {n i : Nat} (hn : n <= 48) (h : Ao G i (n : Int)) (ne : i ≠ bareN n) : ∃ x y, x < 2 ^ n /\ y < 2 ^ n /\ BZ G n i x y ≠ 0 := by
 refine Classical.byContradiction fun z => ne (Ej ok h (Cq e0 hn) fun x y hx hy => ?_)
 rw [Cp e0 ok hn hx hy]
 exact Classical.byContradiction fun q => z ⟨x, y, hx, hy, q⟩
theorem QA {G r : Gv} (e0 : G = G0 ++ r) (ok : GOk G) {m f : Nat} (hm : m <= 46) (h : Ik G (m + 1) f) : ∃ x y : Int, ¬ (-(2 ^ m) <= x /\ x < 2 ^ m /\ -(2 ^ m) <= y /\ y < 2 ^ m) /\ AF G (m + 1) f x y ≠ 0 := by
 rcases h with h | ⟨m', qs, ps, e, dp, nb⟩
 ·lia
 ·have : m' = m := by lia
  subst this
  have : ∃ k j, k < 4 /\ j < 4 /\ j + k ≠ 3 /\ ps k j ≠ bareN m' := by
   refine Classical.byContradiction fun z => nb fun k j hk hj ne => Classical.byContradiction fun q => z ⟨k, j, hk, hj, ne, q⟩
  obtain ⟨k, j, hk, hj, ne, nbare⟩ := this
  obtain ⟨qk, nk⟩ := dp.sub k hk
  have lp : Ao G (ps k j) (m' : Int) := by
   have := (nk.nat hj).2
   rw [Gi (ps k) hj] at this
   exact this
  obtain ⟨u, v, hu, hv, hc⟩ := Nz e0 ok (by lia) lp nbare
  obtain ⟨a1, a2, a3, a4, a5⟩ := Do hj hu hv
  obtain ⟨b1, b2, b3, b4, b5⟩ := Do (n := m' + 1) hk a1 a2
  generalize hX : u + 2 ^ m' * (j % 2) + 2 ^ (m' + 1) * (k % 2) = X at *
  generalize hY : v + 2 ^ m' * (j / 2) + 2 ^ (m' + 1) * (k / 2) = Y at *
  have c1 := DJ (m' + 1)
  have c2 := DJ (m' + 2)
  have s2 := Ec (m' + 1)
  rw [s2] at c2
  refine ⟨(X : Int) - 2 ^ (m' + 1), (Y : Int) - 2 ^ (m' + 1), fun z => ne ?_, ?_⟩
  ·have := (mid_iff' (X := X) (Y := Y) (by lia) (by lia) b1 b2).mpr z
   rw [b3, b4, b5, a3] at this
   exact this
  ·unfold AF
   rw [if_pos ⟨by lia, by lia, by lia, by lia⟩, show ((X : Int) - 2 ^ (m' + 1) + 2 ^ (m' + 1)).toNat = X by lia, show ((Y : Int) - 2 ^ (m' + 1) + 2 ^ (m' + 1)).toNat = Y by lia, IB dp b1 b2, b3, b4, b5, a3]
   have d1 : X % 2 ^ m' = u := by rw [<- DP, b4, a4]
   have d2 : Y % 2 ^ m' = v := by rw [<- DP, b5, a5]
   rw [d1, d2]
   exact hc
theorem Ou {G r : Gv} (e0 : G = G0 ++ r) (ok : GOk G) {n m f f' : Nat} (hn : n <= 47) (hm : m <= 47) (lf : Ao G f ((n + 1 : Nat) : Int)) (lf' : Ao G f' ((m + 1 : Nat) : Int)) (t : Ik G n f) (t' : Ik G m f') (h : ∀ x y, AF G n f x y = AF G m f' x y) : n = m /\ f = f' := by
 have le : ∀ {n m f f' : Nat}, m <= 47 -> Ik G m f' -> (∀ x y, AF G n f x y = AF G m f' x y) -> m <= n := by
  intro n m f f' hm t' h
  refine Nat.le_of_not_lt fun z => ?_
  obtain ⟨k, rfl⟩ : ∃ k, m = k + 1 := ⟨m - 1, by lia⟩
  obtain ⟨x, y, out, lv⟩ := QA e0 ok (by lia) t'
  rw [<- h x y] at lv
  unfold AF at lv
  split at lv
  ·rename_i q
   have : (2 : Int) ^ n <= 2 ^ k := by
    have := Nat.pow_le_pow_right (show 0 < 2 by decide) (show n <= k by lia)
    exact_mod_cast this
   exact out ⟨by lia, by lia, by lia, by lia⟩
  ·exact lv rfl
 have e1 := le hm t' h
 have e2 := le hn t fun x y => (h x y).symm
 have e : n = m := by lia
 subst e
 refine ⟨rfl, Ej ok lf lf' fun x y hx hy => ?_⟩
 have c1 := DJ n
 have c2 := DJ (n + 1)
 have s2 := Ec n
 rw [s2] at c2
 have := h ((x : Int) - 2 ^ n) ((y : Int) - 2 ^ n)
 unfold AF at this
 rw [if_pos ⟨by lia, by lia, by lia, by lia⟩, if_pos ⟨by lia, by lia, by lia, by lia⟩, show ((x : Int) - 2 ^ n + 2 ^ n).toNat = x by lia, show ((y : Int) - 2 ^ n + 2 ^ n).toNat = y by lia] at this
 exact this
end J
namespace J
open PySem L2
def Fix : HO -> Prop
 | .tup _ => True
 | .ins _ _ _ => True
 | _ => False
def Fx (l : List Addr) (H H' : Hp) : Prop := ∀ b o, H b = some o -> (b ∈ l -> Fix o) -> H' b = some o
theorem Fx.refl (l : List Addr) (H : Hp) : Fx l H H := fun _ _ e _ => e
theorem Fx.trans {l : List Addr} {H1 H2 H3 : Hp} (h : Fx l H1 H2) (h2 : Fx l H2 H3) : Fx l H1 H3 := fun b o e n => h2 b o (h b o e n) n
theorem AB.fx {l : List Addr} {H1 H2 : Hp} (h : AB H1 H2) : Fx l H1 H2 := fun b o e _ => h b o e
theorem Fx.mono {l m : List Addr} {H1 H2 : Hp} (h : Fx l H1 H2) (s : ∀ x ∈ l, x ∈ m) : Fx m H1 H2 := fun b o e n => h b o e fun z => n (s b z)
theorem Fx.get {l : List Addr} {H1 H2 : Hp} (h : Fx l H1 H2) {b : Addr} {o : HO} (n : b ∉ l) (e : H1 b = some o) : H2 b = some o := h b o e fun z => absurd z n
theorem Fx.tup {l : List Addr} {H1 H2 : Hp} (h : Fx l H1 H2) {b : Addr} {xs : List V} (e : H1 b = some (.tup xs)) : H2 b = some (.tup xs) := h b _ e fun _ => True.intro
theorem Pf {H : Hp} {x : Addr} {o o' : HO} (e : H x = some o) (n : ¬ Fix o) : Fx [x] H (upd H x o') := fun b u e2 f => by
 by_cases z : b = x
 ·subst z
  rw [e] at e2
  cases e2
  exact absurd (f (List.mem_singleton.mpr rfl)) n
 ·rw [Av z]
  exact e2
theorem Fr.fx {a : Ad} {g : GA} {G : Gv} {H H' : Hp} (h : Fr g H H') (at' : AS a H g G) : Fx [g.lv, g.pt, g.nm] H H' := fun b o e f => by
 obtain ⟨ts, h3, _⟩ := at'.pt
 refine h b o e (fun z => ?_) (fun z => ?_) (fun z => ?_)
 ·subst z; rw [at'.lv] at e; cases e; exact f (by simp)
 ·subst z; rw [h3] at e; cases e; exact f (by simp)
 ·subst z; rw [at'.nm] at e; cases e; exact f (by simp)
theorem FrQ.fx {a : Ad} {g : GA} {G : Gv} {H H' : Hp} (h : FrQ g H H') (fu : AO a H g G) : Fx [g.am, g.bx] H H' := fun b o e f => by
 obtain ⟨ks, h1, _⟩ := fu.am
 obtain ⟨ks', h2, _⟩ := fu.bx
 refine h b o e (fun z => ?_) (fun z => ?_)
 ·subst z; rw [h1] at e; cases e; exact f (by simp)
 ·subst z; rw [h2] at e; cases e; exact f (by simp)
def Cu (g : GA) : List Addr := [g.lv, g.pt, g.nm, g.br, g.am, g.bx]
theorem AO.fx {a : Ad} {g : GA} {G : Gv} {H H' : Hp} {l : List Addr} (h : AO a H g G) (f : Fx l H H') (n : ∀ x ∈ Cu g, x ∉ l) : AO a H' g G := by
 obtain ⟨at', ok, g0, br, ⟨ks, h1, h2⟩, ⟨ks', h3, h4⟩, n1, n2, n3⟩ := h
 obtain ⟨p1, p2, ⟨ts, p3, p4⟩, p5, p6⟩ := at'
 have m : ∀ x ∈ Cu g, ∀ o, H x = some o -> H' x = some o := fun x hx o e => f.get (n x hx) e
 refine ⟨⟨f _ _ p1 fun _ => True.intro, m _ (by simp [Cu]) _ p2, ⟨ts, m _ (by simp [Cu]) _ p3, PairedM.imp (fun t q z => f.tup z) p4⟩, m _ (by simp [Cu]) _ p5, p6⟩, ok, g0, m _ (by simp [Cu]) _ br, ⟨ks, m _ (by simp [Cu]) _ h1, h2⟩, ⟨ks', m _ (by simp [Cu]) _ h3, h4.keys, fun i v e => ?_⟩, n1, n2, n3⟩
 obtain ⟨l, b, t, e1, e2, e3, e4⟩ := h4.val i v e
 exact ⟨l, b, t, e1, e2, e3, f.tup e4⟩
theorem AB.noneOf {H H' : Hp} (s : AB H H') {x : Addr} (n : H' x = none) : H x = none := by
 cases e : H x with
 | none => rfl
 | some o => rw [s _ _ e] at n; cases n
structure Nw (H : Hp) (l : List Addr) : Prop where
 nd : l.Nodup
 s : ∀ x ∈ l, ∃ o, H x = some o
theorem AO.nw {a : Ad} {H : Hp} {g : GA} {G : Gv} (h : AO a H g G) : Nw H (Cu g) := by
 obtain ⟨⟨_, h2, ⟨ts, h3, _⟩, h5, h6⟩, _, _, h7, ⟨ks, h8, _⟩, ⟨ks', h9, _⟩, n1, n2, n3⟩ := h
 have t : ∀ {x y : Addr} {o o' : HO}, H x = some o -> H y = some o' -> o ≠ o' -> x ≠ y := fun {x y o o'} e e' n => Bn e e' n
 refine ⟨?_, fun x hx => ?_⟩
 ·simp only [Cu, List.nodup_cons, List.mem_cons, List.not_mem_nil, or_false, not_or, not_false_eq_true, List.nodup_nil, and_true]
  exact ⟨⟨h6, t h2 h5 (by intro z; cases z), Ne.symm n1, t h2 h8 (by intro z; cases z), t h2 h9 (by intro z; cases z)⟩, ⟨t h3 h5 (by intro z; cases z), Ne.symm n2, t h3 h8 (by intro z; cases z), t h3 h9 (by intro z; cases z)⟩, ⟨t h5 h7 (by intro z; cases z), t h5 h8 (by intro z; cases z), t h5 h9 (by intro z; cases z)⟩, ⟨t h7 h8 (by intro z; cases z), t h7 h9 (by intro z; cases z)⟩, n3⟩
 ·simp only [Cu, List.mem_cons, List.not_mem_nil, or_false] at hx
  rcases hx with rfl | rfl | rfl | rfl | rfl | rfl
  ·exact ⟨_, h2⟩
  ·exact ⟨_, h3⟩
  ·exact ⟨_, h5⟩
  ·exact ⟨_, h7⟩
  ·exact ⟨_, h8⟩
  ·exact ⟨_, h9⟩
theorem Dg {H : Hp} {x y : Addr} {o : HO} (h : upd H x o y = none) : H y = none := by
 by_cases e : y = x
 ·subst e
  rw [Ai] at h
  cases h
 ·rw [Av e] at h
  exact h
theorem NO.none {a : Ad} {H H' : Hp} {x dx : Addr} {o o' : HO} {g : GA} {G : Gv} {B : List Int} {am : List (Key × V)} (N : NO a (upd (upd H dx o) x o') H' g G B am) : ∀ y ∈ Cu g, H y = none := fun y hy => by
 obtain ⟨f1, f2, f3, f4, f5, f6⟩ := N.fresh
 simp only [Cu, List.mem_cons, List.not_mem_nil, or_false] at hy
 rcases hy with rfl | rfl | rfl | rfl | rfl | rfl
 ·exact Dg (Dg f1)
 ·exact Dg (Dg f2)
 ·exact Dg (Dg f3)
 ·exact Dg (Dg f4)
 ·exact Dg (Dg f5)
 ·exact Dg (Dg f6)
theorem AB.fxn {H H3 H4 : Hp} {m : List Addr} (s : AB H H3) (f : Fx m H3 H4) (n : ∀ y ∈ m, H y = none) : AB H H4 := fun b o e => f.get (fun z => by rw [n b z] at e; cases e) (s _ _ e)
theorem ev_test {c : TT} {σ : St} {H : Hp} {Q : Bool -> Hp -> Prop} (b : Bool) (h : ∀ Q' : Bool -> Hp -> Prop, Q' b H -> c σ H Q') (q : Q b H) : c σ H Q := h Q q
theorem ev_val {t : TE} {σ : St} {H : Hp} {Q : VK} (P : V -> Hp -> Prop) (h : ∀ Q' : VK, (∀ v H', P v H' -> Q' v H') -> t σ H Q') (q : ∀ v H', P v H' -> Q v H') : t σ H Q := h Q q
theorem idx {n : Nat} (h : 0 < n) (v : Int) : ∃ j : Nat, v % (n : Int) = (j : Int) /\ j < n := by
 have h1 := Int.emod_nonneg v (show (n : Int) ≠ 0 by lia)
 have h2 := Int.emod_lt_of_pos v (show (0 : Int) < (n : Int) by lia)
 obtain ⟨j, e⟩ := Int.eq_ofNat_of_zero_le h1
 exact ⟨j, e, by lia⟩
end J
namespace J
open PySem L2
theorem meetH {T : St -> Hp -> Prop} {C : Prop} (P : St -> Hp -> Prop) (h : (∀ σ H, P σ H -> T σ H) -> C) (k : ∀ σ H, P σ H -> T σ H) : C := h k
theorem Sol.uniq {G : Gv} (ok : GOk G) {s : Nat} : ∀ {l n m : Nat}, Sol G s l n -> Sol G s l m -> n = m
 | 0, n, m, h, h2 => by
  have h : n = s := h
  have h2 : m = s := h2
  rw [h, h2]
 | l + 1, n, m, h, h2 => by
  obtain ⟨a, h1, e1⟩ := h
  obtain ⟨b, h3, e3⟩ := h2
  have := Sol.uniq ok h1 h3
  subst this
  exact ok.one e1 e3 rfl
structure Fo (G : Gv) (n i o : Nat) (l t r b : Int) (m : Nat) : Prop where
 lev : Ao G m (n : Int)
 cell : ∀ x y : Nat, x < 2 ^ n -> y < 2 ^ n -> BZ G n m x y = if (l <= x /\ (x : Int) < r) /\ (t <= y /\ (y : Int) < b) then BZ G n i x y else BZ G n o x y
theorem Fo.app {G G' : Gv} {k n i o m : Nat} {l t r b : Int} (ok : GOk G) (go : AG G G' k) (hi : Ao G i (n : Int)) (ho : Ao G o (n : Int)) (h : Fo G n i o l t r b m) : Fo G' n i o l t r b m := ⟨go.lev h.lev, fun x y hx hy => by rw [Ew ok go h.lev hx hy, Ew ok go hi hx hy, Ew ok go ho hx hy]; exact h.cell x y hx hy⟩
def spl (s e h : Int) : Nat -> Int × Int
 | 0 => (s, if h < e then h else e)
 | _ => (if s - h < 0 then 0 else s - h, e - h)
theorem Jb {s e : Int} {n x u : Nat} (hx : x < 2 ^ (n + 1)) (hu : x / 2 ^ n = u) : ((spl s e (2 ^ n) u).1 <= ((x % 2 ^ n : Nat) : Int) /\ ((x % 2 ^ n : Nat) : Int) < (spl s e (2 ^ n) u).2) ↔ (s <= x /\ (x : Int) < e) := by
 have p : (0 : Int) < 2 ^ n := Ff n
 have e1 : (2 : Int) ^ n = ((2 ^ n : Nat) : Int) := by exact_mod_cast rfl
 have dm := Nat.div_add_mod x (2 ^ n)
 have lt := Nat.mod_lt x (AA n)
 have hu2 := Bg hx
 rw [hu] at dm hu2
 rw [e1] at p ⊢
 generalize 2 ^ n = h at *
 match u, hu2 with
 | 0, _ =>
  have ex : x % h = x := by rw [Nat.mul_zero, Nat.zero_add] at dm; exact dm
  show (s <= ((x % h : Nat) : Int) /\ ((x % h : Nat) : Int) < if (h : Int) < e then (h : Int) else e) ↔ _
  rw [ex]
  split <;> lia
 | 1, _ =>
  have ex : x = h + x % h := by rw [Nat.mul_one] at dm; exact dm.symm
  show ((if s - (h : Int) < 0 then (0 : Int) else s - h) <= ((x % h : Nat) : Int) /\ ((x % h : Nat) : Int) < e - h) ↔ _
  split <;> lia
theorem Fo.join {G : Gv} {n i o m : Nat} {l t r b : Int} {qi qo : Sq} {i0 i1 i2 i3 o0 o1 o2 o3 : Nat} {ms : Nat -> Nat} (ni : Ce G n i qi i0 i1 i2 i3) (no : Ce G n o qo o0 o1 o2 o3)
  (h : ∀ k, k < 4 -> Fo G n (f4 i0 i1 i2 i3 k) (f4 o0 o1 o2 o3 k) (spl l r (2 ^ n) (k % 2)).1 (spl t b (2 ^ n) (k / 2)).1 (spl l r (2 ^ n) (k % 2)).2 (spl t b (2 ^ n) (k / 2)).2 (ms k))
  (em : G[m]? = some ⟨[(ms 0 : Int), (ms 1 : Int), (ms 2 : Int), (ms 3 : Int)], (n : Int) + 1⟩) : Fo G (n + 1) i o l t r b m := by
 have nm : Ce G n m _ (ms 0) (ms 1) (ms 2) (ms 3) := ⟨em, rfl, rfl, (h 0 (by decide)).lev, (h 1 (by decide)).lev, (h 2 (by decide)).lev, (h 3 (by decide)).lev⟩
 refine ⟨⟨_, em, by show (n : Int) + 1 = _; lia⟩, fun x y hx hy => ?_⟩
 have ux := Bg hx
 have uy := Bg hy
 have q4 : quad n x y < 4 := by unfold quad; lia
 have c := (h _ q4).cell (x % 2 ^ n) (y % 2 ^ n) (Nat.mod_lt _ (AA n)) (Nat.mod_lt _ (AA n))
 have f : f4 (ms 0) (ms 1) (ms 2) (ms 3) (quad n x y) = ms (quad n x y) := by
  match quad n x y, q4 with
  | 0, _ => rfl
  | 1, _ => rfl
  | 2, _ => rfl
  | 3, _ => rfl
 have e1 : quad n x y % 2 = x / 2 ^ n := by unfold quad; lia
 have e2 : quad n x y / 2 = y / 2 ^ n := by unfold quad; lia
 rw [AR nm hx hy, f, c, AR ni hx hy, AR no hx hy, e1, e2]
 have i1 := Jb (s := l) (e := r) hx rfl
 have i2 := Jb (s := t) (e := b) hy rfl
 by_cases z : (l <= (x : Int) /\ (x : Int) < r) /\ (t <= (y : Int) /\ (y : Int) < b)
 ·rw [if_pos z, if_pos ⟨i1.mpr z.1, i2.mpr z.2⟩]
 ·rw [if_neg z, if_neg fun q => z ⟨i1.mp q.1, i2.mp q.2⟩]
def GE (A B : Int) (n : Nat) (s e : Int) : Prop := (s = 0 \/ s = A % 2 ^ n) /\ (e = 2 ^ n \/ e = B % 2 ^ n)
theorem GE.spl {A B : Int} {n u : Nat} {s e : Int} (h : GE A B (n + 1) s e) (ne : (spl s e (2 ^ n) u).1 < (spl s e (2 ^ n) u).2) : GE A B n (spl s e (2 ^ n) u).1 (spl s e (2 ^ n) u).2 := by
 have p : (0 : Int) < 2 ^ n := Ff n
 have e2 : (2 : Int) ^ (n + 1) = 2 ^ n + 2 ^ n := by rw [Int.pow_succ]; lia
 have md : ∀ C : Int, C % 2 ^ n = if C % 2 ^ (n + 1) < 2 ^ n then C % 2 ^ (n + 1) else C % 2 ^ (n + 1) - 2 ^ n := fun C => by
  have h0 := Int.emod_nonneg C (show (2 : Int) ^ (n + 1) ≠ 0 by lia)
  have h1 := Int.emod_lt_of_pos C (show (0 : Int) < 2 ^ (n + 1) by lia)
  have h2 : C % 2 ^ n = (C % 2 ^ (n + 1)) % 2 ^ n := (Int.emod_emod_of_dvd C ⟨2, by rw [e2]; lia⟩).symm
  rw [h2]
  split
  ·rename_i z
   exact Int.emod_eq_of_lt h0 z
  ·rename_i z
   rw [<- Int.sub_emod_right, Int.emod_eq_of_lt (by lia) (by lia)]
 have a1 := md A
 have b1 := md B
 have a2 := Int.emod_nonneg A (show (2 : Int) ^ (n + 1) ≠ 0 by lia)
 have b2 := Int.emod_nonneg B (show (2 : Int) ^ (n + 1) ≠ 0 by lia)
 have a3 := Int.emod_lt_of_pos A (show (0 : Int) < 2 ^ (n + 1) by lia)
 have b3 := Int.emod_lt_of_pos B (show (0 : Int) < 2 ^ (n + 1) by lia)
 obtain ⟨h1, h2⟩ := h
 unfold GE
 rw [a1, b1]
 rw [e2] at h1 h2 a2 b2 a3 b3 ⊢
 clear a1 b1 md e2
 generalize (2 : Int) ^ n = H at *
 generalize A % (H + H) = a at *
 generalize B % (H + H) = c at *
 unfold J.spl at ne ⊢
 split at ne
 ·dsimp only at ne ⊢
  split at ne <;> rcases h1 with h1 | h1 <;> rcases h2 with h2 | h2 <;> subst h1 h2 <;> (constructor <;> split <;> lia)
 ·dsimp only at ne ⊢
  split at ne <;> rcases h1 with h1 | h1 <;> rcases h2 with h2 | h2 <;> subst h1 h2 <;> (constructor <;> split <;> lia)
theorem GE.top {A B : Int} {n : Nat} (h0 : 0 <= A) (h1 : A < B) (h2 : B <= 2 ^ n) : GE A B n A B := by
 refine ⟨.inr (Int.emod_eq_of_lt h0 (by lia)).symm, ?_⟩
 by_cases e : B = 2 ^ n
 ·exact .inl e
 ·exact .inr (Int.emod_eq_of_lt (by lia) (by lia)).symm
end J
namespace J
open PySem L2
def Clo (G : Gv) (S : List Nat) : Prop := ∀ o ∈ S, o < 8 \/ ∃ (n : Nat) (q : Sq) (a b c d : Nat), Ce G n o q a b c d /\ a ∈ S /\ b ∈ S /\ c ∈ S /\ d ∈ S
theorem Clo.app {G G' : Gv} {k : Nat} {S : List Nat} (go : AG G G' k) (h : Clo G S) : Clo G' S := fun o ho => by
 rcases h o ho with z | ⟨n, q, a, b, c, d, nd, m⟩
 ·exact .inl z
 ·exact .inr ⟨n, q, a, b, c, d, nd.app go, m⟩
theorem cast4' {x y z w a b c d : Nat} (e : [(x : Int), (y : Int), (z : Int), (w : Int)] = [(a : Int), (b : Int), (c : Int), (d : Int)]) : x = a /\ y = b /\ z = c /\ w = d := by
 injection e with e1 e
 injection e with e2 e
 injection e with e3 e
 injection e with e4 e
 exact ⟨Int.ofNat.inj e1, Int.ofNat.inj e2, Int.ofNat.inj e3, Int.ofNat.inj e4⟩
theorem Clo.get {G : Gv} (ok : GOk G) {S : List Nat} (h : Clo G S) {n o a b c d : Nat} {q : Sq} (ho : o ∈ S) (nd : Ce G n o q a b c d) : a ∈ S /\ b ∈ S /\ c ∈ S /\ d ∈ S := by
 rcases h o ho with z | ⟨n', q', a', b', c', d', nd', m⟩
 ·have := nd.g
  rw [ok.leaf o z] at this
  cases this
  have := nd.lev
  have : (0 : Int) = (n : Int) + 1 := this
  lia
 ·have e : q = q' := Option.some.inj (nd.g.symm.trans nd'.g)
  subst e
  obtain ⟨rfl, rfl, rfl, rfl⟩ := cast4' (nd.ps.symm.trans nd'.ps)
  exact m
abbrev shM : List Bool := [false, false, true]
def kMx (i o : Nat) (l t r b : Int) : NK := [.inl (i : Int), .inl (o : Int), .inr [l, t, r, b]]
theorem Mr {i o i' o' : Nat} {l t r b l' t' r' b' : Int} (e : kMx i o l t r b = kMx i' o' l' t' r' b') : i = i' /\ o = o' /\ l = l' /\ t = t' /\ r = r' /\ b = b' := by
 unfold kMx at e
 injection e with e1 e
 injection e with e2 e
 injection e with e3 e
 injection e1 with e1
 injection e2 with e2
 injection e3 with e3
 injection e3 with f1 e3
 injection e3 with f2 e3
 injection e3 with f3 e3
 injection e3 with f4 e3
 exact ⟨Int.ofNat.inj e1, Int.ofNat.inj e2, f1, f2, f3, f4⟩
structure Mc where
 s : Nat
 S : List Nat
 A : Int
 R : Int
 T : Int
 B : Int
 ro : Bool
def EF (c : Mc) (i o : Nat) : Nat := if c.ro = true then i else o
def PQ (c : Mc) (i o : Nat) : Nat := if c.ro = true then o else i
structure Pd (G : Gv) (c : Mc) (n i o : Nat) : Prop where
 li : Ao G i (n : Int)
 lo : Ao G o (n : Int)
 so : Sol G c.s n (PQ c i o)
 mo : EF c i o ∈ c.S
theorem Pd.go {G G' : Gv} {k : Nat} {c : Mc} {n i o : Nat} (h : Pd G c n i o) (go : AG G G' k) : Pd G' c n i o := ⟨go.lev h.li, go.lev h.lo, Sol.goes go h.so, h.mo⟩
theorem Pd.lm {G : Gv} {c : Mc} {n i o : Nat} (h : Pd G c n i o) : Ao G (EF c i o) (n : Int) := by
 unfold EF
 split
 ·exact h.li
 ·exact h.lo
theorem f4_in {a b c d k : Nat} {S : List Nat} (hk : k < 4) (h : a ∈ S /\ b ∈ S /\ c ∈ S /\ d ∈ S) : f4 a b c d k ∈ S := by
 match k, hk with
 | 0, _ => exact h.1
 | 1, _ => exact h.2.1
 | 2, _ => exact h.2.2.1
 | 3, _ => exact h.2.2.2
theorem Sol.part {G : Gv} {s n i a b c d : Nat} {q : Sq} (h : Sol G s (n + 1) i) (nd : Ce G n i q a b c d) {k : Nat} (hk : k < 4) : Sol G s n (f4 a b c d k) := by
 obtain ⟨m, h1, e⟩ := h
 have eq : q = _ := Option.some.inj (nd.g.symm.trans e)
 have ps := nd.ps
 rw [eq] at ps
 obtain ⟨rfl, rfl, rfl, rfl⟩ := cast4' ps
 match k, hk with
 | 0, _ => exact h1
 | 1, _ => exact h1
 | 2, _ => exact h1
 | 3, _ => exact h1
theorem Pd.part {G : Gv} (ok : GOk G) {c : Mc} (clo : Clo G c.S) {n i o : Nat} (h : Pd G c (n + 1) i o) {qi qo : Sq} {i0 i1 i2 i3 o0 o1 o2 o3 : Nat} (ni : Ce G n i qi i0 i1 i2 i3) (no : Ce G n o qo o0 o1 o2 o3) {k : Nat} (hk : k < 4) : Pd G c n (f4 i0 i1 i2 i3 k) (f4 o0 o1 o2 o3 k) := by
 refine ⟨(ni.nat hk).2, (no.nat hk).2, ?_, ?_⟩
 ·have := h.so
  unfold PQ at this ⊢
  by_cases z : c.ro = true
  ·rw [if_pos z] at this ⊢
   exact Sol.part this no hk
  ·rw [if_neg z] at this ⊢
   exact Sol.part this ni hk
 ·have := h.mo
  unfold EF at this ⊢
  by_cases z : c.ro = true
  ·rw [if_pos z] at this ⊢
   exact f4_in hk (clo.get ok this ni)
  ·rw [if_neg z] at this ⊢
   exact f4_in hk (clo.get ok this no)
structure Ent (G : Gv) (c : Mc) (p : NK × V) (n i o : Nat) (l t r b : Int) (m : Nat) : Prop where
 e : p = (kMx i o l t r b, .int m)
 pd : Pd G c n i o
 mx : Fo G n i o l t r b m
 sx : GE c.A c.R n l r
 sy : GE c.T c.B n t b
structure KOk (G : Gv) (c : Mc) (kvs : List (NK × V)) : Prop where
 nd : (kvs.map (·.1)).Nodup
 val : ∀ p ∈ kvs, ∃ n i o l t r b m, Ent G c p n i o l t r b m
theorem kok0 (G : Gv) (c : Mc) : KOk G c [] := ⟨List.nodup_nil, fun p hp => by simp at hp⟩
theorem Ent.go {G G' : Gv} {k : Nat} {c : Mc} {p : NK × V} {n i o : Nat} {l t r b : Int} {m : Nat} (ok : GOk G) (s8 : c.s < 8) (go : AG G G' k) (h : Ent G c p n i o l t r b m) : Ent G' c p n i o l t r b m := ⟨h.e, h.pd.go go, h.mx.app ok go h.pd.li h.pd.lo, h.sx, h.sy⟩
theorem KOk.go {G G' : Gv} {k : Nat} {c : Mc} {kvs : List (NK × V)} (ok : GOk G) (s8 : c.s < 8) (go : AG G G' k) (h : KOk G c kvs) : KOk G' c kvs := ⟨h.nd, fun p hp => by
 obtain ⟨n, i, o, l, t, r, b, m, e⟩ := h.val p hp
 exact ⟨n, i, o, l, t, r, b, m, e.go ok s8 go⟩⟩
theorem Qy {kvs : List (NK × V)} {k : NK} {v : V} (h : Bv kvs k = some v) : (k, v) ∈ kvs := by
 induction kvs with
 | nil => cases h
 | cons p r ih =>
  by_cases e : p.1 = k
  ·rw [Bz e] at h
   cases h
   rw [<- e]
   exact List.mem_cons_self
  ·rw [Bc e] at h
   exact List.mem_cons_of_mem _ (ih h)
theorem KOk.put {G : Gv} {c : Mc} {kvs : List (NK × V)} {n i o : Nat} {l t r b : Int} {m : Nat} (h : KOk G c kvs) (en : Ent G c (kMx i o l t r b, .int m) n i o l t r b m) (no : Bv kvs (kMx i o l t r b) = none) : KOk G c (Di kvs (kMx i o l t r b) (.int m)) /\ (Di kvs (kMx i o l t r b) (.int m)).length = kvs.length + 1 := by
 have nd := OV (.int m) h.nd no
 rw [Gb _ no] at nd ⊢
 refine ⟨⟨nd, fun p hp => ?_⟩, by rw [List.length_append]; rfl⟩
 rcases List.mem_append.mp hp with z | z
 ·exact h.val p z
 ·rw [List.mem_singleton] at z
  subst z
  exact ⟨n, i, o, l, t, r, b, m, en⟩
def lvN (G : Gv) (o : Nat) : Nat := match G[o]? with
 | some q => q.lev.toNat
 | none => 0
theorem lvN_eq {G : Gv} {o n : Nat} (h : Ao G o (n : Int)) : lvN G o = n := by
 obtain ⟨q, e, el⟩ := h
 unfold lvN
 rw [e]
 show q.lev.toNat = n
 rw [el, Int.toNat_natCast]
def b01 (c : Prop) [Decidable c] : Nat := if c then 0 else 1
theorem EA (c : Prop) [Decidable c] : b01 c < 2 := by unfold b01; split <;> decide
theorem Jq {c d : Prop} [Decidable c] [Decidable d] (h : b01 c = b01 d) : c ↔ d := by
 unfold b01 at h
 split at h <;> split at h <;> simp_all
def code (G : Gv) (c : Mc) (k : NK) : Nat := match k with
 | [.inl i, .inl o, .inr [l, t, r, b]] => c.S.idxOf (EF c i.toNat o.toNat) * 16 + (b01 (l = 0) + 2 * b01 (r = 2 ^ lvN G (EF c i.toNat o.toNat)) + 4 * b01 (t = 0) + 8 * b01 (b = 2 ^ lvN G (EF c i.toNat o.toNat)))
 | _ => 0
theorem JU (G : Gv) (c : Mc) (i o : Nat) (l t r b : Int) : code G c (kMx i o l t r b) = c.S.idxOf (EF c i o) * 16 + (b01 (l = 0) + 2 * b01 (r = 2 ^ lvN G (EF c i o)) + 4 * b01 (t = 0) + 8 * b01 (b = 2 ^ lvN G (EF c i o))) := rfl
theorem KOk.len {G : Gv} (ok : GOk G) {c : Mc} {kvs : List (NK × V)} (h : KOk G c kvs) : kvs.length <= 16 * c.S.length := by
 have := FF (16 * c.S.length) ((kvs.map (·.1)).map (code G c)) (by
  rw [List.nodup_iff_pairwise_ne, List.pairwise_map]
  refine List.Pairwise.imp_of_mem (fun {x y} hx hy hne z => hne ?_) (List.nodup_iff_pairwise_ne.mp h.nd)
  obtain ⟨p, hp, rfl⟩ := List.mem_map.mp hx
  obtain ⟨p', hp', rfl⟩ := List.mem_map.mp hy
  obtain ⟨n, i, o, l, t, r, b, m, e⟩ := h.val p hp
  obtain ⟨n', i', o', l', t', r', b', m', e'⟩ := h.val p' hp'
  have e1 := e.e
  have e2 := e'.e
  subst e1 e2
  dsimp only at z ⊢
  rw [JU, JU] at z
  have q1 := EA (l = 0)
  have q2 := EA (r = 2 ^ lvN G (EF c i o))
  have q3 := EA (t = 0)
  have q4 := EA (b = 2 ^ lvN G (EF c i o))
  have q1' := EA (l' = 0)
  have q2' := EA (r' = 2 ^ lvN G (EF c i' o'))
  have q3' := EA (t' = 0)
  have q4' := EA (b' = 2 ^ lvN G (EF c i' o'))
  have io : c.S.idxOf (EF c i o) = c.S.idxOf (EF c i' o') := by lia
  have eo : EF c i o = EF c i' o' := by
   have a1 := List.getElem_idxOf (List.idxOf_lt_length_of_mem e.pd.mo)
   have a2 := List.getElem_idxOf (List.idxOf_lt_length_of_mem e'.pd.mo)
   have : c.S[c.S.idxOf (EF c i o)]? = c.S[c.S.idxOf (EF c i' o')]? := by rw [io]
   rw [List.getElem?_eq_getElem (List.idxOf_lt_length_of_mem e.pd.mo), List.getElem?_eq_getElem (List.idxOf_lt_length_of_mem e'.pd.mo), a1, a2] at this
   exact Option.some.inj this
  have en : n = n' := by
   have h1 := e.pd.lm
   rw [eo] at h1
   exact Int.ofNat.inj (h1.uniq e'.pd.lm)
  subst en
  have ei : PQ c i o = PQ c i' o' := Sol.uniq ok e.pd.so e'.pd.so
  obtain ⟨rfl, rfl⟩ : i = i' /\ o = o' := by
   unfold EF at eo
   unfold PQ at ei
   by_cases z : c.ro = true
   ·rw [if_pos z, if_pos z] at eo ei
    exact ⟨eo, ei⟩
   ·rw [if_neg z, if_neg z] at eo ei
    exact ⟨ei, eo⟩
  clear eo ei io
  rw [lvN_eq e.pd.lm] at *
  have z1 := Jq (show b01 (l = 0) = b01 (l' = 0) by lia)
  have z2 := Jq (show b01 (r = 2 ^ n) = b01 (r' = 2 ^ n) by lia)
  have z3 := Jq (show b01 (t = 0) = b01 (t' = 0) by lia)
  have z4 := Jq (show b01 (b = 2 ^ n) = b01 (b' = 2 ^ n) by lia)
  have same : ∀ {x x' u v : Int}, (x = u \/ x = v) -> (x' = u \/ x' = v) -> (x = u ↔ x' = u) -> x = x' := fun {x x' u v} a1 a2 a3 => by
   rcases a1 with a1 | a1
   ·rw [a1, a3.mp a1]
   ·rcases a2 with a2 | a2
    ·rw [a2, a3.mpr a2]
    ·rw [a1, a2]
  rw [same e.sx.1 e'.sx.1 z1, same e.sx.2 e'.sx.2 z2, same e.sy.1 e'.sy.1 z3, same e.sy.2 e'.sy.2 z4]) (fun x hx => by
  obtain ⟨y, hy, rfl⟩ := List.mem_map.mp hx
  obtain ⟨p, hp, rfl⟩ := List.mem_map.mp hy
  obtain ⟨n, i, o, l, t, r, b, m, e⟩ := h.val p hp
  have e1 := e.e
  subst e1
  dsimp only
  rw [JU]
  have := List.idxOf_lt_length_of_mem e.pd.mo
  have q1 := EA (l = 0)
  have q2 := EA (r = 2 ^ lvN G (EF c i o))
  have q3 := EA (t = 0)
  have q4 := EA (b = 2 ^ lvN G (EF c i o))
  lia)
 rw [List.length_map, List.length_map] at this
 exact this
def Un (G : Gv) (N : Nat) (kvs kvs' : List (NK × V)) : Prop := ∀ (i o : Nat) (l t r b : Int) (N' : Nat), Ao G o (N' : Int) -> N < N' -> Bv kvs (kMx i o l t r b) = none -> Bv kvs' (kMx i o l t r b) = none
theorem Un.refl (G : Gv) (N : Nat) (kvs : List (NK × V)) : Un G N kvs kvs := fun _ _ _ _ _ _ _ _ _ h => h
theorem Un.trans {G G' : Gv} {k N : Nat} {a b c : List (NK × V)} (go : AG G G' k) (h : Un G N a b) (h2 : Un G' N b c) : Un G N a c := fun i o l t r b' N' h1 hl z => h2 i o l t r b' N' (go.lev h1) hl (h i o l t r b' N' h1 hl z)
end J
namespace J
open PySem L2
seal L2.PA L2.PE L2.PS L2.PSs L2.PT L2.PW
theorem Fx.fresh {l : List Addr} {H H1 H2 : Hp} {x : Addr} (s : AB H H1) (f : Fx (x :: l) H1 H2) (n : H x = none) : Fx l H H2 := fun b o e z => f b o (s _ _ e) fun m => by
 rcases List.mem_cons.mp m with rfl | m
 ·rw [n] at e
  cases e
 ·exact z m
theorem Bu.fx {P : Program} {w : World} {sh : List Bool} {H H' : Hp} {a : Addr} {kvs : List (NK × V)} {l : List Addr} (f : Fx l H H') (n : a ∉ l) (h : Bu P w sh H a kvs) : Bu P w sh H' a kvs := h.keep (fun b ys e => f.tup e) (fun o e => f.get n e)
theorem Bu.same {P : Program} {w : World} {sh : List Bool} {H H' : Hp} {a : Addr} {kvs : List (NK × V)} (s : AB H H') (h : Bu P w sh H a kvs) : Bu P w sh H' a kvs := h.keep (fun b ys e => s _ _ e) (fun o e => s _ _ e)
def frM (g : GA) (kn : Addr) : List Addr := [g.lv, g.pt, g.nm, kn]
section
variable {P : Program} {w : World} {K : PySem.W.Frag} {mg : Str -> Option Value} {base : Heap} {a : Ad}
inductive Pp (vs : List V) (H : Hp) (Q : VK) : Prop
 | mk (s e h : Int) (_ : vs = [.int s, .int e, .int h]) (_ : ∀ (c0 c1 cc : Addr) (H' : Hp), AB H H' -> H' cc = some (.tup [.ref c0, .ref c1]) -> H' c0 = some (.tup [.int (spl s e h 0).1, .int (spl s e h 0).2]) -> H' c1 = some (.tup [.int (spl s e h 1).1, .int (spl s e h 1).2]) -> Q (.ref cc) H') : Pp vs H Q
def Jc : Sp := fun vs H Q _ => Pp vs H Q
theorem Rg {f : Addr} {fd : FuncData} (F : Fun K "split_stretch" "split_stretch" BW f fd) (T : Top K mg a) : AY P w K mg base CX0 1 f fd BX Jc := by
 refine F.ok Il (fun vs H Q E h => ?_) (fun cdv A outer s H vs Q E hr h => ?_)
 ·obtain ⟨s', e, h', rfl, _⟩ := h
  rfl
 ·obtain ⟨st, en, hf, rfl, k⟩ := h
  refine ⟨_, (Aj (Aw (Cc (BV (Aa (pv 0) (Aa (AN (FG rfl) rfl T.b_min PyProof.Rows.boot_min (Aa (pv 1) (Aa (pv 2) Ae))) Ae)) (BV (Aa (AN (Gy rfl) rfl T.b_max PyProof.Rows.boot_max (Bk AV (pv 0) (pv 2) (AH Ae))) (Bk AV (pv 1) (pv 2) Ae)) Ae))))), ?_⟩
  try dsimp only [cxK]
  refine ⟨_, rfl, _, rfl, _, rfl, _, _, rfl, (by show 2 <= sizeLine; decide), fun c0 h0 => ?_⟩
  have s1 := An (o := .tup [.int st, .int (if hf < en then hf else en)]) h0
  have e1 : upd H c0 (.tup [.int st, .int (if hf < en then hf else en)]) c0 = some (.tup [.int (spl st en hf 0).1, .int (spl st en hf 0).2]) := Ai
  show ∃ _, _
  generalize upd H c0 (.tup [.int st, .int (if hf < en then hf else en)]) = H1 at s1 e1 ⊢
  refine ⟨_, rfl, _, rfl, _, _, rfl, rfl, _, _, rfl, _, rfl, _, rfl, _, _, rfl, rfl, (by show 2 <= sizeLine; decide), fun c1 h1 => ⟨(by show 2 <= sizeLine; decide), fun cc hcc => ?_⟩⟩
  have s2 := An (o := .tup [.int (if 0 > st - hf then 0 else st - hf), .int (en - hf)]) h1
  have s3 := An (o := .tup [.ref c0, .ref c1]) hcc
  exact k c0 c1 cc _ (s1.trans (s2.trans s3)) Ai (s3 _ _ (s2 _ _ e1)) (s3 _ _ Ai)
inductive SpMQ (a : Ad) (P : Program) (w : World) (n : Nat) (vs : List V) (H : Hp) (Q : VK) : Prop
 | mk (g : GA) (G : Gv) (c : Mc) (kn tk tp : Addr) (kvs : List (NK × V)) (i o N : Nat) (l t r b : Int) (_ : vs = [.ref g.p, .ref tk, .int (2 ^ N), .ref kn]) (_ : AO a H g G) (_ : Bu P w shM H kn kvs) (_ : kn ∉ Cu g) (_ : H tk = some (.tup [.int i, .int o, .ref tp])) (_ : H tp = some (.tup [.int l, .int t, .int r, .int b])) (_ : KOk G c kvs) (_ : Clo G c.S) (_ : c.s < 8) (_ : Pd G c (N + 1) i o) (_ : N < n) (_ : N <= 47) (_ : (0 <= l /\ 0 <= t /\ r <= 2 ^ (N + 1) /\ b <= 2 ^ (N + 1))) (_ : GE c.A c.R (N + 1) l r) (_ : GE c.T c.B (N + 1) t b) (_ : (G.length + 16 * c.S.length < 8000000 + kvs.length /\ 16 * c.S.length < 4000000)) (_ : ∀ (m : Nat) (G' : Gv) (kvs' : List (NK × V)) (H' : Hp), Fx (frM g kn) H H' -> AO a H' g G' -> Bu P w shM H' kn kvs' -> KOk G' c kvs' -> kvs.length <= kvs'.length -> AG G G' (kvs'.length - kvs.length + 1) -> Un G N kvs kvs' -> Fo G' (N + 1) i o l t r b m -> Q (.int m) H') : SpMQ a P w n vs H Q
def spMQ (a : Ad) (P : Program) (w : World) (n : Nat) : Sp := fun vs H Q _ => SpMQ a P w n vs H Q
inductive SpMxd (a : Ad) (P : Program) (w : World) (n : Nat) (vs : List V) (H : Hp) (Q : VK) : Prop
 | mk (g : GA) (G : Gv) (c : Mc) (kn tp : Addr) (kvs : List (NK × V)) (i o N : Nat) (l t r b : Int) (_ : vs = [.ref g.p, .int i, .int o, .ref tp, .ref kn]) (_ : AO a H g G) (_ : Bu P w shM H kn kvs) (_ : kn ∉ Cu g) (_ : H tp = some (.tup [.int l, .int t, .int r, .int b])) (_ : KOk G c kvs) (_ : Clo G c.S) (_ : c.s < 8) (_ : Pd G c N i o) (_ : N < n) (_ : N <= 48) (_ : (0 <= l /\ 0 <= t /\ r <= 2 ^ N /\ b <= 2 ^ N)) (_ : (l < r -> GE c.A c.R N l r)) (_ : (t < b -> GE c.T c.B N t b)) (_ : (G.length + 16 * c.S.length < 8000000 + kvs.length /\ 16 * c.S.length < 4000000)) (_ : ∀ (m : Nat) (G' : Gv) (kvs' : List (NK × V)) (H' : Hp), Fx (frM g kn) H H' -> AO a H' g G' -> Bu P w shM H' kn kvs' -> KOk G' c kvs' -> kvs.length <= kvs'.length -> AG G G' (kvs'.length - kvs.length) -> Un G N kvs kvs' -> Fo G' N i o l t r b m -> Q (.int m) H') : SpMxd a P w n vs H Q
def MN (a : Ad) (P : Program) (w : World) (n : Nat) : Sp := fun vs H Q _ => SpMxd a P w n vs H Q
theorem ok_mixS {n d : Nat} {f : Addr} {fd : FuncData} (F : Fun K "mixed" "mixed" FO f fd) (T : Top K mg a) (C_mixed_quarters : Cal P w K mg base CX0 d "mixed_quarters" Cj (spMQ a P w n)) : AY P w K mg base CX0 (d + 1) f fd Fi (MN a P w (n + 1)) := by
 refine F.ok Fs (fun vs H Q E h => ?_) (fun cdv A outer s H vs Q E hr h => ?_)
 ·obtain ⟨g, G, c, kn, tp, kvs, i, o, N, l, t, r, b, rfl, _⟩ := h
  rfl
 ·obtain ⟨g, G, c, kn, tp, kvs, i, o, N, l, t, r, b, rfl, fu, na, nk, htp, kok, clo, s8, pd, Nn, N48, bd, sx, sy, few, k⟩ := h
  refine ⟨_, (Ab (Bh (PW.pt (IG (AL op_ge (Ak Am (pv 3) Ac (fun _ _ => rfl)) (Ak Am (pv 3) Ac (fun _ _ => rfl)) (AM _)) (Ga (AL op_ge (Ak Am (pv 3) Ac (fun _ _ => rfl)) (Ak Am (pv 3) Ac (fun _ _ => rfl)) (AM _))))) (Aj (Aw (pv 2))) AD) (Ab (Al (i := 5) Fs.nd rfl (Or.inl rfl) (Aq GL Ac (Ak AC (AQ (pv 0) rfl) (pv 1) (fun _ _ => rfl)))) (Ab (Bh (PW.pt (IG (AL FD (pv 1) (pv 2) (AM _)) (Ga (AL (Iq hr.units) (pv 3) (Cc (AH (AH (Aa (pv 5) (Aa (pv 5) Ae))))) (AM _))))) (Aj (Aw (pv 1))) AD) (Ab (Al (i := 6) Fs.nd rfl (Or.inl rfl) (Cc (Aa (pv 1) (Aa (pv 2) (Aa (pv 3) Ae))))) (Ab (Al (i := 7) Fs.nd rfl (Or.inl rfl) (Rc (sh := [false, false, true]) hr.units (pv 4) (pv 6) ⟨rfl, rfl, rfl, rfl⟩)) (Ab (Bh (AL GM (pv 7) Fl (AM _)) (Ab (Al (i := 7) Fs.nd rfl (Or.inl rfl) (As C_mixed_quarters (rm hr) rfl Ar (Aa (pv 0) (Aa (pv 6) (Bk Bw (pv 5) Ac (Aa (pv 4) Ae)))))) (Aj (QW (sh := [false, false, true]) hr.units (pv 4) (pv 6) (pv 7) rfl))) AD) (Aj (Aw (pv 7))))))))), ?_⟩
  try dsimp only [cxK]
  have li := pd.li
  have lo := pd.lo
  have back : ∀ {m : Nat} {H' : Hp}, AB H H' -> Fo G N i o l t r b m -> Q (.int m) H' := fun {m H'} s' mx => k m G kvs H' (AB.fx s') (fu.same s') (Bu.same s' na) kok (Nat.le_refl _) ((AG.refl fu.ok).mono (by lia)) (Un.refl _ _ _) mx
  refine ev_test (c := tOr (MJ (tOp (rI0 fun i j => V.bl (decide (j <= i))) (tOp (LS K) (JY 3) (tC (V.int 0))) (tOp (LS K) (JY 3) (tC (V.int 2))))) (MJ (tOp (rI0 fun i j => V.bl (decide (j <= i))) (tOp (LS K) (JY 3) (tC (V.int 1))) (tOp (LS K) (JY 3) (tC (V.int 3)))))) (decide (r <= l) || decide (b <= t)) (fun Q' q' => ?_) ?_
  ·refine ⟨_, rfl, tp, _, 0, .int l, rfl, rfl, SqT.of htp, Af (j := 0) rfl, _, rfl, tp, _, 2, .int r, rfl, rfl, SqT.of htp, Af (j := 2) rfl, _, _, rfl, rfl, _, rfl, ?_⟩
   revert q'
   generalize decide (r <= l) = b1
   cases b1
   ·intro q'
    exact BC ⟨_, rfl, tp, _, 1, .int t, rfl, rfl, SqT.of htp, Af (j := 1) rfl, _, rfl, tp, _, 3, .int b, rfl, rfl, SqT.of htp, Af (j := 3) rfl, _, _, rfl, rfl, _, rfl, q'⟩
   ·intro q'
    exact Da q'
  refine Ms (fun hc => ?_) (fun hc => ?_)
  ·refine ⟨_, rfl, back (AB.refl H) ⟨lo, fun x y _ _ => ?_⟩⟩
   rw [if_neg]
   rcases (Bool.or_eq_true _ _).mp hc with z | z
   ·have := of_decide_eq_true z
    lia
   ·have := of_decide_eq_true z
    lia
  have hl : l < r := by
   refine Int.lt_of_not_ge fun z => hc ?_
   rw [decide_eq_true (show r <= l from z)]
   rfl
  have ht : t < b := by
   refine Int.lt_of_not_ge fun z => hc ?_
   rw [decide_eq_true (show b <= t from z), Bool.or_true]
  clear hc
  obtain ⟨qi, ei, eli⟩ := id li
  refine ⟨_, rfl, g.p, _, g.dx, _, _, rfl, fu.at'.hp, T.cl_Grove, T.na_Grove_levels, Ei g, _, rfl, g.lv, _, (i : Int), .int qi.lev, rfl, rfl, SqL.of fu.at'.lv, Af (by rw [List.getElem?_map, ei]; rfl), ?_⟩
  rw [eli]
  refine ⟨_, _, rfl, rfl, ⟨by lia, by lia, by decide⟩, ?_⟩
  have e1 : (1 : Int) * 2 ^ ((N : Int)).toNat = 2 ^ N := by rw [Int.one_mul, Int.toNat_natCast]
  show (NR _ _) _ [some (.ref g.p), some (.int i), some (.int o), some (.ref tp), some (.ref kn), some (.int (1 * 2 ^ ((N : Int)).toNat)), none, none] H
  rw [e1]
  refine ⟨_, rfl, _, rfl, rfl, _, rfl, Ms (fun hio => ?_) (fun _ => ?_)⟩
  ·have hio := of_decide_eq_true hio
   injection hio with hio
   obtain rfl : i = o := Int.ofNat.inj hio
   exact Da ⟨_, rfl, back (AB.refl H) ⟨li, fun x y _ _ => by split <;> rfl⟩⟩
  refine ⟨_, rfl, _, rfl, _, rfl, (by show 4 <= sizeLine; decide), fun t1 ht1 => ?_⟩
  have s1 := An (o := .tup [.int 0, .int 0, .int (2 ^ N), .int (2 ^ N)]) ht1
  have h1 : upd H t1 (.tup [.int 0, .int 0, .int (2 ^ N), .int (2 ^ N)]) t1 = some (.tup [.int 0, .int 0, .int (2 ^ N), .int (2 ^ N)]) := Ai
  show ∃ _, _
  generalize upd H t1 (.tup [.int 0, .int 0, .int (2 ^ N), .int (2 ^ N)]) = H1 at s1 h1 ⊢
  refine ⟨tp, t1, [l, t, r, b], [0, 0, 2 ^ N, 2 ^ N], rfl, rfl, SqT.of (s1 _ _ htp), SqT.of h1, _, rfl, Ms (fun he => ?_) (fun he => ?_)⟩
  ·have he := of_decide_eq_true he
   injection he with z1 he
   injection he with z2 he
   injection he with z3 he
   injection he with z4 he
   refine ⟨_, rfl, back s1 ⟨li, fun x y hx hy => ?_⟩⟩
   have px : (x : Int) < 2 ^ N := by have : (x : Int) < ((2 ^ N : Nat) : Int) := (by lia); rw [Int.natCast_pow] at this; exact this
   have py : (y : Int) < 2 ^ N := by have : (y : Int) < ((2 ^ N : Nat) : Int) := (by lia); rw [Int.natCast_pow] at this; exact this
   rw [if_pos (by subst z1 z2 z3 z4; exact ⟨⟨by lia, px⟩, by lia, py⟩)]
  have N1 : 1 <= N := by
   refine Nat.one_le_iff_ne_zero.mpr fun z => he ?_
   subst z
   have b1 : r <= 1 := bd.2.2.1
   have b2 : b <= 1 := bd.2.2.2
   obtain ⟨rfl, rfl, rfl, rfl⟩ : l = 0 /\ t = 0 /\ r = 1 /\ b = 1 := by lia
   exact decide_eq_true rfl
  obtain ⟨M, rfl⟩ : ∃ M, N = M + 1 := ⟨N - 1, by lia⟩
  refine ⟨_, rfl, _, rfl, _, rfl, (by show 3 <= sizeLine; decide), fun tk htk => ?_⟩
  have s2 := An (o := .tup [.int i, .int o, .ref tp]) htk
  have h2 : upd H1 tk (.tup [.int i, .int o, .ref tp]) tk = some (.tup [.int i, .int o, .ref tp]) := Ai
  show (NR _ _) _ _ (upd H1 tk (.tup [.int i, .int o, .ref tp]))
  generalize upd H1 tk (.tup [.int i, .int o, .ref tp]) = H2 at s2 h2 ⊢
  have s12 := s1.trans s2
  have na2 := Bu.same s12 na
  have fu2 := fu.same s12
  have htp2 := s12 _ _ htp
  have kat : ∀ {H' : Hp}, H' tk = some (.tup [.int i, .int o, .ref tp]) -> H' tp = some (.tup [.int l, .int t, .int r, .int b]) -> Fn H' tk (kMx i o l t r b) := fun z1 z2 => ⟨_, z1, .cons rfl (.cons rfl (.cons ⟨tp, rfl, z2⟩ .nil))⟩
  refine ⟨_, rfl, kn, rfl, ⟨kvs, na2⟩, _, rfl, tk, kMx i o l t r b, kvs, rfl, na2, kat h2 htp2, rfl, ?_⟩
  cases ev : Bv kvs (kMx i o l t r b) with
  | some v =>
   obtain ⟨n', i', o', l', t', r', b', m, en⟩ := kok.val _ (Qy ev)
   have e2 := en.e
   injection e2 with e2 e3
   obtain ⟨rfl, rfl, rfl, rfl, rfl, rfl⟩ := Mr e2
   subst e3
   have : n' = M + 1 := Int.ofNat.inj (en.pd.lo.uniq lo)
   subst this
   exact ⟨_, rfl, rfl, _, rfl, BC ⟨_, rfl, back s12 en.mx⟩⟩
  | none =>
   refine ⟨_, rfl, rfl, _, rfl, Da ?_⟩
   refine ⟨_, rfl, _, rfl, _, rfl, _, _, rfl, rfl, ⟨by decide, by decide⟩, _, rfl, ?_⟩
   have e4 : (2 : Int) ^ (M + 1) / 2 = 2 ^ M := by rw [Int.pow_succ, Int.mul_ediv_cancel _ (by decide)]
   refine ⟨g, G, c, kn, tk, tp, kvs, i, o, M, l, t, r, b, by rw [<- e4]; rfl, fu2, na2, nk, h2, htp2, kok, clo, s8, pd, by lia, by lia, bd, sx hl, sy ht, few, fun m G' kvs' H3 x3 fu3 na3 kok3 le3 go3 un3 mx3 => ?_⟩
   have no3 : Bv kvs' (kMx i o l t r b) = none := un3 i o l t r b (M + 1) lo (by lia) ev
   have l3 := kok3.len fu3.ok
   have g3 := go3.few
   refine ⟨_, rfl, _, rfl, _, rfl, kn, tk, kMx i o l t r b, kvs', rfl, rfl, na3, kat (x3.tup h2) (x3.tup htp2), rfl, EC (by lia), fun H4 x4 na4 => ?_⟩
   obtain ⟨kok4, len4⟩ := kok3.put ⟨rfl, pd.go go3, mx3, sx hl, sy ht⟩ no3
   have x4' : Fx (frM g kn) H3 H4 := fun cc oo e z => x4 cc oo e fun y => by
    subst y
    obtain ⟨xs, e9, _⟩ := na3.ex
    rw [e9] at e
    cases e
    exact z (by simp [frM])
   have fu4 := fu3.fx (l := [kn]) (fun cc oo e z => x4 cc oo e fun y => by
    subst y
    obtain ⟨xs, e9, _⟩ := na3.ex
    rw [e9] at e
    cases e
    exact z (by simp)) fun y hy z => nk (by rw [List.mem_singleton] at z; rw [<- z]; exact hy)
   refine ⟨_, rfl, k m G' _ H4 (((AB.fx s12).trans x3).trans x4') fu4 na4 kok4 (by lia) (go3.mono (by lia)) ?_ mx3⟩
   intro i' o' l' t' r' b' N' hN hlt z
   rw [Jr, if_neg]
   ·exact un3 i' o' l' t' r' b' N' hN (by lia) z
   ·intro q
    obtain ⟨_, rfl, _⟩ := Mr q
    have := Int.ofNat.inj (hN.uniq lo)
    lia
end
end J
namespace J
open PySem L2
seal L2.PA L2.PE L2.PS L2.PSs L2.PT L2.PW
theorem Ce.at4 {G : Gv} {n i : Nat} {q : Sq} {a b c d : Nat} (h : Ce G n i q a b c d) {k : Nat} (hk : k < 4) : (q.parts.map V.int)[k]? = some (.int (f4 a b c d k : Nat)) := by
 rw [h.ps]
 match k, hk with
 | 0, _ => rfl
 | 1, _ => rfl
 | 2, _ => rfl
 | 3, _ => rfl
section
variable {P : Program} {w : World} {K : PySem.W.Frag} {mg : Str -> Option Value} {base : Heap} {a : Ad}
theorem ok_mq {n d : Nat} (hd : 2 <= d) {f : Addr} {fd : FuncData} (F : Fun K "mixed_quarters" "mixed_quarters" Bq f fd) (T : Top K mg a) (C_split_stretch : Cal P w K mg base CX0 1 "split_stretch" BX Jc) (M_Grove_linked : CM P w K mg base CX0 2 a.c_Grove "linked" AT (Fj a)) (C_mixed : Cal P w K mg base CX0 d "mixed" Fi (MN a P w n)) : AY P w K mg base CX0 (d + 1) f fd Cj (spMQ a P w n) := by
 refine F.ok AJ (fun vs H Q E h => ?_) (fun cdv A outer s H vs Q E hr h => ?_)
 ·obtain ⟨g, G, c, kn, tk, tp, kvs, i, o, N, l, t, r, b, rfl, _⟩ := h
  rfl
 ·obtain ⟨g, G, c, kn, tk, tp, kvs, i, o, N, l, t, r, b, rfl, fu, na, nk, htk, htp, kok, clo, s8, pd, Nn, N47, bd, sx, sy, ⟨few, few2⟩, k⟩ := h
  refine ⟨_, (Ab (Al (i := 4) AJ.nd rfl (Or.inl rfl) (Ak AC (AQ (pv 0) rfl) (Ak Am (pv 1) Ac (fun _ _ => rfl)) (fun _ _ => rfl))) (Ab (Al (i := 5) AJ.nd rfl (Or.inl rfl) (Ak AC (AQ (pv 0) rfl) (Ak Am (pv 1) Ac (fun _ _ => rfl)) (fun _ _ => rfl))) (Ab (Al (i := 6) AJ.nd rfl (Or.inl rfl) (Ak Am (pv 1) Ac (fun _ _ => rfl))) (Ab (Al (i := 7) AJ.nd rfl (Or.inl rfl) (As C_split_stretch (rm hr) rfl Ar (Aa (Ak Am (pv 6) Ac (fun _ _ => rfl)) (Aa (Ak Am (pv 6) Ac (fun _ _ => rfl)) (Aa (pv 2) Ae))))) (Ab (Al (i := 8) AJ.nd rfl (Or.inl rfl) (As C_split_stretch (rm hr) rfl Ar (Aa (Ak Am (pv 6) Ac (fun _ _ => rfl)) (Aa (Ak Am (pv 6) Ac (fun _ _ => rfl)) (Aa (pv 2) Ae))))) (Ab (Al (i := 9) AJ.nd rfl (Or.inl rfl) (EV Ae)) (Ab (Dj PassesOwn.never rfl (Ed rfl T.b_range (AH Ae)) (BG (i := 10) AJ.nd rfl (Or.inl rfl)) (Ab (Al (i := 11) AJ.nd rfl (Or.inl rfl) (Ak Am (pv 7) (Aq Bl (pv 10) Ac) (fun _ _ => rfl))) (Ab (Al (i := 12) AJ.nd rfl (Or.inl rfl) (Ak Am (pv 8) (Aq Bw (pv 10) Ac) (fun _ _ => rfl))) (Ab (Al (i := 13) AJ.nd rfl (Or.inl rfl) (Cc (Aa (Ak Am (pv 11) Ac (fun _ _ => rfl)) (Aa (Ak Am (pv 12) Ac (fun _ _ => rfl)) (Aa (Ak Am (pv 11) Ac (fun _ _ => rfl)) (Aa (Ak Am (pv 12) Ac (fun _ _ => rfl)) Ae)))))) (Aj (DI (JE PySem.F.plainAttrs_list PySem.F.slot_list_append PySem.F.type_list_append Eh (pv 9) (Aa (As C_mixed (rm hr) rfl Ar (Aa (pv 0) (Aa (Ak Am (pv 4) (pv 10) (fun _ _ => rfl)) (Aa (Ak Am (pv 5) (pv 10) (fun _ _ => rfl)) (Aa (pv 13) (Aa (pv 3) Ae)))))) Ae)))))))) (Aj (Aw (AU (pv 0) M_Grove_linked (rm hr) Ar (Aa (Fy Em rfl T.b_tuple PyProof.Rows.boot_tuple (Aa (pv 9) Ae)) Ae))))))))))), ?_⟩
  try dsimp only [cxK]
  have li := pd.li
  have lo := pd.lo
  obtain ⟨qi, i0, i1, i2, i3, ni⟩ := AX fu.ok li
  obtain ⟨qo, o0, o1, o2, o3, no⟩ := AX fu.ok lo
  obtain ⟨ts, h3, h4⟩ := fu.at'.pt
  obtain ⟨ti, eti, hti⟩ := PairedM.get h4 ni.g
  have hti : H ti = some (.tup (qi.parts.map V.int)) := hti
  obtain ⟨to', eto, hto⟩ := PairedM.get h4 no.g
  have hto : H to' = some (.tup (qo.parts.map V.int)) := hto
  refine ⟨_, rfl, g.p, _, g.dx, _, _, rfl, fu.at'.hp, T.cl_Grove, T.na_Grove_parts, DQ g, _, rfl, tk, _, 0, .int i, rfl, rfl, SqT.of htk, Af (j := 0) rfl, g.pt, _, (i : Int), .ref ti, rfl, rfl, SqL.of h3, Af (by rw [List.getElem?_map, eti]; rfl), ?_⟩
  refine ⟨_, rfl, g.p, _, g.dx, _, _, rfl, fu.at'.hp, T.cl_Grove, T.na_Grove_parts, DQ g, _, rfl, tk, _, 1, .int o, rfl, rfl, SqT.of htk, Af (j := 1) rfl, g.pt, _, (o : Int), .ref to', rfl, rfl, SqL.of h3, Af (by rw [List.getElem?_map, eto]; rfl), ?_⟩
  refine ⟨_, rfl, tk, _, 2, .ref tp, rfl, rfl, SqT.of htk, Af (j := 2) rfl, ?_⟩
  refine ⟨_, rfl, tp, _, 0, .int l, rfl, rfl, SqT.of htp, Af (j := 0) rfl, _, rfl, tp, _, 2, .int r, rfl, rfl, SqT.of htp, Af (j := 2) rfl, _, rfl, l, r, 2 ^ N, rfl, fun c0 c1 cc H1 s1 hcc hc0 hc1 => ?_⟩
  have htp1 := s1 _ _ htp
  refine ⟨_, rfl, tp, _, 1, .int t, rfl, rfl, SqT.of htp1, Af (j := 1) rfl, _, rfl, tp, _, 3, .int b, rfl, rfl, SqT.of htp1, Af (j := 3) rfl, _, rfl, t, b, 2 ^ N, rfl, fun r0 r1 rr H2 s2 hrr hr0 hr1 => ?_⟩
  refine ⟨(by show 0 <= sizeLine; decide), fun md hmd => ?_⟩
  have s3 := An (o := .lst []) hmd
  have hm3 : upd H2 md (.lst []) md = some (.lst []) := Ai
  show (NR _ _) _ _ (upd H2 md (.lst []))
  generalize upd H2 md (.lst []) = H3 at s3 hm3 ⊢
  have s13 := (s1.trans s2).trans s3
  have nmd : H md = none := AB.noneOf (s1.trans s2) hmd
  have col : ∀ {u : Nat}, u < 2 -> ∃ x, [V.ref c0, V.ref c1][u]? = some (.ref x) /\ H3 x = some (.tup [.int (spl l r (2 ^ N) u).1, .int (spl l r (2 ^ N) u).2]) := fun {u} hu => by
   match u, hu with
   | 0, _ => exact ⟨c0, rfl, s3 _ _ (s2 _ _ hc0)⟩
   | 1, _ => exact ⟨c1, rfl, s3 _ _ (s2 _ _ hc1)⟩
  have row : ∀ {u : Nat}, u < 2 -> ∃ x, [V.ref r0, V.ref r1][u]? = some (.ref x) /\ H3 x = some (.tup [.int (spl t b (2 ^ N) u).1, .int (spl t b (2 ^ N) u).2]) := fun {u} hu => by
   match u, hu with
   | 0, _ => exact ⟨r0, rfl, s3 _ _ hr0⟩
   | 1, _ => exact ⟨r1, rfl, s3 _ _ hr1⟩
  have hcc3 := s3 _ _ (s2 _ _ hcc)
  have hrr3 := s3 _ _ hrr
  have hti3 := s13 _ _ hti
  have hto3 := s13 _ _ hto
  have fu3 := fu.same s13
  have na3 := Bu.same s13 na
  have gmd : md ∉ Cu g := fun z => by
   obtain ⟨oo, e⟩ := (fu.same (s1.trans s2)).nw.s md z
   rw [hmd] at e
   cases e
  have kmd : md ≠ kn := fun z => by
   obtain ⟨xs, e, _⟩ := na.ex
   rw [z] at nmd
   rw [nmd] at e
   cases e
  have mF : md ∉ frM g kn := fun z => by
   simp only [frM, List.mem_cons, List.not_mem_nil, or_false] at z
   rcases z with z | z | z | z
   ·exact gmd (by rw [z]; simp [Cu])
   ·exact gmd (by rw [z]; simp [Cu])
   ·exact gmd (by rw [z]; simp [Cu])
   ·exact kmd z
  clear htp1 hc0 hc1 hr0 hr1 hcc hrr s1 s2 s3
  refine ⟨4, rfl, by decide, by decide, ?_⟩
  refine Dx (n := 4) (fun j σ H4 => ∃ (G4 : Gv) (kvs4 : List (NK × V)) (ms : Nat -> Nat) (u10 u11 u12 u13 : Option V), σ = [some (.ref g.p), some (.ref tk), some (.int (2 ^ N)), some (.ref kn), some (.ref ti), some (.ref to'), some (.ref tp), some (.ref cc), some (.ref rr), some (.ref md), u10, u11, u12, u13] /\ Fx (md :: frM g kn) H3 H4 /\ H4 md = some (.lst ((List.range j).map fun x => V.int (ms x : Nat))) /\ AO a H4 g G4 /\ Bu P w shM H4 kn kvs4 /\ KOk G4 c kvs4 /\ kvs.length <= kvs4.length /\ AG G G4 (kvs4.length - kvs.length) /\ Un G N kvs kvs4 /\ ∀ x, x < j -> Fo G4 N (f4 i0 i1 i2 i3 x) (f4 o0 o1 o2 o3 x) (spl l r (2 ^ N) (x % 2)).1 (spl t b (2 ^ N) (x / 2)).1 (spl l r (2 ^ N) (x % 2)).2 (spl t b (2 ^ N) (x / 2)).2 (ms x)) ⟨G, kvs, fun _ => 0, none, none, none, none, rfl, Fx.refl _ H3, hm3, fu3, na3, kok, Nat.le_refl _, (AG.refl fu.ok).mono (by lia), Un.refl _ _ _, fun x hx => absurd hx (Nat.not_lt_zero _)⟩ ?_ ?_
  ·rintro j σ H4 hj ⟨G4, kvs4, ms, u10, u11, u12, u13, rfl, x4, hm4, fu4, na4, kok4, le4, go4, un4, mx4⟩
   have u2 : j % 2 < 2 := Nat.mod_lt _ (by decide)
   have v2 : j / 2 < 2 := by lia
   obtain ⟨cx, ecx, hcx⟩ := col u2
   obtain ⟨ry, ery, hry⟩ := row v2
   have hcx4 := x4.tup hcx
   have hry4 := x4.tup hry
   have cm : (0 + (j : Int)) % 2 = ((j % 2 : Nat) : Int) := by lia
   have cd : (0 + (j : Int)) / 2 = ((j / 2 : Nat) : Int) := by lia
   refine ⟨_, rfl, _, rfl, _, _, rfl, rfl, (by show (0 : Int) < 2; decide), cc, _, _, .ref cx, rfl, rfl, SqT.of (x4.tup hcc3), ?_, ?_⟩
   ·show atI [V.ref c0, V.ref c1] ((0 + (j : Int)) % 2) = _
    rw [cm]
    exact Af ecx
   refine ⟨_, rfl, _, rfl, _, _, rfl, rfl, ⟨by decide, by decide⟩, rr, _, _, .ref ry, rfl, rfl, SqT.of (x4.tup hrr3), ?_, ?_⟩
   ·show atI [V.ref r0, V.ref r1] ((0 + (j : Int)) / 2) = _
    rw [cd]
    exact Af ery
   refine ⟨_, rfl, cx, _, 0, _, rfl, rfl, SqT.of hcx4, Af (j := 0) rfl, _, rfl, ry, _, 0, _, rfl, rfl, SqT.of hry4, Af (j := 0) rfl, _, rfl, cx, _, 1, _, rfl, rfl, SqT.of hcx4, Af (j := 1) rfl, _, rfl, ry, _, 1, _, rfl, rfl, SqT.of hry4, Af (j := 1) rfl, (by show 4 <= sizeLine; decide), fun qp hqp => ?_⟩
   have s5 := An (o := .tup [.int (spl l r (2 ^ N) (j % 2)).1, .int (spl t b (2 ^ N) (j / 2)).1, .int (spl l r (2 ^ N) (j % 2)).2, .int (spl t b (2 ^ N) (j / 2)).2]) hqp
   have h5 : upd H4 qp (.tup [.int (spl l r (2 ^ N) (j % 2)).1, .int (spl t b (2 ^ N) (j / 2)).1, .int (spl l r (2 ^ N) (j % 2)).2, .int (spl t b (2 ^ N) (j / 2)).2]) qp = some (.tup [.int (spl l r (2 ^ N) (j % 2)).1, .int (spl t b (2 ^ N) (j / 2)).1, .int (spl l r (2 ^ N) (j % 2)).2, .int (spl t b (2 ^ N) (j / 2)).2]) := Ai
   show ∃ _, _
   generalize upd H4 qp (.tup [.int (spl l r (2 ^ N) (j % 2)).1, .int (spl t b (2 ^ N) (j / 2)).1, .int (spl l r (2 ^ N) (j % 2)).2, .int (spl t b (2 ^ N) (j / 2)).2]) = H5 at s5 h5 ⊢
   have x5 := x4.trans (AB.fx s5)
   have hm5 := s5 _ _ hm4
   have ai : atI (qi.parts.map V.int) (0 + (j : Int)) = some (.int (f4 i0 i1 i2 i3 j : Nat)) := by
    rw [Int.zero_add]
    exact Af (ni.at4 hj)
   have ao : atI (qo.parts.map V.int) (0 + (j : Int)) = some (.int (f4 o0 o1 o2 o3 j : Nat)) := by
    rw [Int.zero_add]
    exact Af (no.at4 hj)
   have pd4 : Pd G4 c N (f4 i0 i1 i2 i3 j) (f4 o0 o1 o2 o3 j) := (pd.part fu.ok clo ni no hj).go go4
   have pN : (0 : Int) < 2 ^ N := Ff N
   have e2 : (2 : Int) ^ (N + 1) = 2 ^ N + 2 ^ N := by rw [Int.pow_succ]; lia
   rw [e2] at bd
   have bds : ∀ {s0 e0 : Int} {u : Nat}, 0 <= s0 -> e0 <= 2 ^ N + 2 ^ N -> 0 <= (spl s0 e0 (2 ^ N) u).1 /\ (spl s0 e0 (2 ^ N) u).2 <= 2 ^ N := fun {s0 e0 u} a1 a2 => by
    unfold spl
    split
    ·dsimp only
     split <;> lia
    ·dsimp only
     split <;> lia
   have bx := bds (u := j % 2) bd.1 bd.2.2.1
   have by' := bds (u := j / 2) bd.2.1 bd.2.2.2
   have g4 := go4.few
   refine ⟨_, rfl, .inl ⟨rfl, _, SqL.of hm5⟩, _, rfl, _, rfl, _, rfl, ti, _, _, _, rfl, rfl, SqT.of (x5.tup hti3), ai, _, rfl, _, rfl, to', _, _, _, rfl, rfl, SqT.of (x5.tup hto3), ao, _, rfl, _, rfl, ?_⟩
   refine ⟨g, G4, c, kn, qp, kvs4, f4 i0 i1 i2 i3 j, f4 o0 o1 o2 o3 j, N, _, _, _, _, rfl, fu4.same s5, Bu.same s5 na4, nk, h5, kok4, clo.app go4, s8, pd4, Nn, by lia, ⟨bx.1, by'.1, bx.2, by'.2⟩, fun z => sx.spl z, fun z => sy.spl z, ⟨by lia, few2⟩, fun m G6 kvs6 H6 x6 fu6 na6 kok6 le6 go6 un6 mx6 => ?_⟩
   have hm6 := x6.get mF hm5
   refine ⟨md, _, .int m, rfl, rfl, hm6, by rw [List.length_map, List.length_range]; exact EC (by lia), ?_⟩
   have x7 := Pf (o' := .lst (((List.range j).map fun x => V.int (ms x : Nat)) ++ [.int m])) hm6 (fun z => z)
   have le46 : G.length <= G4.length := go4.le
   refine ⟨G6, kvs6, fun x => if x = j then m else ms x, _, _, _, _, rfl, (x5.trans (x6.mono (by simp [frM]))).trans (x7.mono (by simp)), ?_, fu6.fx x7 fun y hy z => gmd (by rw [List.mem_singleton] at z; rw [<- z]; exact hy), Bu.fx x7 (by simpa using Ne.symm kmd) na6, kok6, by lia, (go4.trans go6).mono (by lia), un4.trans go4 un6, fun x hx => ?_⟩
   ·rw [Ai, List.range_succ, List.map_append]
    congr 3
    ·exact List.map_congr_left fun x hx => by
      show V.int (ms x : Nat) = V.int ((if x = j then m else ms x : Nat) : Int)
      rw [if_neg (by have := List.mem_range.mp hx; lia)]
    ·show [V.int m] = [V.int ((if j = j then m else ms j : Nat) : Int)]
     rw [if_pos rfl]
   ·dsimp only
    by_cases z : x = j
    ·subst z
     rw [if_pos rfl]
     exact mx6
    ·rw [if_neg z]
     have hx3 : x < 4 := by lia
     have l1 : Ao G4 (f4 o0 o1 o2 o3 x) (N : Int) := go4.lev (by
      match x, hx3 with
      | 0, _ => exact no.hx
      | 1, _ => exact no.hy
      | 2, _ => exact no.hz
      | 3, _ => exact no.hw)
     have l2 : Ao G4 (f4 i0 i1 i2 i3 x) (N : Int) := go4.lev (ni.nat hx3).2
     exact (mx4 x (by lia)).app fu4.ok go6 l2 l1
  ·rintro σ H4 ⟨G4, kvs4, ms, u10, u11, u12, u13, rfl, x4, hm4, fu4, na4, kok4, le4, go4, un4, mx4⟩
   have g4 := go4.few
   have l4 := kok4.len fu4.ok
   refine ⟨_, rfl, g.p, g.dx, _, rfl, fu4.at'.hp, CC g, _, rfl, md, _, rfl, .inl ⟨SqL.of hm4, fun tl htl => ?_⟩⟩
   have s5 := An (o := .tup [.int (ms 0 : Nat), .int (ms 1 : Nat), .int (ms 2 : Nat), .int (ms 3 : Nat)]) htl
   refine ⟨g, G4, tl, ms 0, ms 1, ms 2, ms 3, (N : Int), rfl, fu4.at'.same s5, fu4.ok, Ai, ⟨(mx4 0 (by decide)).lev, (mx4 1 (by decide)).lev, (mx4 2 (by decide)).lev, (mx4 3 (by decide)).lev⟩, by lia, by lia, fun m G6 H6 fr6 hg6 go6 e6 => ?_⟩
   have x6 := fr6.fx (fu4.at'.same s5)
   have fu6 := (fu4.same s5).fr fr6 hg6 go6
   have x46 : Fx (md :: frM g kn) H3 H6 := (x4.trans (AB.fx s5)).trans (x6.mono (by simp [frM]))
   have kf : kn ∉ [g.lv, g.pt, g.nm] := fun z => nk (by simp [Cu] at *; lia)
   refine k m G6 kvs4 H6 (Fx.fresh s13 x46 nmd) fu6 (Bu.fx x6 kf (Bu.same s5 na4)) (kok4.go fu4.ok s8 go6) le4 (go4.trans go6) un4 ?_
   exact Fo.join (ni.app (go4.trans go6)) (no.app (go4.trans go6)) (fun x hx => (mx4 x hx).app fu4.ok go6 (go4.lev (ni.nat hx).2) (go4.lev (by
    match x, hx with
    | 0, _ => exact no.hx
    | 1, _ => exact no.hy
    | 2, _ => exact no.hz
    | 3, _ => exact no.hw))) e6
theorem Rn {f : Addr} {fd : FuncData} {f' : Addr} {fd' : FuncData} (F : Fun K "mixed" "mixed" FO f fd) (F' : Fun K "mixed_quarters" "mixed_quarters" Bq f' fd') (T : Top K mg a) (hm : mg "mixed" = some (.ref f)) (Bi : DA K fd Fi []) (hm' : mg "mixed_quarters" = some (.ref f')) (Bi' : DA K fd' Cj []) (C_split_stretch : Cal P w K mg base CX0 1 "split_stretch" BX Jc) (M_Grove_linked : CM P w K mg base CX0 2 a.c_Grove "linked" AT (Fj a)) : ∀ n, AY P w K mg base CX0 (2 * n + 2) f fd Fi (MN a P w n)
 | 0 => by
  refine F.ok Fs (fun vs H Q E h => ?_) (fun cdv A outer s H vs Q E hr h => ?_)
  ·obtain ⟨g, G, c, kn, tp, kvs, i, o, N, l, t, r, b, rfl, _, _, _, _, _, _, _, _, h0, _⟩ := h
   exact absurd h0 (Nat.not_lt_zero _)
  ·obtain ⟨g, G, c, kn, tp, kvs, i, o, N, l, t, r, b, rfl, _, _, _, _, _, _, _, _, h0, _⟩ := h
   exact absurd h0 (Nat.not_lt_zero _)
 | n + 1 => ok_mixS F T ⟨f', fd', ok_mq (d := 2 * n + 2) (by lia) F' T C_split_stretch M_Grove_linked ⟨f, fd, Rn F F' T hm Bi hm' Bi' C_split_stretch M_Grove_linked n, hm, F.kp, Bi⟩, hm', F'.kp, Bi'⟩
end
end J
namespace J
open PySem L2
theorem Fo.part {G : Gv} {n i o m : Nat} {l t r b : Int} {qi qo qm : Sq} {i0 i1 i2 i3 o0 o1 o2 o3 m0 m1 m2 m3 : Nat} (ni : Ce G n i qi i0 i1 i2 i3) (no : Ce G n o qo o0 o1 o2 o3) (nm : Ce G n m qm m0 m1 m2 m3) (h : Fo G (n + 1) i o l t r b m) {k : Nat} (hk : k < 4) :
  Fo G n (f4 i0 i1 i2 i3 k) (f4 o0 o1 o2 o3 k) (spl l r (2 ^ n) (k % 2)).1 (spl t b (2 ^ n) (k / 2)).1 (spl l r (2 ^ n) (k % 2)).2 (spl t b (2 ^ n) (k / 2)).2 (f4 m0 m1 m2 m3 k) := by
 refine ⟨(nm.nat hk).2, fun x y hx hy => ?_⟩
 obtain ⟨h1, h2, h3, h4, h5⟩ := Do hk hx hy
 have c := h.cell _ _ h1 h2
 rw [AR nm h1 h2, AR ni h1 h2, AR no h1 h2, h3, h4, h5] at c
 rw [c]
 have d1 : (x + 2 ^ n * (k % 2)) / 2 ^ n = k % 2 := by
  rw [Nat.add_mul_div_left _ _ (AA n), Nat.div_eq_of_lt hx, Nat.zero_add]
 have d2 : (y + 2 ^ n * (k / 2)) / 2 ^ n = k / 2 := by
  rw [Nat.add_mul_div_left _ _ (AA n), Nat.div_eq_of_lt hy, Nat.zero_add]
 have i1 := Jb (s := l) (e := r) h1 d1
 have i2 := Jb (s := t) (e := b) h2 d2
 rw [h4] at i1
 rw [h5] at i2
 by_cases z : (l <= ((x + 2 ^ n * (k % 2) : Nat) : Int) /\ ((x + 2 ^ n * (k % 2) : Nat) : Int) < r) /\ (t <= ((y + 2 ^ n * (k / 2) : Nat) : Int) /\ ((y + 2 ^ n * (k / 2) : Nat) : Int) < b)
 ·rw [if_pos z, if_pos ⟨i1.mpr z.1, i2.mpr z.2⟩]
 ·rw [if_neg z, if_neg fun q => z ⟨i1.mp q.1, i2.mp q.2⟩]
theorem Fo.empty {G : Gv} (ok : GOk G) {n i o m : Nat} {l t r b : Int} (h : Fo G n i o l t r b m) (lo : Ao G o (n : Int)) (e : r <= l \/ b <= t) : m = o := by
 refine Ej ok h.lev lo fun x y hx hy => ?_
 rw [h.cell x y hx hy, if_neg (by lia)]
theorem Fo.one {G : Gv} (ok : GOk G) {n i o m m' : Nat} {l t r b : Int} (h : Fo G n i o l t r b m) (h' : Fo G n i o l t r b m') : m = m' := Ej ok h.lev h'.lev fun x y hx hy => by rw [h.cell x y hx hy, h'.cell x y hx hy]
def OA (G : Gv) (c : Mc) (x : Nat) : Prop := ∃ (k : NK) (n i o : Nat) (l t r b : Int), Ent G c (k, .int x) n i o l t r b x
theorem RB {G : Gv} (ok : GOk G) {c : Mc} {l : List Nat} (nd : l.Nodup) (h : ∀ x ∈ l, OA G c x) : l.length <= 16 * c.S.length := by
 classical
 let f : Nat -> NK := fun x => if z : OA G c x then Classical.choose z else []
 have hf : ∀ x ∈ l, ∃ n i o l t r b, Ent G c (f x, .int x) n i o l t r b x := fun x hx => by
  have z := h x hx
  show ∃ n i o l t r b, Ent G c ((if z : OA G c x then Classical.choose z else []), .int x) n i o l t r b x
  rw [dif_pos z]
  exact Classical.choose_spec z
 have k : KOk G c (l.map fun x => (f x, V.int (x : Int))) := by
  refine ⟨?_, fun p hp => ?_⟩
  ·rw [List.map_map, List.nodup_iff_pairwise_ne, List.pairwise_map]
   refine List.Pairwise.imp_of_mem (fun {x y} hx hy hne z => hne ?_) (List.nodup_iff_pairwise_ne.mp nd)
   have z : f x = f y := z
   obtain ⟨n, i, o, l, t, r, b, e⟩ := hf x hx
   obtain ⟨n', i', o', l', t', r', b', e'⟩ := hf y hy
   have q1 := congrArg Prod.fst e.e
   have q2 := congrArg Prod.fst e'.e
   have q1 : f x = kMx i o l t r b := q1
   have q2 : f y = kMx i' o' l' t' r' b' := q2
   obtain ⟨rfl, rfl, rfl, rfl, rfl, rfl⟩ := Mr (q1.symm.trans (z.trans q2))
   have : n = n' := Int.ofNat.inj (e.pd.lo.uniq e'.pd.lo)
   subst this
   exact e.mx.one ok e'.mx
  ·obtain ⟨x, hx, rfl⟩ := List.mem_map.mp hp
   obtain ⟨n, i, o, l, t, r, b, e⟩ := hf x hx
   exact ⟨n, i, o, l, t, r, b, x, e⟩
 have := k.len ok
 rw [List.length_map] at this
 exact this
structure FS (G : Gv) (f B : Nat) : Prop where
 ex : ∃ S : List Nat, f ∈ S /\ (∀ j, j <= 48 -> bareN j ∈ S) /\ Clo G S /\ S.length <= B
theorem FS.app {G G' : Gv} {k f B : Nat} (go : AG G G' k) (h : FS G f B) : FS G' f B := by
 obtain ⟨S, h1, h2, h3, h4⟩ := h.ex
 exact ⟨S, h1, h2, h3.app go, h4⟩
theorem FS.mono {G : Gv} {f B C : Nat} (h : FS G f B) (e : B <= C) : FS G f C := by
 obtain ⟨S, h1, h2, h3, h4⟩ := h.ex
 exact ⟨S, h1, h2, h3, by lia⟩
theorem Clo.cons {G : Gv} {S : List Nat} (h : Clo G S) {n x a b c d : Nat} {q : Sq} (nd : Ce G n x q a b c d) (m : a ∈ S /\ b ∈ S /\ c ∈ S /\ d ∈ S) : Clo G (x :: S) := fun o ho => by
 rcases List.mem_cons.mp ho with rfl | ho
 ·exact .inr ⟨n, q, a, b, c, d, nd, List.mem_cons_of_mem _ m.1, List.mem_cons_of_mem _ m.2.1, List.mem_cons_of_mem _ m.2.2.1, List.mem_cons_of_mem _ m.2.2.2⟩
 ·rcases h o ho with z | ⟨n', q', a', b', c', d', nd', m'⟩
  ·exact .inl z
  ·exact .inr ⟨n', q', a', b', c', d', nd', List.mem_cons_of_mem _ m'.1, List.mem_cons_of_mem _ m'.2.1, List.mem_cons_of_mem _ m'.2.2.1, List.mem_cons_of_mem _ m'.2.2.2⟩
theorem MA {G r : Gv} (e0 : G = G0 ++ r) (ok : GOk G) {j : Nat} (h : j <= 48) : FS G (bareN j) 49 := by
 refine ⟨(List.range 49).map bareN, List.mem_map.mpr ⟨j, List.mem_range.mpr (by lia), rfl⟩, fun i hi => List.mem_map.mpr ⟨i, List.mem_range.mpr (by lia), rfl⟩, fun o ho => ?_, by rw [List.length_map, List.length_range]; exact Nat.le_refl _⟩
 obtain ⟨i, hi, rfl⟩ := List.mem_map.mp ho
 have hi := List.mem_range.mp hi
 cases i with
 | zero => exact .inl (by decide)
 | succ i =>
  have m : bareN i ∈ (List.range 49).map bareN := List.mem_map.mpr ⟨i, List.mem_range.mpr (by lia), rfl⟩
  have lb := Cq e0 (n := i) (by lia)
  have g : G[bareN (i + 1)]? = some ⟨[(bareN i : Int), (bareN i : Int), (bareN i : Int), (bareN i : Int)], (i : Int) + 1⟩ := by
   have := Mv e0 i (by lia)
   exact this
  exact .inr ⟨i, _, bareN i, bareN i, bareN i, bareN i, ⟨g, rfl, rfl, lb, lb, lb, lb⟩, m, m, m, m⟩
theorem FS.wid {G r : Gv} (e0 : G = G0 ++ r) (ok : GOk G) {n f w B : Nat} (hn : n <= 46) (h : FS G f B) (wd : Wid G n f w) : FS G w (B + 5) := by
 obtain ⟨S, h1, h2, h3, h4⟩ := h.ex
 obtain ⟨q, x, y, z, v, a, b, c, d, nd, ea, eb, ec, ed, ew⟩ := wd.ex
 obtain ⟨m1, m2, m3, m4⟩ := h3.get ok h1 nd
 have lb := Cq e0 (n := n) (by lia)
 have mb := h2 n (by lia)
 have na : Ce G n a _ (bareN n) (bareN n) (bareN n) x := ⟨ea, rfl, rfl, lb, lb, lb, nd.hx⟩
 have nb : Ce G n b _ (bareN n) (bareN n) y (bareN n) := ⟨eb, rfl, rfl, lb, lb, nd.hy, lb⟩
 have nc : Ce G n c _ (bareN n) z (bareN n) (bareN n) := ⟨ec, rfl, rfl, lb, nd.hz, lb, lb⟩
 have nD : Ce G n d _ v (bareN n) (bareN n) (bareN n) := ⟨ed, rfl, rfl, nd.hw, lb, lb, lb⟩
 have la : Ao G a ((n + 1 : Nat) : Int) := ⟨_, ea, by show (n : Int) + 1 = _; lia⟩
 have lb' : Ao G b ((n + 1 : Nat) : Int) := ⟨_, eb, by show (n : Int) + 1 = _; lia⟩
 have lc : Ao G c ((n + 1 : Nat) : Int) := ⟨_, ec, by show (n : Int) + 1 = _; lia⟩
 have ld : Ao G d ((n + 1 : Nat) : Int) := ⟨_, ed, by show (n : Int) + 1 = _; lia⟩
 have nw : Ce G (n + 1) w _ a b c d := ⟨ew, rfl, by show (n : Int) + 2 = ((n + 1 : Nat) : Int) + 1; lia, la, lb', lc, ld⟩
 refine ⟨w :: a :: b :: c :: d :: S, by simp, fun j hj => by simp [h2 j hj], ?_, by simp only [List.length_cons]; lia⟩
 refine Clo.cons (Clo.cons (Clo.cons (Clo.cons (Clo.cons h3 nD ⟨m4, mb, mb, mb⟩) nc ?_) nb ?_) na ?_) nw ?_
 ·exact ⟨List.mem_cons_of_mem _ mb, List.mem_cons_of_mem _ m3, List.mem_cons_of_mem _ mb, List.mem_cons_of_mem _ mb⟩
 ·simp [mb, m2]
 ·simp [mb, m1]
 ·simp
theorem FS.widN {G r : Gv} (e0 : G = G0 ++ r) (ok : GOk G) {n f B : Nat} (h : FS G f B) : ∀ {k w : Nat}, n + k <= 46 -> IT G n f k w -> FS G w (B + 5 * k)
 | 0, w, _, e => by
  have e : w = f := e
  subst e
  exact h
 | k + 1, w, hn, e => by
  obtain ⟨u, e1, e2⟩ := e
  exact ((FS.widN e0 ok h (k := k) (by lia) e1).wid e0 ok (by lia) e2).mono (by lia)
theorem FS.trim {G : Gv} (ok : GOk G) : ∀ {n f r B : Nat}, FS G f B -> Ex G n f r -> FS G r (B + n)
 | 0, _, _, _, _, t => absurd t (by intro z; exact z)
 | 1, f, r, B, h, t => by
  have t : r = f := t
  subst t
  exact h.mono (by lia)
 | n + 2, f, r, B, h, t => by
  obtain ⟨qs, ps, dp, t⟩ := t
  rcases t with ⟨_, rfl⟩ | ⟨_, m, em, t⟩
  ·exact h.mono (by lia)
  ·obtain ⟨S, h1, h2, h3, h4⟩ := h.ex
   obtain ⟨q, nd⟩ := dp.node
   obtain ⟨m0, m1, m2, m3⟩ := h3.get ok h1 nd
   have sub : ∀ k, k < 4 -> qs k ∈ S := fun k hk => by
    match k, hk with
    | 0, _ => exact m0
    | 1, _ => exact m1
    | 2, _ => exact m2
    | 3, _ => exact m3
   have sub2 : ∀ k j, k < 4 -> j < 4 -> ps k j ∈ S /\ Ao G (ps k j) (n : Int) := fun k j hk hj => by
    obtain ⟨q', nd'⟩ := dp.sub k hk
    obtain ⟨a0, a1, a2, a3⟩ := h3.get ok (sub k hk) nd'
    match j, hj with
    | 0, _ => exact ⟨a0, nd'.hx⟩
    | 1, _ => exact ⟨a1, nd'.hy⟩
    | 2, _ => exact ⟨a2, nd'.hz⟩
    | 3, _ => exact ⟨a3, nd'.hw⟩
   have p0 := sub2 0 3 (by decide) (by decide)
   have p1 := sub2 1 2 (by decide) (by decide)
   have p2 := sub2 2 1 (by decide) (by decide)
   have p3 := sub2 3 0 (by decide) (by decide)
   have nm : Ce G n m _ (ps 0 3) (ps 1 2) (ps 2 1) (ps 3 0) := ⟨em, rfl, rfl, p0.2, p1.2, p2.2, p3.2⟩
   have : FS G m (B + 1) := ⟨m :: S, by simp, fun j hj => by simp [h2 j hj], Clo.cons h3 nm ⟨p0.1, p1.1, p2.1, p3.1⟩, by simp only [List.length_cons]; lia⟩
   exact (FS.trim ok this t).mono (by lia)
theorem fs_mix {G : Gv} (ok : GOk G) {c : Mc} (clo : Clo G c.S) (hb : ∀ j, j <= 48 -> bareN j ∈ c.S) {m : Nat} (h : OA G c m) (s8 : c.s < 8) (bo : c.ro = true -> ∀ {n o : Nat}, Ao G o (n : Int) -> Sol G c.s n o -> o ∈ c.S) : FS G m (17 * c.S.length) := by
 classical
 let L := (List.range G.length).filter fun x => decide (OA G c x)
 have inL : ∀ {x : Nat}, OA G c x -> x ∈ L := fun {x} hx => List.mem_filter.mpr ⟨List.mem_range.mpr (by
  obtain ⟨k, n, i, o, l, t, r, b, e⟩ := hx
  exact e.mx.lev.lt), decide_eq_true hx⟩
 have len : L.length <= 16 * c.S.length := RB ok (List.Pairwise.filter _ List.nodup_range) fun x hx => of_decide_eq_true (List.mem_filter.mp hx).2
 refine ⟨c.S ++ L, List.mem_append.mpr (.inr (inL h)), fun j hj => List.mem_append.mpr (.inl (hb j hj)), fun x hx => ?_, by rw [List.length_append]; lia⟩
 rcases List.mem_append.mp hx with hx | hx
 ·rcases clo x hx with z | ⟨n, q, a, b, c', d, nd, m1, m2, m3, m4⟩
  ·exact .inl z
  ·exact .inr ⟨n, q, a, b, c', d, nd, List.mem_append.mpr (.inl m1), List.mem_append.mpr (.inl m2), List.mem_append.mpr (.inl m3), List.mem_append.mpr (.inl m4)⟩
 ·obtain ⟨k, n, i, o, l, t, r, b, e⟩ := of_decide_eq_true (List.mem_filter.mp hx).2
  cases n with
  | zero => exact .inl (leaf_of ok e.mx.lev)
  | succ n =>
   obtain ⟨qm, m0, m1, m2, m3, nm⟩ := AX ok e.mx.lev
   obtain ⟨qo, o0, o1, o2, o3, no⟩ := AX ok e.pd.lo
   obtain ⟨qi, i0, i1, i2, i3, ni⟩ := AX ok e.pd.li
   have all : ∀ k', k' < 4 -> f4 m0 m1 m2 m3 k' ∈ c.S ++ L := fun k' hk => by
    have mp := e.mx.part ni no nm hk
    have pd' := e.pd.part ok clo ni no hk
    by_cases z : (spl l r (2 ^ n) (k' % 2)).1 < (spl l r (2 ^ n) (k' % 2)).2 /\ (spl t b (2 ^ n) (k' / 2)).1 < (spl t b (2 ^ n) (k' / 2)).2
    ·exact List.mem_append.mpr (.inr (inL ⟨_, n, _, _, _, _, _, _, ⟨rfl, pd', mp, e.sx.spl z.1, e.sy.spl z.2⟩⟩))
    ·rw [mp.empty ok pd'.lo (by lia)]
     refine List.mem_append.mpr (.inl ?_)
     have q1 := pd'.mo
     have q2 := pd'.so
     unfold EF at q1
     unfold PQ at q2
     by_cases y : c.ro = true
     ·rw [if_pos y] at q2
      exact bo y pd'.lo q2
     ·rw [if_neg y] at q1
      exact q1
   exact .inr ⟨n, qm, m0, m1, m2, m3, nm, all 0 (by decide), all 1 (by decide), all 2 (by decide), all 3 (by decide)⟩
end J
namespace J
open PySem L2
seal L2.PA L2.PE L2.PS L2.PSs L2.PT L2.PW
theorem NG {G : Gv} (ok : GOk G) {s : Nat} (hs : s < 8) : ∀ {n i x y : Nat}, Sol G s n i -> x < 2 ^ n -> y < 2 ^ n -> BZ G n i x y = s
 | 0, i, x, y, h, _, _ => h
 | n + 1, i, x, y, h, hx, hy => by
  obtain ⟨m, h1, e⟩ := h
  have lm := Sol.lev ok hs h1
  have nd : Ce G n i _ m m m m := ⟨e, rfl, rfl, lm, lm, lm, lm⟩
  rw [AR nd hx hy]
  have : f4 m m m m (quad n x y) = m := by unfold f4; split <;> rfl
  rw [this]
  exact NG ok hs h1 (Nat.mod_lt _ (AA n)) (Nat.mod_lt _ (AA n))
def InB (x y wd ht u v : Int) : Prop := (x <= u /\ u < x + wd) /\ (y <= v /\ v < y + ht)
instance (x y wd ht u v : Int) : Decidable (InB x y wd ht u v) := by unfold InB; infer_instance
theorem Qb {G : Gv} (ok : GOk G) {n s i o m : Nat} {x y wd ht : Int} (s8 : s < 8) (so : Sol G s (n + 1) i) (li : BU x y wd ht (2 ^ n)) (h : Fo G (n + 1) i o (x + 2 ^ n) (y + 2 ^ n) (x + 2 ^ n + wd) (y + 2 ^ n + ht) m) (u v : Int) : AF G n m u v = if InB x y wd ht u v then s else AF G n o u v := by
 unfold AF
 by_cases z : -(2 ^ n) <= u /\ u < 2 ^ n /\ -(2 ^ n) <= v /\ v < 2 ^ n
 ·rw [if_pos z, if_pos z]
  have h1 := CZ z.1 z.2.1
  have h2 := CZ z.2.2.1 z.2.2.2
  rw [h.cell _ _ h1 h2, NG ok s8 so h1 h2]
  have e1 : ((u + 2 ^ n).toNat : Int) = u + 2 ^ n := Int.toNat_of_nonneg (by lia)
  have e2 : ((v + 2 ^ n).toNat : Int) = v + 2 ^ n := Int.toNat_of_nonneg (by lia)
  rw [e1, e2]
  by_cases q : InB x y wd ht u v
  ·rw [if_pos q, if_pos (by unfold InB at q; lia)]
  ·rw [if_neg q, if_neg (by unfold InB at q; lia)]
 ·rw [if_neg z, if_neg z, if_neg]
  unfold InB
  unfold BU at li
  lia
def clL (v : Int) : Int := if 0 > v then 0 else v
def clR (n : Nat) (v : Int) : Int := if 2 * 2 ^ n < v then 2 * 2 ^ n else v
theorem Sg {v : Int} (h : 0 <= v) : clL v = v := by unfold clL; rw [if_neg (by lia)]
theorem Sf {n : Nat} {v : Int} (h : v <= 2 * 2 ^ n) : clR n v = v := by unfold clR; rw [if_neg (by lia)]
section
variable {P : Program} {w : World} {K : PySem.W.Frag} {mg : Str -> Option Value} {base : Heap} {a : Ad}
inductive SpChB (vs : List V) (H : Hp) (Q : VK) : Prop
 | mk (t : Addr) (x y wd ht : Int) (_ : vs = [.ref t]) (_ : H t = some (.tup [.int x, .int y, .int wd, .int ht])) (_ : 0 <= wd) (_ : 0 <= ht) (_ : Q .non H) : SpChB vs H Q
def QO : Sp := fun vs H Q _ => SpChB vs H Q
theorem ok_chb {f : Addr} {fd : FuncData} (F : Fun K "check_box" "check_box" Dr f fd) (T : Top K mg a) : AY P w K mg base CX0 1 f fd Ep QO := by
 refine F.ok LQ (fun vs H Q E h => ?_) (fun cdv A outer s H vs Q E hr h => ?_)
 ·obtain ⟨t, x, y, wd, ht, rfl, _⟩ := h
  rfl
 ·obtain ⟨t, x, y, wd, ht, rfl, hb, w0, h0, k⟩ := h
  refine ⟨_, (Aj (Bh (PW.pt (IG (AL JH (Ak Am (pv 0) Ac (fun _ _ => rfl)) Ac (AM _)) (Ga (AL JH (Ak Am (pv 0) Ac (fun _ _ => rfl)) Ac (AM _))))) (Aj CJ) AD)), ?_⟩
  try dsimp only [cxK]
  refine ⟨_, rfl, t, _, 2, .int wd, rfl, rfl, SqT.of hb, Af (j := 2) rfl, _, _, rfl, rfl, _, rfl, ?_⟩
  rw [decide_eq_false (by lia : ¬ wd < 0)]
  refine BC ⟨_, rfl, t, _, 3, .int ht, rfl, rfl, SqT.of hb, Af (j := 3) rfl, _, _, rfl, rfl, _, rfl, ?_⟩
  rw [decide_eq_false (by lia : ¬ ht < 0)]
  exact BC k
inductive SpPI (a : Ad) (vs : List V) (H : Hp) (Q : VK) : Prop
 | mk (g : GA) (G : Gv) (f n : Nat) (t : Addr) (x y wd ht : Int) (_ : vs = [.ref g.p, .int f, .ref t]) (_ : AO a H g G) (_ : Ao G f ((n + 1 : Nat) : Int)) (_ : n < 48) (_ : H t = some (.tup [.int x, .int y, .int wd, .int ht])) (_ : ∀ (t' : Addr) (H' : Hp), AB H H' -> H' t' = some (.tup [.int (clL (x + 2 ^ n)), .int (clL (y + 2 ^ n)), .int (clR n (x + 2 ^ n + wd)), .int (clR n (y + 2 ^ n + ht))]) -> Q (.ref t') H') : SpPI a vs H Q
def spPI (a : Ad) : Sp := fun vs H Q _ => SpPI a vs H Q
theorem ok_pi {f : Addr} {fd : FuncData} (F : Fun K "part_in" "part_in" EL f fd) (T : Top K mg a) (C_reach_of : Cal P w K mg base CX0 4 "reach_of" Ct (FL a)) : AY P w K mg base CX0 5 f fd FB (spPI a) := by
 refine F.ok ES (fun vs H Q E h => ?_) (fun cdv A outer s H vs Q E hr h => ?_)
 ·obtain ⟨g, G, f', n, t, x, y, wd, ht, rfl, _⟩ := h
  rfl
 ·obtain ⟨g, G, f', n, t, x, y, wd, ht, rfl, fu, lf, n48, hb, k⟩ := h
  refine ⟨_, (Ab (Al (i := 3) ES.nd rfl (Or.inl rfl) (As C_reach_of (rm hr) rfl Ar (Aa (pv 0) (Aa (pv 1) Ae)))) (Ab (Al (i := 4) ES.nd rfl (Or.inl rfl) (Aq AI (Ak Am (pv 2) Ac (fun _ _ => rfl)) (pv 3))) (Ab (Al (i := 5) ES.nd rfl (Or.inl rfl) (Aq AI (Ak Am (pv 2) Ac (fun _ _ => rfl)) (pv 3))) (Ab (Al (i := 6) ES.nd rfl (Or.inl rfl) (Aq Ez Ac (pv 3))) (Aj (Aw (Cc (Aa (AN (Gy rfl) rfl T.b_max PyProof.Rows.boot_max (Aa (pv 4) (AH Ae))) (Aa (AN (Gy rfl) rfl T.b_max PyProof.Rows.boot_max (Aa (pv 5) (AH Ae))) (Aa (AN (FG rfl) rfl T.b_min PyProof.Rows.boot_min (Bk AI (pv 4) (Ak Am (pv 2) Ac (fun _ _ => rfl)) (Aa (pv 6) Ae))) (Aa (AN (FG rfl) rfl T.b_min PyProof.Rows.boot_min (Bk AI (pv 5) (Ak Am (pv 2) Ac (fun _ _ => rfl)) (Aa (pv 6) Ae))) Ae))))))))))), ?_⟩
  try dsimp only [cxK]
  refine ⟨_, rfl, _, rfl, g, G, f', n, rfl, fu.at', lf, n48, ?_⟩
  refine ⟨_, rfl, t, _, 0, .int x, rfl, rfl, SqT.of hb, Af (j := 0) rfl, _, rfl, _, _, rfl, rfl, ?_⟩
  refine ⟨_, rfl, t, _, 1, .int y, rfl, rfl, SqT.of hb, Af (j := 1) rfl, _, rfl, _, _, rfl, rfl, ?_⟩
  refine ⟨_, rfl, _, _, rfl, rfl, .inl ⟨by decide, by decide⟩, ?_⟩
  refine ⟨_, rfl, _, _, rfl, _, rfl, _, _, rfl, _, rfl, _, rfl, t, _, 2, .int wd, rfl, rfl, SqT.of hb, Af (j := 2) rfl, _, _, rfl, rfl, _, rfl, _, _, rfl, _, rfl, _, rfl, t, _, 3, .int ht, rfl, rfl, SqT.of hb, Af (j := 3) rfl, _, _, rfl, rfl, _, rfl, _, _, rfl, (by show 4 <= sizeLine; decide), fun t' ht' => ?_⟩
  exact k t' _ (An ht') Ai
end
end J
namespace J
open PySem L2
seal L2.PA L2.PE L2.PS L2.PSs L2.PT L2.PW
theorem Qu {G r : Gv} (e0 : G = G0 ++ r) (ok : GOk G) {n j w : Nat} (hn : n + j <= 46) (lb : Ao G (bareN (n + 1)) ((n + 1 : Nat) : Int)) (wi : IT G n (bareN (n + 1)) j w) (lw : Ao G w ((n + j + 1 : Nat) : Int)) : w = bareN (n + j + 1) := by
 refine Ej ok lw (Cq e0 (by lia)) fun x y hx hy => ?_
 rw [Cp e0 ok (by lia) hx hy]
 have c := DJ (n + j)
 have s := Gc (n + j)
 have e := EQ e0 ok (by lia) wi ((x : Int) - 2 ^ (n + j)) ((y : Int) - 2 ^ (n + j))
 unfold AF at e
 rw [if_pos ⟨by lia, by lia, by lia, by lia⟩, show ((x : Int) - 2 ^ (n + j) + 2 ^ (n + j)).toNat = x by lia, show ((y : Int) - 2 ^ (n + j) + 2 ^ (n + j)).toNat = y by lia] at e
 rw [e]
 split
 ·rename_i z
  exact Cp e0 ok (by lia) (CZ z.1 z.2.1) (CZ z.2.2.1 z.2.2.2)
 ·rfl
section
variable {P : Program} {w : World} {K : PySem.W.Frag} {mg : Str -> Option Value} {base : Heap} {a : Ad}
inductive Sy (a : Ad) (vs : List V) (H : Hp) (Q : VK) : Prop
 | mk (g : GA) (G : Gv) (f n : Nat) (t : Addr) (x y wd ht : Int) (s B C : Nat) (_ : vs = [.ref g.p, .int f, .ref t, .int s]) (_ : AO a H g G) (_ : Ao G f ((n + 1 : Nat) : Int)) (_ : n <= 40) (_ : Ik G n f) (_ : H t = some (.tup [.int x, .int y, .int wd, .int ht])) (_ : 0 <= wd) (_ : 0 <= ht) (_ : (0 < wd -> 0 < ht -> BU x y wd ht (2 ^ 40))) (_ : s < 8) (_ : FS G f B) (_ : (f = bareN (n + 1) /\ 900 <= C) \/ 17 * B + 4000 <= C) (_ : B <= 200000) (_ : G.length + 16 * B < 7500000) (_ : ∀ (r m : Nat) (G' : Gv) (H' : Hp), Fr g H H' -> AO a H' g G' -> AG G G' (16 * B + 4000) -> Ao G' r ((m + 1 : Nat) : Int) -> m <= 40 -> Ik G' m r -> (∀ u v, AF G' m r u v = if InB x y wd ht u v then s else AF G n f u v) -> FS G' r C -> Q (.int r) H') : Sy a vs H Q
def Jw (a : Ad) : Sp := fun vs H Q _ => Sy a vs H Q
theorem ok_fill {f : Addr} {fd : FuncData} (F : Fun K "filled" "filled" Ft f fd) (T : Top K mg a) (C_check_box : Cal P w K mg base CX0 1 "check_box" Ep QO) (C_lies_within : Cal P w K mg base CX0 1 "lies_within" BK Ln) (C_is_state : Cal P w K mg base CX0 2 "is_state" Dm QM) (C_widened_over : Cal P w K mg base CX0 5 "widened_over" BS (QG a)) (M_Grove_solid : CM P w K mg base CX0 4 a.c_Grove "solid" Cd (GR a)) (M_Grove_level_of : CM P w K mg base CX0 3 a.c_Grove "level_of" AW (Jv a)) (C_part_in : Cal P w K mg base CX0 5 "part_in" FB (spPI a)) (C_mixed : Cal P w K mg base CX0 102 "mixed" Fi (MN a P w 50)) (C_trimmed : Cal P w K mg base CX0 4 "trimmed" Ee (Jt a)) : AY P w K mg base CX0 103 f fd Gd (Jw a) := by
 refine F.ok Gq (fun vs H Q E h => ?_) (fun cdv A outer s H vs Q E hr h => ?_)
 ·obtain ⟨g, G, f', n, t, x, y, wd, ht, st, B, C, rfl, _⟩ := h
  rfl
 ·obtain ⟨g, G, f', n, t, x, y, wd, ht, st, B, C, rfl, fu, lf, n40, tr, hb, w0, h0, far, s8, fs, hC, B2, few, k⟩ := h
  refine ⟨_, (Ab (DI (As C_check_box (rm hr) rfl Ar (Aa (pv 2) Ae))) (Ab (Al (i := 4) Gq.nd rfl (Or.inl rfl) (GK (Fh Nf (Ak Am (pv 2) Ac (fun _ _ => rfl)) Ac (AM _)) (JC (Fh Nf (Ak Am (pv 2) Ac (fun _ _ => rfl)) Ac (AM _))))) (Ab (Bh (PW.pt (LT (Cs (pv 4)) (Jh (CD (Cs (As C_lies_within (rm hr) rfl Ar (Aa (pv 2) (Aa (Df rfl T.k_LIMIT) Ae)))))))) (Aj CJ) AD) (Ab (Bh (CD (Cs (As C_is_state (rm hr) rfl Ar (Aa (pv 3) Ae)))) (Aj CJ) AD) (Ab (Bh (CD (Cs (pv 4))) (Aj (Aw (pv 1))) AD) (Ab (Al (i := 5) Gq.nd rfl (Or.inl rfl) (As C_widened_over (rm hr) rfl Ar (Aa (pv 0) (Aa (pv 1) (Aa (pv 2) Ae))))) (Ab (Al (i := 6) Gq.nd rfl (Or.inl rfl) (AU (pv 0) M_Grove_solid (rm hr) Ar (Aa (AU (pv 0) M_Grove_level_of (rm hr) Ar (Aa (pv 5) Ae)) (Aa (pv 3) Ae)))) (Aj (Aw (As C_trimmed (rm hr) rfl Ar (Aa (pv 0) (Aa (As C_mixed (rm hr) rfl Ar (Aa (pv 0) (Aa (pv 6) (Aa (pv 5) (Aa (As C_part_in (rm hr) rfl Ar (Aa (pv 0) (Aa (pv 5) (Aa (pv 2) Ae)))) (Aa (Rb (sh := [false, false, true])) Ae)))))) Ae)))))))))))), ?_⟩
  try dsimp only [cxK]
  refine ⟨_, rfl, t, x, y, wd, ht, rfl, hb, w0, h0, ?_⟩
  refine ev_val (t := tAndV (tOp (rI0 fun i j => V.bl (decide (j < i))) (tOp (LS K) (JY 2) (tC (V.int 2))) (tC (V.int 0))) (tOp (rI0 fun i j => V.bl (decide (j < i))) (tOp (LS K) (JY 2) (tC (V.int 3))) (tC (V.int 0)))) (fun v H1 => v = .bl (decide (0 < wd) && decide (0 < ht)) /\ H = H1) (fun Q' q' => ?_) ?_
  ·refine ⟨_, rfl, t, _, 2, .int wd, rfl, rfl, SqT.of hb, Af (j := 2) rfl, _, _, rfl, rfl, _, rfl, ?_⟩
   revert q'
   generalize decide ((0 : Int) < wd) = b1
   cases b1
   ·intro q'
    exact BC (q' _ _ ⟨rfl, rfl⟩)
   ·intro q'
    exact Da ⟨_, rfl, t, _, 3, .int ht, rfl, rfl, SqT.of hb, Af (j := 3) rfl, _, _, rfl, rfl, q' _ _ ⟨rfl, rfl⟩⟩
  rintro v H1 ⟨rfl, rfl⟩
  by_cases hp : 0 < wd /\ 0 < ht
  ·have li := far hp.1 hp.2
   rw [decide_eq_true hp.1, decide_eq_true hp.2]
   refine ⟨_, rfl, true, rfl, Da ⟨_, rfl, t, x, y, wd, ht, 2 ^ 40, rfl, hb, _, rfl, ?_⟩⟩
   rw [decide_eq_true li]
   refine BC ⟨_, rfl, (st : Int), rfl, by lia, by lia, true, rfl, BC ⟨_, rfl, true, rfl, BC ?_⟩⟩
   refine ⟨_, rfl, _, rfl, _, rfl, g, G, f', n, t, x, y, wd, ht, rfl, fu, lf, n40, hb, li, by lia, fun j w' G1 H1 fr1 fu1 go1 nk wi lw liw _ => ?_⟩
   have g1 := go1.few
   have ft1 : H1 t = some (.tup [.int x, .int y, .int wd, .int ht]) := fr1.tup fu.at' hb
   obtain ⟨qw, ew, elw⟩ := id lw
   refine ⟨_, rfl, g.p, g.dx, _, rfl, fu1.at'.hp, JJ g, _, rfl, g.p, g.dx, _, rfl, fu1.at'.hp, EZ g, _, rfl, g, G1, w', qw, rfl, fu1.at', ew, _, rfl, ?_⟩
   refine ⟨g, G1, n + j + 1, st, by rw [elw]; rfl, fu1.at', fu1.ok, by lia, s8, by lia, fun i G2 H2 fr2 hg2 go2 so2 => ?_⟩
   have fu2 := fu1.fr fr2 hg2 go2
   have g2 := go2.few
   have ft2 : H2 t = some (.tup [.int x, .int y, .int wd, .int ht]) := fr2.tup fu1.at' ft1
   have lw2 := go2.lev lw
   refine ⟨_, rfl, _, rfl, _, rfl, _, rfl, _, rfl, _, rfl, _, rfl, g, G2, w', n + j, t, x, y, wd, ht, rfl, fu2, lw2, by lia, ft2, fun tp H3 s3 htp => ?_⟩
   rw [Sg (by unfold BU at liw; lia), Sg (by unfold BU at liw; lia), Sf (by unfold BU at liw; lia), Sf (by unfold BU at liw; lia)] at htp
   intro kn H4 hkn s4 na
   have fu4 := (fu2.same s3).same s4
   have htp4 := s4 _ _ htp
   have nkn : H kn = none := by
    cases e : H kn with
    | none => rfl
    | some oo =>
     have z : kn = g.lv \/ kn = g.pt \/ kn = g.nm := by
      refine Classical.byContradiction fun z => ?_
      have q1 := fr1 _ _ e (fun q => z (.inl q)) (fun q => z (.inr (.inl q))) (fun q => z (.inr (.inr q)))
      have q2 := fr2 _ _ q1 (fun q => z (.inl q)) (fun q => z (.inr (.inl q))) (fun q => z (.inr (.inr q)))
      rw [s3 _ _ q2] at hkn
      cases hkn
     have w3 := (fu2.same s3).nw
     obtain ⟨o1, e1⟩ := w3.s kn (by simp [Cu]; lia)
     rw [hkn] at e1
     cases e1
   have kg : kn ∉ Cu g := fun z => by
    obtain ⟨o1, e1⟩ := (fu2.same s3).nw.s kn z
    rw [hkn] at e1
    cases e1
   obtain ⟨r0, e0⟩ := fu4.g0
   obtain ⟨S, m1, m2, clo, lS, lC⟩ : ∃ S : List Nat, w' ∈ S /\ (∀ j, j <= 48 -> bareN j ∈ S) /\ Clo G2 S /\ S.length <= B + 200 /\ 17 * S.length + 50 <= C := by
    rcases hC with ⟨rfl, hC⟩ | hC
    ·have e1 := Classical.choose_spec fu1.g0
     have eb := Qu e1 fu1.ok (by lia) (Cq e1 (n := n + 1) (by lia)) wi lw
     obtain ⟨S, h1, h2, h3, h4⟩ := ((MA e1 fu1.ok (j := n + j + 1) (by lia)).app go2).ex
     obtain ⟨S0, q1, q2, q3, q4⟩ := fs.ex
     exact ⟨S, by rw [eb]; exact h1, h2, h3, by lia, by lia⟩
    ·obtain ⟨S, h1, h2, h3, h4⟩ := (((FS.widN (n := n) (B := B) (f := f') (Classical.choose_spec fu1.g0) fu1.ok (fs.app go1) (by lia) wi)).app go2).ex
     exact ⟨S, h1, h2, h3, by lia, by lia⟩
   have p2 := Ff (n + j)
   have e2 : (2 : Int) ^ (n + j + 1) = 2 ^ (n + j) + 2 ^ (n + j) := by rw [Int.pow_succ]; lia
   have liw' := liw
   unfold BU at liw'
   have sx : GE (x + 2 ^ (n + j)) (x + 2 ^ (n + j) + wd) (n + j + 1) (x + 2 ^ (n + j)) (x + 2 ^ (n + j) + wd) := GE.top (by lia) (by lia) (by lia)
   have sy : GE (y + 2 ^ (n + j)) (y + 2 ^ (n + j) + ht) (n + j + 1) (y + 2 ^ (n + j)) (y + 2 ^ (n + j) + ht) := GE.top (by lia) (by lia) (by lia)
   refine ⟨g, G2, ⟨st, S, x + 2 ^ (n + j), x + 2 ^ (n + j) + wd, y + 2 ^ (n + j), y + 2 ^ (n + j) + ht, false⟩, kn, tp, [], i, w', n + j + 1, x + 2 ^ (n + j), y + 2 ^ (n + j), x + 2 ^ (n + j) + wd, y + 2 ^ (n + j) + ht, rfl, fu4, na, kg, htp4, kok0 _ _, clo, s8, ⟨Sol.lev fu2.ok s8 so2, lw2, so2, m1⟩, by lia, by lia, ⟨by lia, by lia, by lia, by lia⟩, fun _ => sx, fun _ => sy, ⟨by show G2.length + 16 * S.length < 8000000 + 0; lia, by show 16 * S.length < 4000000; lia⟩, fun m G5 kvs5 H5 x5 fu5 na5 kok5 le5 go5 un5 mx5 => ?_⟩
   have l5 := kok5.len fu5.ok
   have l5 : kvs5.length <= 16 * S.length := l5
   have g5 := go5.few
   have g5 : G5.length <= G2.length + (kvs5.length - 0) := g5
   refine ⟨g, G5, m, n + j, rfl, fu5, mx5.lev, by lia, fun r G6 H6 fr6 fu6 go6 tr6 => ?_⟩
   have g6 := go6.few
   obtain ⟨r6, e6⟩ := fu6.g0
   obtain ⟨m6, hm6, lm6, tm6, em6⟩ := FJ e6 fu6.ok (by lia) (go6.lev mx5.lev) tr6
   have go26 : AG G2 G6 (kvs5.length - 0 + 48) := go5.trans go6
   have goA : AG G G6 (16 * B + 4000) := ((go1.trans go2).trans go26).mono (by lia)
   have md : OA G5 ⟨st, S, x + 2 ^ (n + j), x + 2 ^ (n + j) + wd, y + 2 ^ (n + j), y + 2 ^ (n + j) + ht, false⟩ m := ⟨_, n + j + 1, i, w', _, _, _, _, ⟨rfl, ⟨go5.lev (Sol.lev fu2.ok s8 so2), go5.lev lw2, Sol.goes go5 so2, m1⟩, mx5, sx, sy⟩⟩
   have fs5 := fs_mix fu5.ok (clo.app go5) m2 md s8 (fun z => nomatch z)
   have fs5 : FS G5 m (17 * S.length) := fs5
   refine k r m6 G6 H6 ?_ fu6 goA lm6 (by lia) tm6 (fun u v => ?_) (((fs5.app go6).trim fu6.ok tr6).mono (by lia))
   ·intro bb oo e n1 n2 n3
    have q1 := fr2 _ _ (fr1 _ _ e n1 n2 n3) n1 n2 n3
    have q2 := s4 _ _ (s3 _ _ q1)
    have q3 := x5.get (b := bb) (by
     simp only [frM, List.mem_cons, List.not_mem_nil, or_false, not_or]
     exact ⟨n1, n2, n3, fun z => by rw [z, nkn] at e; cases e⟩) q2
    exact fr6 _ _ q3 n1 n2 n3
   ·obtain ⟨ra, ea⟩ := fu1.g0
    rw [em6 u v, Dy fu5.ok go6 mx5.lev, Qb fu5.ok s8 (Sol.goes go5 so2) liw mx5, Dy fu2.ok go5 lw2, Dy fu1.ok go2 lw, EQ ea fu1.ok (by lia) wi, Dy fu.ok go1 lf]
  ·have e : (decide (0 < wd) && decide (0 < ht)) = false := by
    by_cases z : 0 < wd
    ·rw [decide_eq_false (fun q => hp ⟨z, q⟩), Bool.and_false]
    ·rw [decide_eq_false z, Bool.false_and]
   rw [e]
   refine ⟨_, rfl, false, rfl, BC (BC ⟨_, rfl, (st : Int), rfl, by lia, by lia, true, rfl, BC ⟨_, rfl, false, rfl, Da ⟨_, rfl, ?_⟩⟩⟩)⟩
   have fsC : FS G f' C := by
    rcases hC with ⟨rfl, hC⟩ | hC
    ·exact (MA (Classical.choose_spec fu.g0) fu.ok (by lia)).mono (by lia)
    ·exact fs.mono (by lia)
   refine k f' n G H (Fr.refl g H) fu ((AG.refl fu.ok).mono (by lia)) lf n40 tr (fun u v => ?_) fsC
   rw [if_neg]
   unfold InB
   lia
end
end J
namespace J
open PySem L2
theorem OP {b : Nat} (h : b <= 40) : (2 : Int) ^ b <= 2 ^ 40 := by
 have := Nat.pow_le_pow_right (show 0 < 2 by decide) h
 exact_mod_cast this
section
variable {P : Program} {w : World} {K : PySem.W.Frag} {mg : Str -> Option Value} {base : Heap} {a : Ad}
end
end J
namespace J
open PySem L2
def stC : List Cl -> Int -> Int -> Nat
 | [], _, _ => 0
 | c :: cs, x, y => if x = c.x /\ y = c.y then c.s else stC cs x y
theorem Qm {G r0 : Gv} (e0 : G = G0 ++ r0) (ok : GOk G) {cs : List Cl} {n f : Nat} (h : MF G cs n f) : (∀ c ∈ cs, c.s < 8) -> Ik G n f /\ ∀ x y, AF G n f x y = stC cs x y := by
 induction h with
 | nil =>
  intro _
  refine ⟨.inl rfl, fun x y => ?_⟩
  unfold AF
  split
  ·rename_i z
   exact Cp e0 ok (by decide) (CZ z.1 z.2.1) (CZ z.2.2.1 z.2.2.2)
  ·rfl
 | @cons cs c n f r k w i m h l p l' ih =>
  intro hs
  obtain ⟨t, e⟩ := ih fun c hc => hs c (List.mem_cons_of_mem _ hc)
  obtain ⟨m', _, lm, tm, em⟩ := Na e0 ok (hs c (List.mem_cons_self ..)) p
  have : m' = m := by
   have := Int.ofNat.inj (lm.uniq l')
   lia
  subst this
  refine ⟨tm, fun x y => ?_⟩
  rw [em x y, e x y]
  rfl
structure Vl (G : Gv) (f : Nat) (φ : Int -> Int -> Nat) (B : Nat) : Prop where
 ex : ∃ n : Nat, (Ao G f ((n + 1 : Nat) : Int) /\ Ik G n f /\ n <= 40) /\ ∀ u v, AF G n f u v = φ u v
 fs : FS G f B
theorem Vl.app {G G' : Gv} {k f B : Nat} {φ : Int -> Int -> Nat} (ok : GOk G) (go : AG G G' k) (h : Vl G f φ B) : Vl G' f φ B := by
 obtain ⟨n, ⟨h1, h2, h3⟩, h4⟩ := h.ex
 exact ⟨⟨n, ⟨go.lev h1, h2.app go, h3⟩, fun u v => by rw [Dy ok go h1]; exact h4 u v⟩, h.fs.app go⟩
structure Bo where
 x : Int
 y : Int
 wd : Int
 ht : Int
def BoAt (H : Hp) (t : Addr) (q : Bo) : Prop := H t = some (.tup [.int q.x, .int q.y, .int q.wd, .int q.ht])
def GD (q : Bo) (s : Nat) (φ : Int -> Int -> Nat) (u v : Int) : Nat := if InB q.x q.y q.wd q.ht u v then s else φ u v
section
variable {P : Program} {w : World} {K : PySem.W.Frag} {mg : Str -> Option Value} {base : Heap} {a : Ad}
theorem fill_c {g : GA} {G : Gv} {H : Hp} {Q : VK} {E : XK} {f s B C : Nat} {φ : Int -> Int -> Nat} {t : Addr} {q : Bo} (fu : AO a H g G) (h : Vl G f φ B) (hb : BoAt H t q) (w0 : 0 <= q.wd) (h0 : 0 <= q.ht) (far : 0 < q.wd -> 0 < q.ht -> BU q.x q.y q.wd q.ht (2 ^ 40)) (s8 : s < 8) (hC : ∀ n : Nat, Ao G f ((n + 1 : Nat) : Int) -> (f = bareN (n + 1) /\ 900 <= C) \/ 17 * B + 4000 <= C) (hB : B <= 200000) (few : G.length + 16 * B < 7500000) (k : ∀ (r : Nat) (G' : Gv) (H' : Hp), Fr g H H' -> AO a H' g G' -> AG G G' (16 * B + 4000) -> Vl G' r (GD q s φ) C -> Q (.int r) H') : Jw a [.ref g.p, .int f, .ref t, .int s] H Q E := by
 obtain ⟨n, ⟨h1, h2, h3⟩, h4⟩ := h.ex
 refine ⟨g, G, f, n, t, q.x, q.y, q.wd, q.ht, s, B, C, rfl, fu, h1, h3, h2, hb, w0, h0, far, s8, h.fs, hC n h1, hB, few, fun r m G' H' fr fu' go lr m40 tr e fs => k r G' H' fr fu' go ⟨⟨m, ⟨lr, tr, m40⟩, fun u v => ?_⟩, fs⟩⟩
 rw [e u v]
 unfold GD
 split
 ·rfl
 ·exact h4 u v
end
end J
namespace J
open PySem L2
section
variable {P : Program} {w : World} {K : PySem.W.Frag} {mg : Str -> Option Value} {base : Heap} {a : Ad}
end
end J
namespace J
open PySem L2
structure Fd (G : Gv) (n f : Nat) : Prop where
 lev : Ao G f ((n + 1 : Nat) : Int)
 tr : Ik G n f
 le : n <= 40
theorem Fd.app {G G' : Gv} {k n f : Nat} (go : AG G G' k) (h : Fd G n f) : Fd G' n f := ⟨go.lev h.lev, h.tr.app go, h.le⟩
section
variable {P : Program} {w : World} {K : PySem.W.Frag} {mg : Str -> Option Value} {base : Heap} {a : Ad}
end
end J
namespace J
open PySem L2
def FrO (d : Addr) (H H' : Hp) : Prop := ∀ b o, H b = some o -> b ≠ d -> H' b = some o
theorem FrO.trans {d : Addr} {H1 H2 H3 : Hp} (h : FrO d H1 H2) (h2 : FrO d H2 H3) : FrO d H1 H3 := fun b o e n => h2 b o (h b o e n) n
theorem AB.frO {d : Addr} {H1 H2 : Hp} (h : AB H1 H2) : FrO d H1 H2 := fun b o e _ => h b o e
section
variable {P : Program} {w : World} {K : PySem.W.Frag} {mg : Str -> Option Value} {base : Heap} {a : Ad}
end
end J
namespace J
open PySem L2
end J
namespace J
open PySem L2
def kvC (ds : List Cl) : List (List Key × V) := ds.map fun c => (kOf [c.x, c.y], V.int (c.s : Int))
theorem Ih : ∀ {ds : List Cl}, (ds.map fun c => (c.x, c.y)).Nodup -> ∀ {c : Cl}, c ∈ ds -> Bv (kvC ds) (kOf [c.x, c.y]) = some (.int (c.s : Int))
 | d :: ds, nd, c, hc => by
  rw [List.map_cons, List.nodup_cons] at nd
  show Bv ((kOf [d.x, d.y], V.int (d.s : Int)) :: kvC ds) (kOf [c.x, c.y]) = _
  rcases List.mem_cons.mp hc with rfl | hc
  ·exact Bz rfl
  ·rw [Bc fun z => ?_]
   ·exact Ih nd.2 hc
   ·have z := Ii z
    injection z with z1 z
    injection z with z2 z
    exact nd.1 (List.mem_map.mpr ⟨c, hc, by rw [z1, z2]⟩)
def GX (ds : List Cl) (c : Cl) : List Cl := if ds.any (fun d => decide (d.x = c.x /\ d.y = c.y)) = true then ds.map (fun d => if d.x = c.x /\ d.y = c.y then c else d) else ds ++ [c]
theorem RD {ds : List Cl} {c d : Cl} : d ∈ GX ds c ↔ d = c \/ (d ∈ ds /\ ¬ (d.x = c.x /\ d.y = c.y)) := by
 unfold GX
 by_cases h : ds.any (fun d => decide (d.x = c.x /\ d.y = c.y)) = true
 ·rw [if_pos h, List.mem_map]
  obtain ⟨z, hz, ez⟩ := List.any_eq_true.mp h
  have ez := of_decide_eq_true ez
  constructor
  ·rintro ⟨e, he, rfl⟩
   by_cases q : e.x = c.x /\ e.y = c.y
   ·rw [if_pos q]
    exact .inl rfl
   ·rw [if_neg q]
    exact .inr ⟨he, q⟩
  ·rintro (rfl | ⟨hd, q⟩)
   ·exact ⟨z, hz, if_pos ez⟩
   ·exact ⟨d, hd, if_neg q⟩
 ·rw [if_neg h, List.mem_append, List.mem_singleton]
  have no : ∀ e ∈ ds, ¬ (e.x = c.x /\ e.y = c.y) := fun e he q => h (List.any_eq_true.mpr ⟨e, he, decide_eq_true q⟩)
  constructor
  ·rintro (hd | rfl)
   ·exact .inr ⟨hd, no d hd⟩
   ·exact .inl rfl
  ·rintro (rfl | ⟨hd, _⟩)
   ·exact .inr rfl
   ·exact .inl hd
theorem RG (ds : List Cl) (c : Cl) : (GX ds c).length <= ds.length + 1 := by
 unfold GX
 split
 ·rw [List.length_map]
  lia
 ·rw [List.length_append]
  exact Nat.le_refl _
theorem nd_putC {ds : List Cl} {c : Cl} (h : (ds.map fun c => (c.x, c.y)).Nodup) : ((GX ds c).map fun c => (c.x, c.y)).Nodup := by
 unfold GX
 by_cases q : ds.any (fun d => decide (d.x = c.x /\ d.y = c.y)) = true
 ·rw [if_pos q, List.map_map]
  have : ((fun c : Cl => (c.x, c.y)) ∘ fun d => if d.x = c.x /\ d.y = c.y then c else d) = fun d => (d.x, d.y) := by
   funext d
   show ((if d.x = c.x /\ d.y = c.y then c else d).x, (if d.x = c.x /\ d.y = c.y then c else d).y) = (d.x, d.y)
   split
   ·rename_i z
    rw [z.1, z.2]
   ·rfl
  rw [this]
  exact h
 ·rw [if_neg q, List.map_append, List.nodup_append]
  refine ⟨h, by simp, fun a ha b hb e => q ?_⟩
  obtain ⟨d, hd, rfl⟩ := List.mem_map.mp ha
  rw [List.map_cons, List.map_nil, List.mem_singleton] at hb
  rw [hb] at e
  injection e with e1 e2
  exact List.any_eq_true.mpr ⟨d, hd, decide_eq_true ⟨e1, e2⟩⟩
theorem kv_putC (ds : List Cl) (c : Cl) : Di (kvC ds) (kOf [c.x, c.y]) (.int (c.s : Int)) = kvC (GX ds c) := by
 have key : ∀ d : Cl, (kOf [d.x, d.y] = kOf [c.x, c.y]) ↔ (d.x = c.x /\ d.y = c.y) := fun d => ⟨fun z => by
  have z := Ii z
  injection z with z1 z
  injection z with z2 z
  exact ⟨z1, z2⟩, fun z => by rw [z.1, z.2]⟩
 unfold Di GX kvC
 rw [List.any_map]
 have : ((fun kv : List Key × V => decide (kv.1 = kOf [c.x, c.y])) ∘ fun c : Cl => (kOf [c.x, c.y], V.int (c.s : Int))) = fun d => decide (d.x = c.x /\ d.y = c.y) := by
  funext d
  exact decide_eq_decide.mpr (key d)
 rw [this]
 split
 ·rw [List.map_map, List.map_map]
  congr 1
  funext d
  show (if kOf [d.x, d.y] = kOf [c.x, c.y] then (kOf [d.x, d.y], V.int (c.s : Int)) else (kOf [d.x, d.y], V.int (d.s : Int))) = (kOf [(if d.x = c.x /\ d.y = c.y then c else d).x, (if d.x = c.x /\ d.y = c.y then c else d).y], V.int ((if d.x = c.x /\ d.y = c.y then c else d).s : Int))
  by_cases q : d.x = c.x /\ d.y = c.y
  ·rw [if_pos ((key d).mpr q), if_pos q, q.1, q.2]
  ·rw [if_neg fun z => q ((key d).mp z), if_neg q]
 ·rw [List.map_append]
  rfl
theorem dput {H : Hp} {D t : Addr} {ds : List Cl} {c : Cl} (e : H D = some (.dT (kvC ds))) (ht : H t = some (.tup [.int c.x, .int c.y])) (hl : ds.length < 1000) : IW H D (.ref t) (.int (c.s : Int)) (upd H D (.dT (kvC (GX ds c)))) := by
 rw [<- kv_putC]
 exact IW.t (k := kOf [c.x, c.y]) e ht (EC (by rw [show (kvC ds).length = ds.length from List.length_map _]; lia))
end J
namespace J
open PySem L2
theorem FrO.fx {dd : Addr} {H H' : Hp} {kvs : List (List Key × V)} (rd : Rd H dd (.dT kvs)) (f : FrO dd H H') : Fx [dd] H H' := fun b o e z => by
 refine f b o e fun q => ?_
 subst q
 have z := z (List.mem_singleton.mpr rfl)
 rcases rd with rd | ⟨oo, rd⟩ <;> rw [e] at rd <;> cases rd <;> exact z
structure GQ (ds : List Cl) (φ : Int -> Int -> Nat) : Prop where
 nd : (ds.map fun c => (c.x, c.y)).Nodup
 mem : ∀ c : Cl, c ∈ ds ↔ (1 <= c.s /\ φ c.x c.y = c.s)
theorem Ja : ∀ (cs : List Cl) (x y : Int), (∃ c ∈ cs, c.x = x /\ c.y = y /\ stC cs x y = c.s) \/ ((∀ c ∈ cs, ¬ (c.x = x /\ c.y = y)) /\ stC cs x y = 0)
 | [], _, _ => .inr ⟨(fun c hc => nomatch hc), rfl⟩
 | c :: cs, x, y => by
  by_cases z : x = c.x /\ y = c.y
  ·exact .inl ⟨c, List.mem_cons_self, z.1.symm, z.2.symm, if_pos z⟩
  ·have e : stC (c :: cs) x y = stC cs x y := if_neg z
   rw [e]
   rcases Ja cs x y with ⟨d, hd, h⟩ | ⟨h1, h2⟩
   ·exact .inl ⟨d, List.mem_cons_of_mem _ hd, h⟩
   ·refine .inr ⟨fun d hd => ?_, h2⟩
    rcases List.mem_cons.mp hd with rfl | hd
    ·exact fun q => z ⟨q.1.symm, q.2.symm⟩
    ·exact h1 d hd
theorem stC_ds {ds : List Cl} {φ : Int -> Int -> Nat} (h : GQ ds φ) (x y : Int) : stC ds x y = φ x y := by
 rcases Ja ds x y with ⟨c, hc, rfl, rfl, e⟩ | ⟨h1, h2⟩
 ·rw [e, ((h.mem c).mp hc).2]
 ·rw [h2]
  refine Classical.byContradiction fun z => h1 ⟨x, y, φ x y⟩ ((h.mem _).mpr ⟨by show 1 <= φ x y; lia, rfl⟩) ⟨rfl, rfl⟩
section
variable {P : Program} {w : World} {K : PySem.W.Frag} {mg : Str -> Option Value} {base : Heap} {a : Ad}
theorem Pg {g : GA} {G : Gv} {H : Hp} {Q : VK} {E : XK} {f s B : Nat} {φ : Int -> Int -> Nat} {t : Addr} {q : Bo} (fu : AO a H g G) (h : Vl G f φ B) (hb : BoAt H t q) (w0 : 0 <= q.wd) (h0 : 0 <= q.ht) (far : 0 < q.wd -> 0 < q.ht -> BU q.x q.y q.wd q.ht (2 ^ 40)) (s8 : s < 8) (hB : B <= 200000) (few : G.length + 16 * B < 7500000) (k : ∀ (r : Nat) (G' : Gv) (H' : Hp), Fr g H H' -> AO a H' g G' -> AG G G' (16 * B + 4000) -> Vl G' r (GD q s φ) (17 * B + 4000) -> Q (.int r) H') : Jw a [.ref g.p, .int f, .ref t, .int s] H Q E := fill_c fu h hb w0 h0 far s8 (fun _ _ => .inr (Nat.le_refl _)) hB few k
end
end J
namespace J
open PySem L2
structure CF (L : Int -> Int -> Prop) (b : Bx) : Prop where
 inn : ∀ u v, L u v -> b.l <= u /\ u < b.l + b.w /\ b.t <= v /\ v < b.t + b.h
 le : ∃ v, L b.l v
 to : ∃ u, L u b.t
 ri : ∃ v, L (b.l + b.w - 1) v
 bo : ∃ u, L u (b.t + b.h - 1)
theorem CF.one {L : Int -> Int -> Prop} {b c : Bx} (h : CF L b) (h' : CF L c) : b = c := by
 obtain ⟨v1, a1⟩ := h.le
 obtain ⟨v2, a2⟩ := h.to
 obtain ⟨v3, a3⟩ := h.ri
 obtain ⟨v4, a4⟩ := h.bo
 obtain ⟨w1, c1⟩ := h'.le
 obtain ⟨w2, c2⟩ := h'.to
 obtain ⟨w3, c3⟩ := h'.ri
 obtain ⟨w4, c4⟩ := h'.bo
 have i1 := h'.inn _ _ a1
 have i2 := h'.inn _ _ a2
 have i3 := h'.inn _ _ a3
 have i4 := h'.inn _ _ a4
 have j1 := h.inn _ _ c1
 have j2 := h.inn _ _ c2
 have j3 := h.inn _ _ c3
 have j4 := h.inn _ _ c4
 cases b
 cases c
 simp only at *
 congr 1 <;> lia
theorem CF.congr {L M : Int -> Int -> Prop} {b : Bx} (e : ∀ u v, L u v ↔ M u v) (h : CF L b) : CF M b := by
 obtain ⟨v1, a1⟩ := h.le
 obtain ⟨v2, a2⟩ := h.to
 obtain ⟨v3, a3⟩ := h.ri
 obtain ⟨v4, a4⟩ := h.bo
 exact ⟨fun u v m => h.inn u v ((e u v).mpr m), ⟨v1, (e _ _).mp a1⟩, ⟨v2, (e _ _).mp a2⟩, ⟨v3, (e _ _).mp a3⟩, ⟨v4, (e _ _).mp a4⟩⟩
theorem Nr {l : List Int} (h : l ≠ []) : mnL l ∈ l /\ ∀ x ∈ l, mnL l <= x := by
 unfold mnL
 cases e : l.min? with
 | none => exact absurd (List.min?_eq_none_iff.mp e) h
 | some m => exact List.min?_eq_some_iff.mp e
theorem Nq {l : List Int} (h : l ≠ []) : mxL l ∈ l /\ ∀ x ∈ l, x <= mxL l := by
 unfold mxL
 cases e : l.max? with
 | none => exact absurd (List.max?_eq_none_iff.mp e) h
 | some m => exact List.max?_eq_some_iff.mp e
theorem PJ {L : Int -> Int -> Prop} {bs : List Bx} (ne : bs ≠ []) (h1 : ∀ b ∈ bs, ∃ M : Int -> Int -> Prop, CF M b /\ ∀ u v, M u v -> L u v) (h2 : ∀ u v, L u v -> ∃ b ∈ bs, b.l <= u /\ u < b.l + b.w /\ b.t <= v /\ v < b.t + b.h) : CF L (JQ bs) := by
 have n1 : bs.map (·.l) ≠ [] := fun z => ne (List.map_eq_nil_iff.mp z)
 have n2 : bs.map (·.t) ≠ [] := fun z => ne (List.map_eq_nil_iff.mp z)
 have n3 : (bs.map fun b => b.l + b.w) ≠ [] := fun z => ne (List.map_eq_nil_iff.mp z)
 have n4 : (bs.map fun b => b.t + b.h) ≠ [] := fun z => ne (List.map_eq_nil_iff.mp z)
 obtain ⟨m1, a1⟩ := Nr n1
 obtain ⟨m2, a2⟩ := Nr n2
 obtain ⟨m3, a3⟩ := Nq n3
 obtain ⟨m4, a4⟩ := Nq n4
 obtain ⟨b1, hb1, e1⟩ := List.mem_map.mp m1
 obtain ⟨b2, hb2, e2⟩ := List.mem_map.mp m2
 obtain ⟨b3, hb3, e3⟩ := List.mem_map.mp m3
 obtain ⟨b4, hb4, e4⟩ := List.mem_map.mp m4
 unfold JQ
 refine ⟨fun u v q => ?_, ?_, ?_, ?_, ?_⟩
 ·obtain ⟨b, hb, q1, q2, q3, q4⟩ := h2 u v q
  have c1 := a1 _ (List.mem_map.mpr ⟨b, hb, rfl⟩)
  have c2 := a2 _ (List.mem_map.mpr ⟨b, hb, rfl⟩)
  have c3 := a3 _ (List.mem_map.mpr ⟨b, hb, rfl⟩)
  have c4 := a4 _ (List.mem_map.mpr ⟨b, hb, rfl⟩)
  dsimp only at c1 c2 c3 c4 ⊢
  lia
 ·obtain ⟨M, t, s⟩ := h1 b1 hb1
  obtain ⟨v, x⟩ := t.le
  exact ⟨v, by rw [e1] at x; exact s _ _ x⟩
 ·obtain ⟨M, t, s⟩ := h1 b2 hb2
  obtain ⟨v, x⟩ := t.to
  exact ⟨v, by rw [e2] at x; exact s _ _ x⟩
 ·obtain ⟨M, t, s⟩ := h1 b3 hb3
  obtain ⟨v, x⟩ := t.ri
  refine ⟨v, ?_⟩
  dsimp only at e3 ⊢
  rw [e3] at x
  have := s _ _ x
  rw [show mnL (bs.map (·.l)) + (mxL (bs.map fun b => b.l + b.w) - mnL (bs.map (·.l))) - 1 = mxL (bs.map fun b => b.l + b.w) - 1 by lia]
  exact this
 ·obtain ⟨M, t, s⟩ := h1 b4 hb4
  obtain ⟨v, x⟩ := t.bo
  refine ⟨v, ?_⟩
  dsimp only at e4 ⊢
  rw [e4] at x
  have := s _ _ x
  rw [show mnL (bs.map (·.t)) + (mxL (bs.map fun b => b.t + b.h) - mnL (bs.map (·.t))) - 1 = mxL (bs.map fun b => b.t + b.h) - 1 by lia]
  exact this
theorem JO {half : Int} {b : Bx} : ∀ {obs : List (Option Bx)} {k : Nat}, b ∈ DB half k obs ↔ ∃ (j : Nat) (c : Bx), obs[j]? = some (some c) /\ b = shB half (k + j) c
 | [], k => ⟨(fun h => by cases h), (fun h => by obtain ⟨j, c, h, _⟩ := h; simp at h)⟩
 | none :: r, k => by
  rw [show DB half k (none :: r) = DB half (k + 1) r from rfl, JO]
  constructor
  ·rintro ⟨j, c, h, e⟩
   exact ⟨j + 1, c, by simpa using h, by rw [e, show k + 1 + j = k + (j + 1) by lia]⟩
  ·rintro ⟨j, c, h, e⟩
   cases j with
   | zero => simp at h
   | succ j => exact ⟨j, c, by simpa using h, by rw [e, show k + 1 + j = k + (j + 1) by lia]⟩
 | some d :: r, k => by
  rw [show DB half k (some d :: r) = shB half k d :: DB half (k + 1) r from rfl, List.mem_cons, JO]
  constructor
  ·rintro (h | ⟨j, c, h, e⟩)
   ·exact ⟨0, d, rfl, h⟩
   ·exact ⟨j + 1, c, by simpa using h, by rw [e, show k + 1 + j = k + (j + 1) by lia]⟩
  ·rintro ⟨j, c, h, e⟩
   cases j with
   | zero =>
    have h : d = c := by simpa using h
    subst h
    exact .inl e
   | succ j => exact .inr ⟨j, c, by simpa using h, by rw [e, show k + 1 + j = k + (j + 1) by lia]⟩
def Lv (G : Gv) (n i : Nat) (u v : Int) : Prop := ∃ a b : Nat, u = a /\ v = b /\ a < 2 ^ n /\ b < 2 ^ n /\ BZ G n i a b ≠ 0
theorem OW {G : Gv} {n i : Nat} {q : Sq} {a b c d : Nat} (nd : Ce G n i q a b c d) (u v : Int) : Lv G (n + 1) i u v ↔ ∃ k, k < 4 /\ Lv G n (f4 a b c d k) (u - 2 ^ n * ((k : Int) % 2)) (v - 2 ^ n * ((k : Int) / 2)) := by
 have cc := DJ n
 constructor
 ·rintro ⟨x, y, rfl, rfl, hx, hy, ne⟩
  rw [AR nd hx hy] at ne
  have x2 := Bg hx
  have y2 := Bg hy
  refine ⟨quad n x y, BT hx hy, x % 2 ^ n, y % 2 ^ n, ?_, ?_, Nat.mod_lt _ (AA n), Nat.mod_lt _ (AA n), ne⟩
  ·have e := Nat.div_add_mod x (2 ^ n)
   have q2 : ((quad n x y : Nat) : Int) % 2 = ((x / 2 ^ n : Nat) : Int) := by
    unfold quad
    generalize x / 2 ^ n = A at *
    generalize y / 2 ^ n = B at *
    lia
   rw [q2, <- cc, <- Int.natCast_mul]
   lia
  ·have e := Nat.div_add_mod y (2 ^ n)
   have q2 : ((quad n x y : Nat) : Int) / 2 = ((y / 2 ^ n : Nat) : Int) := by
    unfold quad
    generalize x / 2 ^ n = A at *
    generalize y / 2 ^ n = B at *
    lia
   rw [q2, <- cc, <- Int.natCast_mul]
   lia
 ·rintro ⟨k, hk, x, y, ex, ey, hx, hy, ne⟩
  obtain ⟨h1, h2, h3, h4, h5⟩ := Do hk hx hy
  refine ⟨x + 2 ^ n * (k % 2), y + 2 ^ n * (k / 2), ?_, ?_, h1, h2, ?_⟩
  ·rw [Int.natCast_add, Int.natCast_mul, cc, show ((k % 2 : Nat) : Int) = (k : Int) % 2 from rfl]
   lia
  ·rw [Int.natCast_add, Int.natCast_mul, cc, show ((k / 2 : Nat) : Int) = (k : Int) / 2 from rfl]
   lia
  ·rw [AR nd h1 h2, h3, h4, h5]
   exact ne
theorem Lo {L : Int -> Int -> Prop} {b : Bx} {half : Int} {k : Nat} (h : CF L b) : CF (fun u v => L (u - half * ((k : Int) % 2)) (v - half * ((k : Int) / 2))) (shB half k b) := by
 obtain ⟨v1, a1⟩ := h.le
 obtain ⟨v2, a2⟩ := h.to
 obtain ⟨v3, a3⟩ := h.ri
 obtain ⟨v4, a4⟩ := h.bo
 unfold shB
 generalize half * ((k : Int) % 2) = p
 generalize half * ((k : Int) / 2) = q
 refine ⟨fun u v m => ?_, ⟨v1 + q, ?_⟩, ⟨v2 + p, ?_⟩, ⟨v3 + q, ?_⟩, ⟨v4 + p, ?_⟩⟩
 ·have := h.inn _ _ m
  dsimp only
  lia
 ·show L (b.l + p - p) (v1 + q - q)
  rw [Int.add_sub_cancel, Int.add_sub_cancel]
  exact a1
 ·show L (v2 + p - p) (b.t + q - q)
  rw [Int.add_sub_cancel, Int.add_sub_cancel]
  exact a2
 ·show L (b.l + p + b.w - 1 - p) (v3 + q - q)
  rw [Int.add_sub_cancel, show b.l + p + b.w - 1 - p = b.l + b.w - 1 by lia]
  exact a3
 ·show L (v4 + p - p) (b.t + q + b.h - 1 - q)
  rw [Int.add_sub_cancel, show b.t + q + b.h - 1 - q = b.t + b.h - 1 by lia]
  exact a4
theorem Gz {G : Gv} (ok : GOk G) : ∀ {n i : Nat} {b : Bx}, Ao G i (n : Int) -> BH G n i = some b -> CF (Lv G n i) b
 | 0, i, b, _, h => by
  have h : (if i = 0 then none else some (⟨0, 0, 1, 1⟩ : Bx)) = some b := h
  by_cases z : i = 0
  ·rw [if_pos z] at h
   cases h
  ·rw [if_neg z] at h
   cases h
   have l0 : Lv G 0 i 0 0 := ⟨0, 0, rfl, rfl, by decide, by decide, z⟩
   refine ⟨fun u v m => ?_, ⟨0, l0⟩, ⟨0, l0⟩, ⟨0, l0⟩, ⟨0, l0⟩⟩
   obtain ⟨x, y, rfl, rfl, hx, hy, _⟩ := m
   have hx : x < 1 := hx
   have hy : y < 1 := hy
   dsimp only
   lia
 | n + 1, i, b, l, h => by
  obtain ⟨q, a, b', c, d, nd⟩ := AX ok l
  rw [EO nd] at h
  have obs : ∀ k, k < 4 -> [BH G n a, BH G n b', BH G n c, BH G n d][k]? = some (BH G n (f4 a b' c d k)) := fun k hk => by
   match k, hk with
   | 0, _ => rfl
   | 1, _ => rfl
   | 2, _ => rfl
   | 3, _ => rfl
  have key : ∀ e, e ∈ DB (2 ^ n) 0 [BH G n a, BH G n b', BH G n c, BH G n d] ↔ ∃ k e', k < 4 /\ BH G n (f4 a b' c d k) = some e' /\ e = shB (2 ^ n) k e' := fun e => by
   rw [JO]
   constructor
   ·rintro ⟨j, c', hj, rfl⟩
    have j4 : j < 4 := (List.getElem?_eq_some_iff.mp hj).1
    rw [obs j j4] at hj
    exact ⟨j, c', j4, Option.some.inj hj, by rw [Nat.zero_add]⟩
   ·rintro ⟨k, e', hk, h1, rfl⟩
    exact ⟨k, e', by rw [obs k hk, h1], by rw [Nat.zero_add]⟩
  unfold Lc at h
  cases hg : DB (2 ^ n) 0 [BH G n a, BH G n b', BH G n c, BH G n d] with
  | nil => rw [hg] at h; cases h
  | cons e0 es =>
   rw [hg] at h
   have h := Option.some.inj h
   rw [hg] at key
   subst h
   refine PJ (by simp) (fun e he => ?_) fun u v m => ?_
   ·obtain ⟨k, e', hk, h1, rfl⟩ := (key e).mp he
    refine ⟨_, Lo (Gz ok (nd.nat hk).2 h1), fun u v m => (OW nd u v).mpr ⟨k, hk, m⟩⟩
   ·obtain ⟨k, hk, m⟩ := (OW nd u v).mp m
    cases hb : BH G n (f4 a b' c d k) with
    | none =>
     have c0 := (GB ok n _ (nd.nat hk).2).mp hb
     obtain ⟨x, y, _, _, hx, hy, ne⟩ := m
     exact absurd (cell_none ok (nd.nat hk).2 c0 hx hy) ne
    | some e' =>
     have t := Lo (half := 2 ^ n) (k := k) (Gz ok (nd.nat hk).2 hb)
     exact ⟨_, (key _).mpr ⟨k, e', hk, hb, rfl⟩, t.inn u v m⟩
where cell_none {G : Gv} (ok : GOk G) : ∀ {n i x y : Nat}, Ao G i (n : Int) -> Dp G n i = 0 -> x < 2 ^ n -> y < 2 ^ n -> BZ G n i x y = 0
 | 0, i, x, y, _, h, _, _ => by
  have h : (if i = 0 then (0 : Int) else 1) = 0 := h
  show i = 0
  by_cases z : i = 0
  ·exact z
  ·rw [if_neg z] at h
   lia
 | n + 1, i, x, y, l, h, hx, hy => by
  obtain ⟨q, a, b, c, d, nd⟩ := AX ok l
  have e := Gu nd
  have e : Dp G (n + 1) i = Dp G n a + (Dp G n b + (Dp G n c + (Dp G n d + 0))) := e
  have ea := EH G n a
  have eb := EH G n b
  have ec := EH G n c
  have ed := EH G n d
  have qk := BT hx hy
  rw [AR nd hx hy]
  refine cell_none ok (nd.nat qk).2 ?_ (Nat.mod_lt _ (AA n)) (Nat.mod_lt _ (AA n))
  generalize quad n x y = k at qk
  match k, qk with
  | 0, _ => show Dp G n a = 0; lia
  | 1, _ => show Dp G n b = 0; lia
  | 2, _ => show Dp G n c = 0; lia
  | 3, _ => show Dp G n d = 0; lia
end J
namespace J
open PySem L2
seal L2.PA L2.PE L2.PS L2.PSs L2.PT L2.PW
theorem Ny {G : Gv} {n f : Nat} (x y : Int) : Lv G (n + 1) f (x + 2 ^ n) (y + 2 ^ n) ↔ AF G n f x y ≠ 0 := by
 have c := DJ n
 have e := Gc n
 constructor
 ·rintro ⟨u, v, eu, ev, hu, hv, ne⟩
  unfold AF
  rw [if_pos ⟨by lia, by lia, by lia, by lia⟩, show (x + 2 ^ n).toNat = u by lia, show (y + 2 ^ n).toNat = v by lia]
  exact ne
 ·intro ne
  unfold AF at ne
  split at ne
  ·rename_i z
   obtain ⟨z1, z2, z3, z4⟩ := z
   exact ⟨(x + 2 ^ n).toNat, (y + 2 ^ n).toNat, by lia, by lia, CZ z1 z2, CZ z3 z4, ne⟩
  ·exact absurd rfl ne
def mvB (r : Int) (b : Bx) : Bx := ⟨b.l + -r, b.t + -r, b.w, b.h⟩
theorem FY {G : Gv} (ok : GOk G) {n f : Nat} (l : Ao G f ((n + 1 : Nat) : Int)) {b : Bx} (h : BH G (n + 1) f = some b) : CF (fun x y => AF G n f x y ≠ 0) (mvB (2 ^ n) b) := by
 have t := Gz ok l h
 obtain ⟨v1, a1⟩ := t.le
 obtain ⟨v2, a2⟩ := t.to
 obtain ⟨v3, a3⟩ := t.ri
 obtain ⟨v4, a4⟩ := t.bo
 have go : ∀ {u v : Int}, Lv G (n + 1) f u v -> AF G n f (u + -(2 ^ n)) (v + -(2 ^ n)) ≠ 0 := fun {u v} m => (Ny _ _).mp (by rw [show u + -(2 ^ n) + 2 ^ n = u by lia, show v + -(2 ^ n) + 2 ^ n = v by lia]; exact m)
 unfold mvB
 refine ⟨fun x y m => ?_, ⟨_, go a1⟩, ⟨_, go a2⟩, ⟨v3 + -(2 ^ n), ?_⟩, ⟨v4 + -(2 ^ n), ?_⟩⟩
 ·have := t.inn _ _ ((Ny x y).mpr m)
  dsimp only
  lia
 ·have := go a3
  rw [show b.l + b.w - 1 + -(2 ^ n) = b.l + -(2 ^ n) + b.w - 1 by lia] at this
  exact this
 ·have := go a4
  rw [show b.t + b.h - 1 + -(2 ^ n) = b.t + -(2 ^ n) + b.h - 1 by lia] at this
  exact this
theorem JI {G : Gv} (ok : GOk G) {n f : Nat} (l : Ao G f ((n + 1 : Nat) : Int)) (h : BH G (n + 1) f = none) (x y : Int) : AF G n f x y = 0 := by
 have c := (GB ok _ _ l).mp h
 unfold AF
 split
 ·rename_i z
  exact Gz.cell_none ok l c (CZ z.1 z.2.1) (CZ z.2.2.1 z.2.2.2)
 ·rfl
section
variable {P : Program} {w : World} {K : PySem.W.Frag} {mg : Str -> Option Value} {base : Heap} {a : Ad}
inductive Px (a : Ad) (vs : List V) (H : Hp) (Q : VK) : Prop
 | mk (g : GA) (G : Gv) (f n : Nat) (_ : vs = [.ref g.p, .int f]) (_ : AO a H g G) (_ : Ao G f ((n + 1 : Nat) : Int)) (_ : n < 48) (_ : G.length < 8000000) (_ : (BH G (n + 1) f = none -> ∀ H', FrQ g H H' -> AO a H' g G -> Q .non H')) (_ : ∀ b, BH G (n + 1) f = some b -> ∀ t H', FrQ g H H' -> AO a H' g G -> IE H' t (mvB (2 ^ n) b) -> Q (.ref t) H') : Px a vs H Q
def Jf (a : Ad) : Sp := fun vs H Q _ => Px a vs H Q
theorem Rq {f : Addr} {fd : FuncData} (F : Fun K "box_of" "box_of" Fu f fd) (T : Top K mg a) (M_Grove_span : CM P w K mg base CX0 101 a.c_Grove "span" DN (NS a)) (C_reach_of : Cal P w K mg base CX0 4 "reach_of" Ct (FL a)) (C_shifted_box : Cal P w K mg base CX0 1 "shifted_box" BJ Gp) : AY P w K mg base CX0 102 f fd FC (Jf a) := by
 refine F.ok Im (fun vs H Q E h => ?_) (fun cdv A outer s H vs Q E hr h => ?_)
 ·obtain ⟨g, G, f', n, rfl, _⟩ := h
  rfl
 ·obtain ⟨g, G, f', n, rfl, fu, lf, n48, few, k0, k1⟩ := h
  refine ⟨_, (Ab (Al (i := 2) Im.nd rfl (Or.inl rfl) (AU (pv 0) M_Grove_span (rm hr) Ar (Aa (pv 1) Ae))) (Ab (Bh (AL GM (pv 2) Fl (AM _)) (Aj (Aw Fl)) AD) (Ab (Al (i := 3) Im.nd rfl (Or.inl rfl) (As C_reach_of (rm hr) rfl Ar (Aa (pv 0) (Aa (pv 1) Ae)))) (Aj (Aw (As C_shifted_box (rm hr) rfl Ar (Aa (pv 2) (Aa (En CG (pv 3)) (Aa (En CG (pv 3)) Ae))))))))), ?_⟩
  try dsimp only [cxK]
  refine ⟨_, rfl, g.p, g.dx, _, rfl, fu.at'.hp, no_span g, _, rfl, g, G, f', n + 1, rfl, fu, lf, by lia, fun hn H1 fr1 fu1 => ?_, fun b hb t H1 fr1 fu1 ht => ?_⟩
  ·exact ⟨_, rfl, rfl, _, rfl, Da (k0 hn H1 fr1 fu1)⟩
  ·refine ⟨_, rfl, rfl, _, rfl, BC ?_⟩
   refine ⟨_, rfl, _, rfl, g, G, f', n, rfl, fu1.at', lf, n48, ?_⟩
   refine ⟨_, rfl, _, rfl, _, rfl, _, rfl, _, rfl, t, b, _, _, rfl, ht, fun t' ht' => ?_⟩
   have s2 := An (o := .tup [.int (b.l + -(2 ^ n)), .int (b.t + -(2 ^ n)), .int b.w, .int b.h]) ht'
   exact k1 b hb t' _ (fr1.trans (AB.frq s2)) (fu1.same s2) Ai
end
end J
namespace J
open PySem L2
structure Sc where
 Φ : Nat -> Nat -> Nat
 R : Nat
 D : Nat
 M : Nat
 cl : Nat -> Nat -> Nat -> Nat
def NE (Φ : Nat -> Nat -> Nat) (n i j : Nat) : Prop := ∃ x y, x < 2 ^ (n + 1) /\ y < 2 ^ (n + 1) /\ Φ (i * 2 ^ n + x) (j * 2 ^ n + y) ≠ 0
structure NN (c : Sc) : Prop where
 lt : ∀ n i j, n <= 48 -> NE c.Φ n i j -> c.cl n i j < c.M
 same : ∀ n i j i' j', n <= 48 -> NE c.Φ n i j -> NE c.Φ n i' j' -> c.cl n i j = c.cl n i' j' -> ∀ x y, x < 2 ^ (n + 1) -> y < 2 ^ (n + 1) -> c.Φ (i * 2 ^ n + x) (j * 2 ^ n + y) = c.Φ (i' * 2 ^ n + x) (j' * 2 ^ n + y)
def mk1 (R n x : Nat) : Prop := R % 2 ^ n ≠ 0 \/ x < 2 ^ n
structure Ag (G : Gv) (c : Sc) (n i j : Nat) (q : Nat -> Nat) : Prop where
 lev : ∀ k, k < 4 -> Ao G (q k) (n : Int)
 ag : ∀ x y, x < 2 ^ (n + 1) -> y < 2 ^ (n + 1) -> mk1 c.R n x -> mk1 c.D n y -> BZ G n (q (quad n x y)) (x % 2 ^ n) (y % 2 ^ n) = c.Φ (i * 2 ^ n + x) (j * 2 ^ n + y)
structure QAt (G : Gv) (c : Sc) (n i j : Nat) (q : Nat -> Nat) : Prop where
 a : Ag G c n i j q
 off : ∀ x y, x < 2 ^ (n + 1) -> y < 2 ^ (n + 1) -> ¬ (mk1 c.R n x /\ mk1 c.D n y) -> BZ G n (q (quad n x y)) (x % 2 ^ n) (y % 2 ^ n) = 0
structure Rs (G : Gv) (c : Sc) (n i j m : Nat) : Prop where
 lev : Ao G m (n : Int)
 cell : ∀ x y, x < 2 ^ n -> y < 2 ^ n -> BZ G n m x y = c.Φ (i * 2 ^ n + c.R % 2 ^ n + x) (j * 2 ^ n + c.D % 2 ^ n + y)
theorem Ag.app {G G' : Gv} {k : Nat} {c : Sc} {n i j : Nat} {q : Nat -> Nat} (ok : GOk G) (go : AG G G' k) (h : Ag G c n i j q) : Ag G' c n i j q := ⟨fun k hk => go.lev (h.lev k hk), fun x y hx hy m1 m2 => by rw [Ew ok go (h.lev _ (BT hx hy)) (Nat.mod_lt _ (AA n)) (Nat.mod_lt _ (AA n))]; exact h.ag x y hx hy m1 m2⟩
theorem QAt.app {G G' : Gv} {k : Nat} {c : Sc} {n i j : Nat} {q : Nat -> Nat} (ok : GOk G) (go : AG G G' k) (h : QAt G c n i j q) : QAt G' c n i j q := ⟨h.a.app ok go, fun x y hx hy m => by rw [Ew ok go (h.a.lev _ (BT hx hy)) (Nat.mod_lt _ (AA n)) (Nat.mod_lt _ (AA n))]; exact h.off x y hx hy m⟩
theorem Rs.app {G G' : Gv} {k : Nat} {c : Sc} {n i j m : Nat} (ok : GOk G) (go : AG G G' k) (h : Rs G c n i j m) : Rs G' c n i j m := ⟨go.lev h.lev, fun x y hx hy => by rw [Ew ok go h.lev hx hy]; exact h.cell x y hx hy⟩
def wuQ (R D n : Nat) (q : Nat -> Nat) (k : Nat) : Nat := if R % 2 ^ n = 0 then (if k % 2 = 1 then bareN n else q k) else if D % 2 ^ n = 0 then (if k / 2 = 1 then bareN n else q k) else q k
theorem EU {n x y : Nat} (hx : x < 2 ^ (n + 1)) (hy : y < 2 ^ (n + 1)) : quad n x y % 2 = x / 2 ^ n /\ quad n x y / 2 = y / 2 ^ n := by
 have h1 := Bg hx
 have h2 := Bg hy
 unfold quad
 lia
theorem Jm {n x : Nat} (hx : x < 2 ^ (n + 1)) : (x / 2 ^ n = 1 ↔ ¬ x < 2 ^ n) := by
 have h1 := Bg hx
 have h2 : x / 2 ^ n = 0 ↔ x < 2 ^ n := by rw [Nat.div_eq_zero_iff]; have := AA n; lia
 lia
theorem Ag.wu {G r : Gv} (e0 : G = G0 ++ r) (ok : GOk G) {c : Sc} {n i j : Nat} {q : Nat -> Nat} (hn : n <= 48) (h : Ag G c n i j q) (nz : ¬ (c.R % 2 ^ n = 0 /\ c.D % 2 ^ n = 0)) : QAt G c n i j (wuQ c.R c.D n q) := by
 have bl := Cq e0 (n := n) hn
 have m1 := fun x => Nat.mod_lt x (AA n)
 unfold wuQ
 refine ⟨⟨fun k hk => ?_, fun x y hx hy k1 k2 => ?_⟩, fun x y hx hy k => ?_⟩
 ·split
  ·split
   ·exact bl
   ·exact h.lev k hk
  ·split
   ·split
    ·exact bl
    ·exact h.lev k hk
   ·exact h.lev k hk
 ·obtain ⟨p1, p2⟩ := EU hx hy
  have d1 := Jm hx
  have d2 := Jm hy
  have e : (if c.R % 2 ^ n = 0 then (if quad n x y % 2 = 1 then bareN n else q (quad n x y)) else if c.D % 2 ^ n = 0 then (if quad n x y / 2 = 1 then bareN n else q (quad n x y)) else q (quad n x y)) = q (quad n x y) := by
   unfold mk1 at k1 k2
   split
   ·rw [if_neg (by lia)]
   ·split
    ·rw [if_neg (by lia)]
    ·rfl
  rw [e]
  exact h.ag x y hx hy k1 k2
 ·obtain ⟨p1, p2⟩ := EU hx hy
  have d1 := Jm hx
  have d2 := Jm hy
  have e : (if c.R % 2 ^ n = 0 then (if quad n x y % 2 = 1 then bareN n else q (quad n x y)) else if c.D % 2 ^ n = 0 then (if quad n x y / 2 = 1 then bareN n else q (quad n x y)) else q (quad n x y)) = bareN n := by
   unfold mk1 at k
   split
   ·rw [if_pos (by lia)]
   ·split
    ·rw [if_pos (by lia)]
    ·lia
  rw [e]
  exact Cp e0 ok hn (m1 x) (m1 y)
theorem Jk {R n x : Nat} (hx : x < 2 ^ n) : R % 2 ^ n + x < 2 ^ (n + 1) /\ mk1 R n (R % 2 ^ n + x) := by
 have := Nat.mod_lt R (AA n)
 have := Gc n
 refine ⟨by lia, ?_⟩
 unfold mk1
 by_cases z : R % 2 ^ n = 0
 ·exact .inr (by lia)
 ·exact .inl z
theorem Ag.first {G : Gv} {c : Sc} {n i j : Nat} {q : Nat -> Nat} (h : Ag G c n i j q) (z1 : c.R % 2 ^ n = 0) (z2 : c.D % 2 ^ n = 0) : Rs G c n i j (q 0) := by
 refine ⟨h.lev 0 (by decide), fun x y hx hy => ?_⟩
 have e := Gc n
 have a := h.ag x y (by lia) (by lia) (.inr hx) (.inr hy)
 have q0 : quad n x y = 0 := by
  unfold quad
  rw [Nat.div_eq_of_lt hx, Nat.div_eq_of_lt hy]
 rw [q0, Nat.mod_eq_of_lt hx, Nat.mod_eq_of_lt hy] at a
 rw [a, z1, z2]
 rfl
theorem QAt.see {G : Gv} {c : Sc} {n i j : Nat} {q : Nat -> Nat} (h : QAt G c n i j q) {x y : Nat} (hx : x < 2 ^ n) (hy : y < 2 ^ n) : c.Φ (i * 2 ^ n + c.R % 2 ^ n + x) (j * 2 ^ n + c.D % 2 ^ n + y) = BZ G n (q (quad n (c.R % 2 ^ n + x) (c.D % 2 ^ n + y))) ((c.R % 2 ^ n + x) % 2 ^ n) ((c.D % 2 ^ n + y) % 2 ^ n) := by
 obtain ⟨a1, a2⟩ := Jk (R := c.R) hx
 obtain ⟨b1, b2⟩ := Jk (R := c.D) hy
 rw [h.a.ag _ _ a1 b1 a2 b2, Nat.add_assoc, Nat.add_assoc]
theorem QAt.bare {G r : Gv} (e0 : G = G0 ++ r) (ok : GOk G) {c : Sc} {n i j : Nat} {q : Nat -> Nat} (hn : n <= 48) (h : QAt G c n i j q) (b : ∀ k, k < 4 -> q k = bareN n) : Rs G c n i j (bareN n) := by
 refine ⟨Cq e0 hn, fun x y hx hy => ?_⟩
 rw [h.see hx hy, b _ (BT (Jk hx).1 (Jk hy).1), Cp e0 ok hn hx hy, Cp e0 ok hn (Nat.mod_lt _ (AA n)) (Nat.mod_lt _ (AA n))]
theorem QAt.hit {G : Gv} {c : Sc} {n i j i' j' m : Nat} {q : Nat -> Nat} (h : QAt G c n i j q) (h' : QAt G c n i' j' q) (r : Rs G c n i' j' m) : Rs G c n i j m := ⟨r.lev, fun x y hx hy => by rw [r.cell x y hx hy, h'.see hx hy, h.see hx hy]⟩
def gq (sub : Nat -> Nat -> Nat) (r c : Nat) : Nat := sub (c / 2 + 2 * (r / 2)) (c % 2 + 2 * (r % 2))
structure Qw (G : Gv) (n : Nat) (q : Nat -> Nat) (sub : Nat -> Nat -> Nat) : Prop where
 nd : ∀ k, k < 4 -> ∃ s, Ce G n (q k) s (sub k 0) (sub k 1) (sub k 2) (sub k 3)
theorem sub4_of {G : Gv} (ok : GOk G) {n : Nat} {q : Nat -> Nat} (h : ∀ k, k < 4 -> Ao G (q k) ((n + 1 : Nat) : Int)) : ∃ sub, Qw G n q sub := by
 obtain ⟨s0, a0, b0, c0, d0, n0⟩ := AX ok (h 0 (by decide))
 obtain ⟨s1, a1, b1, c1, d1, n1⟩ := AX ok (h 1 (by decide))
 obtain ⟨s2, a2, b2, c2, d2, n2⟩ := AX ok (h 2 (by decide))
 obtain ⟨s3, a3, b3, c3, d3, n3⟩ := AX ok (h 3 (by decide))
 refine ⟨fun k => match k with | 0 => f4 a0 b0 c0 d0 | 1 => f4 a1 b1 c1 d1 | 2 => f4 a2 b2 c2 d2 | _ => f4 a3 b3 c3 d3, ⟨fun k hk => ?_⟩⟩
 match k, hk with
 | 0, _ => exact ⟨_, n0⟩
 | 1, _ => exact ⟨_, n1⟩
 | 2, _ => exact ⟨_, n2⟩
 | 3, _ => exact ⟨_, n3⟩
theorem Qw.lev {G : Gv} {n : Nat} {q : Nat -> Nat} {sub : Nat -> Nat -> Nat} (h : Qw G n q sub) {k l : Nat} (hk : k < 4) (hl : l < 4) : Ao G (sub k l) (n : Int) := by
 obtain ⟨s, nd⟩ := h.nd k hk
 have := (nd.nat hl).2
 rw [Gi (sub k) hl] at this
 exact this
theorem gq_lev {G : Gv} {n : Nat} {q : Nat -> Nat} {sub : Nat -> Nat -> Nat} (h : Qw G n q sub) {r c : Nat} (hr : r < 4) (hc : c < 4) : Ao G (gq sub r c) (n : Int) := h.lev (by lia) (by lia)
def Mt (sub : Nat -> Nat -> Nat) (r c k : Nat) : Nat := gq sub (r + k / 2) (c + k % 2)
theorem EG {n x c : Nat} : (c * 2 ^ n + x) / 2 ^ n = c + x / 2 ^ n /\ (c * 2 ^ n + x) % 2 ^ n = x % 2 ^ n := by
 have p := AA n
 constructor
 ·rw [Nat.add_comm, Nat.add_mul_div_right _ _ p, Nat.add_comm]
 ·rw [Nat.add_comm, Nat.add_mul_mod_self_right]
theorem Gs {n X : Nat} : X / 2 ^ (n + 1) = X / 2 ^ n / 2 /\ X % 2 ^ (n + 1) / 2 ^ n = X / 2 ^ n % 2 := by
 rw [Nat.pow_succ]
 constructor
 ·rw [Nat.div_div_eq_div_mul]
 ·rw [Nat.mod_mul_right_div_self]
theorem QAt.inner {G : Gv} {c : Sc} {n i j : Nat} {q : Nat -> Nat} (h : QAt G c (n + 1) i j q) {sub : Nat -> Nat -> Nat} (hs : Qw G n q sub) {p : Nat} (hp : p < 4) : Ag G c n (2 * i + (c.R % 2 ^ (n + 1) / 2 ^ n + p % 2)) (2 * j + (c.D % 2 ^ (n + 1) / 2 ^ n + p / 2)) (Mt sub (c.D % 2 ^ (n + 1) / 2 ^ n + p / 2) (c.R % 2 ^ (n + 1) / 2 ^ n + p % 2)) := by
 have e := Gc n
 have e1 := Gc (n + 1)
 have c2 : c.R % 2 ^ (n + 1) / 2 ^ n < 2 := Bg (Nat.mod_lt _ (AA _))
 have r2 : c.D % 2 ^ (n + 1) / 2 ^ n < 2 := Bg (Nat.mod_lt _ (AA _))
 refine ⟨fun k hk => gq_lev hs (by lia) (by lia), fun x y hx hy k1 k2 => ?_⟩
 have msk : ∀ {R x b : Nat}, x < 2 ^ (n + 1) -> mk1 R n x -> b < 2 -> (R % 2 ^ (n + 1) / 2 ^ n + b) * 2 ^ n + x < 2 ^ (n + 2) /\ mk1 R (n + 1) ((R % 2 ^ (n + 1) / 2 ^ n + b) * 2 ^ n + x) := fun {R x b} hx k hb => by
  have h2 : R % 2 ^ (n + 1) / 2 ^ n < 2 := Bg (Nat.mod_lt _ (AA _))
  have mm : (R % 2 ^ (n + 1) / 2 ^ n + b) * 2 ^ n <= 2 * 2 ^ n := Nat.mul_le_mul_right _ (by lia)
  refine ⟨by lia, ?_⟩
  by_cases z : R % 2 ^ (n + 1) = 0
  ·refine .inr ?_
   have zn : R % 2 ^ n = 0 := by rw [<- DP R n, z, Nat.zero_mod]
   have hx' := k.resolve_left (fun q => q zn)
   rw [z, Nat.zero_div, Nat.zero_add]
   have : b * 2 ^ n <= 1 * 2 ^ n := Nat.mul_le_mul_right _ (by lia)
   lia
  ·exact .inl z
 obtain ⟨X1, X2⟩ := msk (b := p % 2) hx k1 (by lia)
 obtain ⟨Y1, Y2⟩ := msk (b := p / 2) hy k2 (by lia)
 have a := h.a.ag _ _ X1 Y1 X2 Y2
 generalize hc : c.R % 2 ^ (n + 1) / 2 ^ n + p % 2 = C at *
 generalize hd : c.D % 2 ^ (n + 1) / 2 ^ n + p / 2 = D' at *
 obtain ⟨s, nd⟩ := hs.nd _ (BT X1 Y1)
 rw [AR nd (Nat.mod_lt _ (AA _)) (Nat.mod_lt _ (AA _)), DP, DP, EG.2, EG.2] at a
 have q4 : quad n ((C * 2 ^ n + x) % 2 ^ (n + 1)) ((D' * 2 ^ n + y) % 2 ^ (n + 1)) < 4 := BT (Nat.mod_lt _ (AA _)) (Nat.mod_lt _ (AA _))
 rw [Gi _ q4] at a
 have eg : sub (quad (n + 1) (C * 2 ^ n + x) (D' * 2 ^ n + y)) (quad n ((C * 2 ^ n + x) % 2 ^ (n + 1)) ((D' * 2 ^ n + y) % 2 ^ (n + 1))) = Mt sub D' C (quad n x y) := by
  obtain ⟨p1, p2⟩ := EU hx hy
  unfold Mt gq
  rw [p1, p2]
  congr 1
  ·unfold quad
   rw [Gs.1, Gs.1, EG.1, EG.1]
  ·unfold quad
   rw [Gs.2, Gs.2, EG.1, EG.1]
 rw [eg] at a
 rw [a]
 congr 1
 ·rw [Nat.pow_succ]
  grind
 ·rw [Nat.pow_succ]
  grind
theorem Rs.join {G : Gv} {c : Sc} {n i j m : Nat} {ms : Nat -> Nat} (h : ∀ p, p < 4 -> Rs G c n (2 * i + (c.R % 2 ^ (n + 1) / 2 ^ n + p % 2)) (2 * j + (c.D % 2 ^ (n + 1) / 2 ^ n + p / 2)) (ms p)) (em : G[m]? = some ⟨[(ms 0 : Int), (ms 1 : Int), (ms 2 : Int), (ms 3 : Int)], (n : Int) + 1⟩) : Rs G c (n + 1) i j m := by
 have nm : Ce G n m _ (ms 0) (ms 1) (ms 2) (ms 3) := ⟨em, rfl, rfl, (h 0 (by decide)).lev, (h 1 (by decide)).lev, (h 2 (by decide)).lev, (h 3 (by decide)).lev⟩
 refine ⟨⟨_, em, by show (n : Int) + 1 = _; lia⟩, fun x y hx hy => ?_⟩
 have q4 := BT hx hy
 rw [AR nm hx hy, Gi ms q4, (h _ q4).cell _ _ (Nat.mod_lt _ (AA n)) (Nat.mod_lt _ (AA n))]
 obtain ⟨p1, p2⟩ := EU hx hy
 rw [p1, p2]
 have dm : ∀ (R x : Nat), R % 2 ^ (n + 1) / 2 ^ n * 2 ^ n + R % 2 ^ n = R % 2 ^ (n + 1) := fun R x => by
  have := Nat.div_add_mod (R % 2 ^ (n + 1)) (2 ^ n)
  rw [DP] at this
  rw [Nat.mul_comm]
  exact this
 have dx : ∀ x : Nat, x / 2 ^ n * 2 ^ n + x % 2 ^ n = x := fun x => by
  rw [Nat.mul_comm]
  exact Nat.div_add_mod _ _
 have f1 := dm c.R x
 have f2 := dm c.D y
 have g1 := dx x
 have g2 := dx y
 congr 1
 ·rw [show i * 2 ^ (n + 1) = 2 * i * 2 ^ n by rw [Nat.pow_succ]; grind, Nat.add_mul, Nat.add_mul]
  lia
 ·rw [show j * 2 ^ (n + 1) = 2 * j * 2 ^ n by rw [Nat.pow_succ]; grind, Nat.add_mul, Nat.add_mul]
  lia
theorem QAt.one {G : Gv} (ok : GOk G) {c : Sc} {n i j i' j' : Nat} {q q' : Nat -> Nat} (h : QAt G c n i j q) (h' : QAt G c n i' j' q') (e : ∀ x y, x < 2 ^ (n + 1) -> y < 2 ^ (n + 1) -> c.Φ (i * 2 ^ n + x) (j * 2 ^ n + y) = c.Φ (i' * 2 ^ n + x) (j' * 2 ^ n + y)) {k : Nat} (hk : k < 4) : q k = q' k := by
 refine Ej ok (h.a.lev k hk) (h'.a.lev k hk) fun x y hx hy => ?_
 obtain ⟨i1, i2, i3, i4, i5⟩ := Do hk hx hy
 by_cases m : mk1 c.R n (x + 2 ^ n * (k % 2)) /\ mk1 c.D n (y + 2 ^ n * (k / 2))
 ·have a := h.a.ag _ _ i1 i2 m.1 m.2
  have a' := h'.a.ag _ _ i1 i2 m.1 m.2
  rw [i3, i4, i5] at a a'
  rw [a, a', e _ _ i1 i2]
 ·have a := h.off _ _ i1 i2 m
  have a' := h'.off _ _ i1 i2 m
  rw [i3, i4, i5] at a a'
  rw [a, a']
theorem QAt.ne {G r : Gv} (e0 : G = G0 ++ r) (ok : GOk G) {c : Sc} {n i j : Nat} {q : Nat -> Nat} (hn : n <= 48) (h : QAt G c n i j q) {k : Nat} (hk : k < 4) (b : q k ≠ bareN n) : NE c.Φ n i j := by
 obtain ⟨x, y, hx, hy, l⟩ := Nz e0 ok hn (h.a.lev k hk) b
 obtain ⟨i1, i2, i3, i4, i5⟩ := Do hk hx hy
 refine ⟨_, _, i1, i2, ?_⟩
 by_cases m : mk1 c.R n (x + 2 ^ n * (k % 2)) /\ mk1 c.D n (y + 2 ^ n * (k / 2))
 ·have a := h.a.ag _ _ i1 i2 m.1 m.2
  rw [i3, i4, i5] at a
  rw [<- a]
  exact l
 ·have a := h.off _ _ i1 i2 m
  rw [i3, i4, i5] at a
  exact absurd a l
end J
namespace J
open PySem L2
seal L2.PA L2.PE L2.PS L2.PSs L2.PT L2.PW
def kQ (q : Nat -> Nat) : List Key := kOf [(q 0 : Int), (q 1 : Int), (q 2 : Int), (q 3 : Int)]
theorem RL {q q' : Nat -> Nat} (e : kQ q = kQ q') : ∀ k, k < 4 -> q k = q' k := by
 have e := Ii e
 injection e with e0 e
 injection e with e1 e
 injection e with e2 e
 injection e with e3 _
 intro k hk
 match k, hk with
 | 0, _ => exact Int.ofNat.inj e0
 | 1, _ => exact Int.ofNat.inj e1
 | 2, _ => exact Int.ofNat.inj e2
 | 3, _ => exact Int.ofNat.inj e3
theorem RM {q q' : Nat -> Nat} (e : ∀ k, k < 4 -> q k = q' k) : kQ q = kQ q' := by
 unfold kQ
 rw [e 0 (by decide), e 1 (by decide), e 2 (by decide), e 3 (by decide)]
structure SEnt (G : Gv) (c : Sc) (p : List Key × V) (n i j : Nat) (q : Nat -> Nat) (m : Nat) : Prop where
 e : p = (kQ q, .int m)
 at' : QAt G c n i j q
 rs : Rs G c n i j m
 nb : ∃ k, k < 4 /\ q k ≠ bareN n
 le : n <= 48
structure SOk (G : Gv) (c : Sc) (kvs : List (List Key × V)) : Prop where
 nd : (kvs.map (·.1)).Nodup
 val : ∀ p ∈ kvs, ∃ n i j q m, SEnt G c p n i j q m
theorem sok0 (G : Gv) (c : Sc) : SOk G c [] := ⟨List.nodup_nil, fun p hp => by simp at hp⟩
theorem SOk.go {G G' : Gv} {k : Nat} {c : Sc} {kvs : List (List Key × V)} (ok : GOk G) (go : AG G G' k) (h : SOk G c kvs) : SOk G' c kvs := ⟨h.nd, fun p hp => by
 obtain ⟨n, i, j, q, m, e⟩ := h.val p hp
 exact ⟨n, i, j, q, m, e.e, e.at'.app ok go, e.rs.app ok go, e.nb, e.le⟩⟩
theorem SOk.put {G : Gv} {c : Sc} {kvs : List (List Key × V)} {n i j m : Nat} {q : Nat -> Nat} (h : SOk G c kvs) (en : SEnt G c (kQ q, .int m) n i j q m) (no : Bv kvs (kQ q) = none) : SOk G c (Di kvs (kQ q) (.int m)) /\ (Di kvs (kQ q) (.int m)).length = kvs.length + 1 := by
 have nd := OV (.int m) h.nd no
 rw [Gb _ no] at nd ⊢
 refine ⟨⟨nd, fun p hp => ?_⟩, by rw [List.length_append]; rfl⟩
 rcases List.mem_append.mp hp with z | z
 ·exact h.val p z
 ·rw [List.mem_singleton] at z
  subst z
  exact ⟨n, i, j, q, m, en⟩
theorem MH {k : List Key} {v : V} : ∀ {l : List (List Key × V)}, Bv l k = some v -> (k, v) ∈ l
 | [], h => by cases h
 | p :: r, h => by
  by_cases e : p.1 = k
  ·rw [Bz e] at h
   cases h
   rw [<- e]
   exact List.mem_cons_self
  ·rw [Bc e] at h
   exact List.mem_cons_of_mem _ (MH h)
def KCo (G : Gv) (c : Sc) (k : List Key) (x : Nat) : Prop := ∃ n i j q, k = kQ q /\ QAt G c n i j q /\ (∃ k, k < 4 /\ q k ≠ bareN n) /\ n <= 48 /\ x = n * c.M + c.cl n i j
theorem SOk.len {G r : Gv} (e0 : G = G0 ++ r) (ok : GOk G) {c : Sc} (sc : NN c) {kvs : List (List Key × V)} (h : SOk G c kvs) : kvs.length <= 49 * c.M := by
 classical
 have := FF (49 * c.M) ((kvs.map (·.1)).map (fun k => if z : ∃ x, KCo G c k x then Classical.choose z else 0)) (by
  rw [List.nodup_iff_pairwise_ne, List.pairwise_map]
  refine List.Pairwise.imp_of_mem (fun {x y} hx hy hne z => hne ?_) (List.nodup_iff_pairwise_ne.mp h.nd)
  obtain ⟨p, hp, rfl⟩ := List.mem_map.mp hx
  obtain ⟨p', hp', rfl⟩ := List.mem_map.mp hy
  obtain ⟨n, i, j, q, m, e⟩ := h.val p hp
  obtain ⟨n', i', j', q', m', e'⟩ := h.val p' hp'
  have e1 := e.e
  have e2 := e'.e
  subst e1 e2
  have x1 : ∃ x, KCo G c (kQ q) x := ⟨_, n, i, j, q, rfl, e.at', e.nb, e.le, rfl⟩
  have x2 : ∃ x, KCo G c (kQ q') x := ⟨_, n', i', j', q', rfl, e'.at', e'.nb, e'.le, rfl⟩
  have z : (if z : ∃ x, KCo G c (kQ q) x then Classical.choose z else 0) = (if z : ∃ x, KCo G c (kQ q') x then Classical.choose z else 0) := z
  rw [dif_pos x1, dif_pos x2] at z
  obtain ⟨n1, i1, j1, q1, k1, a1, b1, l1, y1⟩ := Classical.choose_spec x1
  obtain ⟨n2, i2, j2, q2, k2, a2, b2, l2, y2⟩ := Classical.choose_spec x2
  rw [y1, y2] at z
  obtain ⟨w1, hw1, ne1⟩ := b1
  obtain ⟨w2, hw2, ne2⟩ := b2
  have N1 := a1.ne e0 ok l1 hw1 ne1
  have N2 := a2.ne e0 ok l2 hw2 ne2
  have c1 := sc.lt _ _ _ l1 N1
  have c2 := sc.lt _ _ _ l2 N2
  have en : n1 = n2 := by
   have d1 : (n1 * c.M + c.cl n1 i1 j1) / c.M = n1 := by rw [Nat.mul_comm, Nat.mul_add_div (by lia), Nat.div_eq_of_lt c1, Nat.add_zero]
   have d2 : (n2 * c.M + c.cl n2 i2 j2) / c.M = n2 := by rw [Nat.mul_comm, Nat.mul_add_div (by lia), Nat.div_eq_of_lt c2, Nat.add_zero]
   rw [<- d1, z, d2]
  subst en
  have ec : c.cl n1 i1 j1 = c.cl n1 i2 j2 := by lia
  show kQ q = kQ q'
  rw [k1, k2]
  exact RM fun k hk => a1.one ok a2 (sc.same _ _ _ _ _ l1 N1 N2 ec) hk) (fun x hx => by
  obtain ⟨y, hy, rfl⟩ := List.mem_map.mp hx
  obtain ⟨p, hp, rfl⟩ := List.mem_map.mp hy
  obtain ⟨n, i, j, q, m, e⟩ := h.val p hp
  have e1 := e.e
  subst e1
  have x1 : ∃ x, KCo G c (kQ q) x := ⟨_, n, i, j, q, rfl, e.at', e.nb, e.le, rfl⟩
  show (if z : ∃ x, KCo G c (kQ q) x then Classical.choose z else 0) < _
  rw [dif_pos x1]
  obtain ⟨n1, i1, j1, q1, k1, a1, b1, l1, y1⟩ := Classical.choose_spec x1
  obtain ⟨w1, hw1, ne1⟩ := b1
  have c1 := sc.lt _ _ _ l1 (a1.ne e0 ok l1 hw1 ne1)
  rw [y1]
  have : n1 * c.M + c.M <= 49 * c.M := by
   rw [<- Nat.succ_mul]
   exact Nat.mul_le_mul_right _ (by lia)
  lia)
 rw [List.length_map, List.length_map] at this
 exact this
def UnS (G : Gv) (N : Nat) (kvs kvs' : List (List Key × V)) : Prop := ∀ (q : Nat -> Nat) (N' : Nat), Ao G (q 0) (N' : Int) -> N < N' -> Bv kvs (kQ q) = none -> Bv kvs' (kQ q) = none
theorem UnS.refl (G : Gv) (N : Nat) (kvs : List (List Key × V)) : UnS G N kvs kvs := fun _ _ _ _ h => h
theorem UnS.trans {G G' : Gv} {k N : Nat} {a b c : List (List Key × V)} (go : AG G G' k) (h : UnS G N a b) (h2 : UnS G' N b c) : UnS G N a c := fun q N' h1 hl z => h2 q N' (go.lev h1) hl (h q N' h1 hl z)
section
variable {P : Program} {w : World} {K : PySem.W.Frag} {mg : Str -> Option Value} {base : Heap} {a : Ad}
def BQ (q : Nat -> Nat) : List V := [.int (q 0 : Int), .int (q 1 : Int), .int (q 2 : Int), .int (q 3 : Int)]
inductive SpWu (vs : List V) (H : Hp) (Q : VK) : Prop
 | mk (t : Addr) (q : Nat -> Nat) (R D n : Nat) (_ : vs = [.ref t, .int ((R % 2 ^ n : Nat) : Int), .int ((D % 2 ^ n : Nat) : Int), .int (bareN n : Int)]) (_ : H t = some (.tup (BQ q))) (_ : ∀ (t' : Addr) (H' : Hp), AB H H' -> H' t' = some (.tup (BQ (wuQ R D n q))) -> Q (.ref t') H') : SpWu vs H Q
def spWu : Sp := fun vs H Q _ => SpWu vs H Q
theorem Ru {n : Nat} : decide (V.int (n : Int) = V.int 0) = decide (n = 0) := by
 by_cases z : n = 0
 ·subst z
  rw [decide_eq_true (rfl : (0 : Nat) = 0)]
  exact decide_eq_true rfl
 ·rw [decide_eq_false z, decide_eq_false]
  intro q
  injection q with q
  lia
theorem ok_wu {f : Addr} {fd : FuncData} (F : Fun K "without_unseen" "without_unseen" BM f fd) (T : Top K mg a) : AY P w K mg base CX0 1 f fd BR spWu := by
 refine F.ok GS (fun vs H Q E h => ?_) (fun cdv A outer s H vs Q E hr h => ?_)
 ·obtain ⟨t, q, R, D, n, rfl, _⟩ := h
  rfl
 ·obtain ⟨t, q, R, D, n, rfl, ht, k⟩ := h
  refine ⟨_, (Ab (Bh (AL FD (pv 1) Ac (AM _)) (Aj (Aw (Cc (Aa (Ak Am (pv 0) Ac (fun _ _ => rfl)) (Aa (pv 3) (Aa (Ak Am (pv 0) Ac (fun _ _ => rfl)) (Aa (pv 3) Ae))))))) AD) (Ab (Bh (AL FD (pv 2) Ac (AM _)) (Aj (Aw (Cc (Aa (Ak Am (pv 0) Ac (fun _ _ => rfl)) (Aa (Ak Am (pv 0) Ac (fun _ _ => rfl)) (Aa (pv 3) (Aa (pv 3) Ae))))))) AD) (Aj (Aw (pv 0))))), ?_⟩
  try dsimp only [cxK]
  have i0 : ∀ {H' : Hp}, AB H H' -> H' t = some (.tup (BQ q)) := fun s => s _ _ ht
  refine ⟨_, rfl, rfl, _, rfl, ?_⟩
  rw [Ru]
  by_cases z1 : R % 2 ^ n = 0
  ·rw [decide_eq_true z1]
   refine Da ⟨_, rfl, t, _, 0, .int (q 0 : Int), rfl, rfl, SqT.of ht, Af (j := 0) rfl, _, rfl, _, rfl, t, _, 2, .int (q 2 : Int), rfl, rfl, SqT.of ht, Af (j := 2) rfl, _, rfl, (by show 4 <= sizeLine; decide), fun p hp => k p _ (An hp) ?_⟩
   rw [Ai]
   show some (HO.tup [V.int (q 0 : Int), V.int (bareN n : Int), V.int (q 2 : Int), V.int (bareN n : Int)]) = _
   unfold BQ wuQ
   rw [if_pos z1, if_pos z1, if_pos z1, if_pos z1]
   rfl
  rw [decide_eq_false z1]
  refine BC ⟨_, rfl, rfl, _, rfl, ?_⟩
  rw [Ru]
  by_cases z2 : D % 2 ^ n = 0
  ·rw [decide_eq_true z2]
   refine Da ⟨_, rfl, t, _, 0, .int (q 0 : Int), rfl, rfl, SqT.of ht, Af (j := 0) rfl, _, rfl, t, _, 1, .int (q 1 : Int), rfl, rfl, SqT.of ht, Af (j := 1) rfl, _, rfl, _, rfl, (by show 4 <= sizeLine; decide), fun p hp => k p _ (An hp) ?_⟩
   rw [Ai]
   show some (HO.tup [V.int (q 0 : Int), V.int (q 1 : Int), V.int (bareN n : Int), V.int (bareN n : Int)]) = _
   unfold BQ wuQ
   rw [if_neg z1, if_neg z1, if_neg z1, if_neg z1, if_pos z2, if_pos z2, if_pos z2, if_pos z2]
   rfl
  rw [decide_eq_false z2]
  refine BC ⟨_, rfl, k t H (AB.refl H) ?_⟩
  rw [ht]
  unfold BQ wuQ
  rw [if_neg z1, if_neg z1, if_neg z1, if_neg z1, if_neg z2, if_neg z2, if_neg z2, if_neg z2]
inductive SpRq (a : Ad) (vs : List V) (H : Hp) (Q : VK) : Prop
 | mk (g : GA) (G : Gv) (t : Addr) (q : Nat -> Nat) (n : Nat) (sub : Nat -> Nat -> Nat) (_ : vs = [.ref g.p, .ref t]) (_ : AO a H g G) (_ : H t = some (.tup (BQ q))) (_ : Qw G n q sub) (_ : ∀ (L r0 r1 r2 r3 : Addr) (H' : Hp), AB H H' -> H L = none -> H' L = some (.lst [.ref r0, .ref r1, .ref r2, .ref r3]) -> H' r0 = some (.tup (BQ (gq sub 0))) -> H' r1 = some (.tup (BQ (gq sub 1))) -> H' r2 = some (.tup (BQ (gq sub 2))) -> H' r3 = some (.tup (BQ (gq sub 3))) -> Q (.ref L) H') : SpRq a vs H Q
def spRq (a : Ad) : Sp := fun vs H Q _ => SpRq a vs H Q
theorem ok_rq {f : Addr} {fd : FuncData} (F : Fun K "rows_of_quarters" "rows_of_quarters" Bp f fd) (T : Top K mg a) : AY P w K mg base CX0 1 f fd Bs (spRq a) := by
 refine F.ok BF (fun vs H Q E h => ?_) (fun cdv A outer s H vs Q E hr h => ?_)
 ·obtain ⟨g, G, t, q, n, sub, rfl, _⟩ := h
  rfl
 ·obtain ⟨g, G, t, q, n, sub, rfl, fu, ht, hs, k⟩ := h
  refine ⟨_, (Ab (Al (i := 2) BF.nd rfl (Or.inl rfl) (Ak AC (AQ (pv 0) rfl) (Ak Am (pv 1) Ac (fun _ _ => rfl)) (fun _ _ => rfl))) (Ab (Al (i := 3) BF.nd rfl (Or.inl rfl) (Ak AC (AQ (pv 0) rfl) (Ak Am (pv 1) Ac (fun _ _ => rfl)) (fun _ _ => rfl))) (Ab (Al (i := 4) BF.nd rfl (Or.inl rfl) (Ak AC (AQ (pv 0) rfl) (Ak Am (pv 1) Ac (fun _ _ => rfl)) (fun _ _ => rfl))) (Ab (Al (i := 5) BF.nd rfl (Or.inl rfl) (Ak AC (AQ (pv 0) rfl) (Ak Am (pv 1) Ac (fun _ _ => rfl)) (fun _ _ => rfl))) (Aj (Aw (EV (BV (Aa (Ak Am (pv 2) Ac (fun _ _ => rfl)) (Aa (Ak Am (pv 2) Ac (fun _ _ => rfl)) (Aa (Ak Am (pv 3) Ac (fun _ _ => rfl)) (Aa (Ak Am (pv 3) Ac (fun _ _ => rfl)) Ae)))) (BV (Aa (Ak Am (pv 2) Ac (fun _ _ => rfl)) (Aa (Ak Am (pv 2) Ac (fun _ _ => rfl)) (Aa (Ak Am (pv 3) Ac (fun _ _ => rfl)) (Aa (Ak Am (pv 3) Ac (fun _ _ => rfl)) Ae)))) (BV (Aa (Ak Am (pv 4) Ac (fun _ _ => rfl)) (Aa (Ak Am (pv 4) Ac (fun _ _ => rfl)) (Aa (Ak Am (pv 5) Ac (fun _ _ => rfl)) (Aa (Ak Am (pv 5) Ac (fun _ _ => rfl)) Ae)))) (BV (Aa (Ak Am (pv 4) Ac (fun _ _ => rfl)) (Aa (Ak Am (pv 4) Ac (fun _ _ => rfl)) (Aa (Ak Am (pv 5) Ac (fun _ _ => rfl)) (Aa (Ak Am (pv 5) Ac (fun _ _ => rfl)) Ae)))) Ae))))))))))), ?_⟩
  try dsimp only [cxK]
  obtain ⟨s0, n0⟩ := hs.nd 0 (by decide)
  obtain ⟨s1, n1⟩ := hs.nd 1 (by decide)
  obtain ⟨s2, n2⟩ := hs.nd 2 (by decide)
  obtain ⟨s3, n3⟩ := hs.nd 3 (by decide)
  obtain ⟨ts, ta, h3, ea, ha⟩ := EE fu.at' n0
  obtain ⟨ts', tb, h3', eb, hb⟩ := EE fu.at' n1
  obtain ⟨ts'', tc, h3'', ec, hc⟩ := EE fu.at' n2
  obtain ⟨ts''', td, h3''', ed, hd⟩ := EE fu.at' n3
  refine ⟨_, rfl, g.p, _, g.dx, _, _, rfl, fu.at'.hp, T.cl_Grove, T.na_Grove_parts, DQ g, _, rfl, t, _, 0, .int (q 0 : Int), rfl, rfl, SqT.of ht, Af (j := 0) rfl, g.pt, _, (q 0 : Int), .ref ta, rfl, rfl, SqL.of h3, Af ea, ?_⟩
  refine ⟨_, rfl, g.p, _, g.dx, _, _, rfl, fu.at'.hp, T.cl_Grove, T.na_Grove_parts, DQ g, _, rfl, t, _, 1, .int (q 1 : Int), rfl, rfl, SqT.of ht, Af (j := 1) rfl, g.pt, _, (q 1 : Int), .ref tb, rfl, rfl, SqL.of h3', Af eb, ?_⟩
  refine ⟨_, rfl, g.p, _, g.dx, _, _, rfl, fu.at'.hp, T.cl_Grove, T.na_Grove_parts, DQ g, _, rfl, t, _, 2, .int (q 2 : Int), rfl, rfl, SqT.of ht, Af (j := 2) rfl, g.pt, _, (q 2 : Int), .ref tc, rfl, rfl, SqL.of h3'', Af ec, ?_⟩
  refine ⟨_, rfl, g.p, _, g.dx, _, _, rfl, fu.at'.hp, T.cl_Grove, T.na_Grove_parts, DQ g, _, rfl, t, _, 3, .int (q 3 : Int), rfl, rfl, SqT.of ht, Af (j := 3) rfl, g.pt, _, (q 3 : Int), .ref td, rfl, rfl, SqL.of h3''', Af ed, ?_⟩
  have s0' := AB.refl H
  refine ⟨_, rfl, ta, _, 0, .int (sub 0 0 : Int), rfl, rfl, SqT.of (s0' _ _ ha), Af (j := 0) rfl, _, rfl, ta, _, 1, .int (sub 0 1 : Int), rfl, rfl, SqT.of (s0' _ _ ha), Af (j := 1) rfl, _, rfl, tb, _, 0, .int (sub 1 0 : Int), rfl, rfl, SqT.of (s0' _ _ hb), Af (j := 0) rfl, _, rfl, tb, _, 1, .int (sub 1 1 : Int), rfl, rfl, SqT.of (s0' _ _ hb), Af (j := 1) rfl, (by show 4 <= sizeLine; decide), fun p0 hp0 => ?_⟩
  have s1' := s0'.trans (An (o := .tup (BQ (gq sub 0))) hp0)
  refine ⟨_, rfl, ta, _, 2, .int (sub 0 2 : Int), rfl, rfl, SqT.of (s1' _ _ ha), Af (j := 2) rfl, _, rfl, ta, _, 3, .int (sub 0 3 : Int), rfl, rfl, SqT.of (s1' _ _ ha), Af (j := 3) rfl, _, rfl, tb, _, 2, .int (sub 1 2 : Int), rfl, rfl, SqT.of (s1' _ _ hb), Af (j := 2) rfl, _, rfl, tb, _, 3, .int (sub 1 3 : Int), rfl, rfl, SqT.of (s1' _ _ hb), Af (j := 3) rfl, (by show 4 <= sizeLine; decide), fun p1 hp1 => ?_⟩
  have s2' := s1'.trans (An (o := .tup (BQ (gq sub 1))) hp1)
  refine ⟨_, rfl, tc, _, 0, .int (sub 2 0 : Int), rfl, rfl, SqT.of (s2' _ _ hc), Af (j := 0) rfl, _, rfl, tc, _, 1, .int (sub 2 1 : Int), rfl, rfl, SqT.of (s2' _ _ hc), Af (j := 1) rfl, _, rfl, td, _, 0, .int (sub 3 0 : Int), rfl, rfl, SqT.of (s2' _ _ hd), Af (j := 0) rfl, _, rfl, td, _, 1, .int (sub 3 1 : Int), rfl, rfl, SqT.of (s2' _ _ hd), Af (j := 1) rfl, (by show 4 <= sizeLine; decide), fun p2 hp2 => ?_⟩
  have s3' := s2'.trans (An (o := .tup (BQ (gq sub 2))) hp2)
  refine ⟨_, rfl, tc, _, 2, .int (sub 2 2 : Int), rfl, rfl, SqT.of (s3' _ _ hc), Af (j := 2) rfl, _, rfl, tc, _, 3, .int (sub 2 3 : Int), rfl, rfl, SqT.of (s3' _ _ hc), Af (j := 3) rfl, _, rfl, td, _, 2, .int (sub 3 2 : Int), rfl, rfl, SqT.of (s3' _ _ hd), Af (j := 2) rfl, _, rfl, td, _, 3, .int (sub 3 3 : Int), rfl, rfl, SqT.of (s3' _ _ hd), Af (j := 3) rfl, (by show 4 <= sizeLine; decide), fun p3 hp3 => ?_⟩
  have s4' := s3'.trans (An (o := .tup (BQ (gq sub 3))) hp3)
  refine ⟨(by show 4 <= sizeLine; decide), fun L hL => ?_⟩
  have t0 := An (o := .tup (BQ (gq sub 1))) hp1
  have t1 := An (o := .tup (BQ (gq sub 2))) hp2
  have t2 := An (o := .tup (BQ (gq sub 3))) hp3
  have t3 := An (o := .lst [.ref p0, .ref p1, .ref p2, .ref p3]) hL
  exact k L p0 p1 p2 p3 _ (s4'.trans t3) (AB.noneOf s4' hL) Ai (t3 _ _ (t2 _ _ (t1 _ _ (t0 _ _ Ai)))) (t3 _ _ (t2 _ _ (t1 _ _ Ai))) (t3 _ _ (t2 _ _ Ai)) (t3 _ _ Ai)
end
end J
namespace J
open PySem L2
seal L2.PA L2.PE L2.PS L2.PSs L2.PT L2.PW
theorem Jg (q : Nat -> Nat) {k : Nat} (hk : k < 4) : (BQ q)[k]? = some (.int (q k : Int)) := by
 match k, hk with
 | 0, _ => rfl
 | 1, _ => rfl
 | 2, _ => rfl
 | 3, _ => rfl
section
variable {P : Program} {w : World} {K : PySem.W.Frag} {mg : Str -> Option Value} {base : Heap} {a : Ad}
inductive SpSa (a : Ad) (n : Nat) (vs : List V) (H : Hp) (Q : VK) : Prop
 | mk (g : GA) (G : Gv) (c : Sc) (kn tf : Addr) (kvs : List (List Key × V)) (q : Nat -> Nat) (i j N : Nat) (_ : vs = [.ref g.p, .ref tf, .int ((c.R % 2 ^ N : Nat) : Int), .int ((c.D % 2 ^ N : Nat) : Int), .ref kn]) (_ : AO a H g G) (_ : H kn = some (.dT kvs)) (_ : kn ∉ Cu g) (_ : H tf = some (.tup (BQ q))) (_ : Ag G c N i j q) (_ : SOk G c kvs) (_ : NN c) (_ : N < n) (_ : N <= 47) (_ : G.length + 49 * c.M < 8000000 + kvs.length /\ 49 * c.M < 4000000) (_ : ∀ (m : Nat) (G' : Gv) (kvs' : List (List Key × V)) (H' : Hp), Fx (frM g kn) H H' -> AO a H' g G' -> H' kn = some (.dT kvs') -> SOk G' c kvs' -> kvs.length <= kvs'.length -> AG G G' (kvs'.length - kvs.length) -> UnS G N kvs kvs' -> Rs G' c N i j m -> Q (.int m) H') : SpSa a n vs H Q
def QH (a : Ad) (n : Nat) : Sp := fun vs H Q _ => SpSa a n vs H Q
inductive SpSq (a : Ad) (n : Nat) (vs : List V) (H : Hp) (Q : VK) : Prop
 | mk (g : GA) (G : Gv) (c : Sc) (kn tf : Addr) (kvs : List (List Key × V)) (q : Nat -> Nat) (i j N : Nat) (_ : vs = [.ref g.p, .ref tf, .int ((c.R % 2 ^ (N + 1) : Nat) : Int), .int ((c.D % 2 ^ (N + 1) : Nat) : Int), .ref kn]) (_ : AO a H g G) (_ : H kn = some (.dT kvs)) (_ : kn ∉ Cu g) (_ : H tf = some (.tup (BQ q))) (_ : QAt G c (N + 1) i j q) (_ : SOk G c kvs) (_ : NN c) (_ : N < n) (_ : N <= 46) (_ : G.length + 49 * c.M < 8000000 + kvs.length /\ 49 * c.M < 4000000) (_ : ∀ (m : Nat) (G' : Gv) (kvs' : List (List Key × V)) (H' : Hp), Fx (frM g kn) H H' -> AO a H' g G' -> H' kn = some (.dT kvs') -> SOk G' c kvs' -> kvs.length <= kvs'.length -> AG G G' (kvs'.length - kvs.length + 1) -> UnS G N kvs kvs' -> Rs G' c (N + 1) i j m -> Q (.int m) H') : SpSq a n vs H Q
def spSq (a : Ad) (n : Nat) : Sp := fun vs H Q _ => SpSq a n vs H Q
theorem ok_sq {n d : Nat} (hd : 2 <= d) {f : Addr} {fd : FuncData} (F : Fun K "seen_quarters" "seen_quarters" BE f fd) (T : Top K mg a) (C_rows_of_quarters : Cal P w K mg base CX0 1 "rows_of_quarters" Bs (spRq a)) (M_Grove_linked : CM P w K mg base CX0 2 a.c_Grove "linked" AT (Fj a)) (C_seen_at : Cal P w K mg base CX0 d "seen_at" Du (QH a n)) : AY P w K mg base CX0 (d + 1) f fd Cw (spSq a n) := by
 refine F.ok Bd (fun vs H Q E h => ?_) (fun cdv A outer s H vs Q E hr h => ?_)
 ·obtain ⟨g, G, c, kn, tf, kvs, q, i, j, N, rfl, _⟩ := h
  rfl
 ·obtain ⟨g, G, c, kn, tf, kvs, q, i, j, N, rfl, fu, hk, nk, htf, qa, sok, sc, Nn, N46, ⟨few, few2⟩, k⟩ := h
  refine ⟨_, (Ab (Al (i := 5) Bd.nd rfl (Or.inl rfl) (Aq GL Ac (Aq AV (Ak AC (AQ (pv 0) rfl) (Ak Am (pv 1) Ac (fun _ _ => rfl)) (fun _ _ => rfl)) Ac))) (Ab (Al (i := 6) Bd.nd rfl (Or.inl rfl) (As C_rows_of_quarters (rm hr) rfl Ar (Aa (pv 0) (Aa (pv 1) Ae)))) (Ab (Al (i := 7) Bd.nd rfl (Or.inl rfl) (EV Ae)) (Ab (Dj PassesOwn.never rfl (Ed rfl T.b_range (AH Ae)) (BG (i := 8) Bd.nd rfl (Or.inl rfl)) (Ab (Al (i := 9) Bd.nd rfl (Or.inl rfl) (Aq AI (Aq Ic (pv 2) (pv 5)) (Aq Bl (pv 8) Ac))) (Ab (Al (i := 10) Bd.nd rfl (Or.inl rfl) (Aq AI (Aq Ic (pv 3) (pv 5)) (Aq Bw (pv 8) Ac))) (Ab (Al (i := 11) Bd.nd rfl (Or.inl rfl) (Cc (Aa (Ak Am (Ak AC (pv 6) (pv 10) (fun _ _ => rfl)) (pv 9) (fun _ _ => rfl)) (Aa (Ak Am (Ak AC (pv 6) (pv 10) (fun _ _ => rfl)) (Aq AI (pv 9) Ac) (fun _ _ => rfl)) (Aa (Ak Am (Ak AC (pv 6) (Aq AI (pv 10) Ac) (fun _ _ => rfl)) (pv 9) (fun _ _ => rfl)) (Aa (Ak Am (Ak AC (pv 6) (Aq AI (pv 10) Ac) (fun _ _ => rfl)) (Aq AI (pv 9) Ac) (fun _ _ => rfl)) Ae)))))) (Aj (DI (JE PySem.F.plainAttrs_list PySem.F.slot_list_append PySem.F.type_list_append Eh (pv 7) (Aa (As C_seen_at (rm hr) rfl Ar (Aa (pv 0) (Aa (pv 11) (Bk Bl (pv 2) (pv 5) (Bk Bl (pv 3) (pv 5) (Aa (pv 4) Ae)))))) Ae)))))))) (Aj (Aw (AU (pv 0) M_Grove_linked (rm hr) Ar (Aa (Fy Em rfl T.b_tuple PyProof.Rows.boot_tuple (Aa (pv 7) Ae)) Ae)))))))), ?_⟩
  try dsimp only [cxK]
  obtain ⟨sub, hs⟩ := sub4_of fu.ok qa.a.lev
  obtain ⟨q0, eq0, el0⟩ := id (qa.a.lev 0 (by decide))
  have hfv : (1 : Int) * 2 ^ (q0.lev - 1).toNat = ((2 ^ N : Nat) : Int) := by
   rw [el0, show (((N + 1 : Nat) : Int) - 1).toNat = N by lia, Int.one_mul, DJ]
  refine ⟨_, rfl, g.p, _, g.dx, _, _, rfl, fu.at'.hp, T.cl_Grove, T.na_Grove_levels, Ei g, _, rfl, tf, _, 0, .int (q 0 : Int), rfl, rfl, SqT.of htf, Af (j := 0) rfl, g.lv, _, (q 0 : Int), .int q0.lev, rfl, rfl, SqL.of fu.at'.lv, Af (by rw [List.getElem?_map, eq0]; rfl), _, _, rfl, rfl, _, _, rfl, rfl, ⟨by rw [el0]; lia, by rw [el0]; lia, by decide⟩, ?_⟩
  rw [show (fun (i j : Int) => V.int (i * 2 ^ j.toNat)) 1 ((fun (i j : Int) => i - j) q0.lev 1) = V.int ((2 ^ N : Nat) : Int) from congrArg V.int hfv]
  refine ⟨_, rfl, _, rfl, g, G, tf, q, N, sub, rfl, fu, htf, hs, fun L r0 r1 r2 r3 H2 s2 nL hL h0 h1 h2 h3 => ?_⟩
  refine ⟨(by show 0 <= sizeLine; decide), fun md hmd => ?_⟩
  have s3 := An (o := .lst []) hmd
  have hm3 : upd H2 md (.lst []) md = some (.lst []) := Ai
  show (NR _ _) _ _ (upd H2 md (.lst []))
  generalize upd H2 md (.lst []) = H3 at s3 hm3 ⊢
  have s13 := s2.trans s3
  have nmd : H md = none := AB.noneOf s2 hmd
  have rows : ∀ {r : Nat}, r < 4 -> ∃ x, [V.ref r0, V.ref r1, V.ref r2, V.ref r3][r]? = some (.ref x) /\ H3 x = some (.tup (BQ (gq sub r))) := fun {r} hr => by
   match r, hr with
   | 0, _ => exact ⟨r0, rfl, s3 _ _ h0⟩
   | 1, _ => exact ⟨r1, rfl, s3 _ _ h1⟩
   | 2, _ => exact ⟨r2, rfl, s3 _ _ h2⟩
   | 3, _ => exact ⟨r3, rfl, s3 _ _ h3⟩
  have hL3 := s3 _ _ hL
  have fu3 := fu.same s13
  have hk3 := s13 _ _ hk
  have gmd : md ∉ Cu g := fun z => by
   obtain ⟨oo, e⟩ := (fu.same s2).nw.s md z
   rw [hmd] at e
   cases e
  have kmd : md ≠ kn := fun z => by
   rw [z, hk] at nmd
   cases nmd
  have mF : md ∉ frM g kn := fun z => by
   simp only [frM, List.mem_cons, List.not_mem_nil, or_false] at z
   rcases z with z | z | z | z
   ·exact gmd (by rw [z]; simp [Cu])
   ·exact gmd (by rw [z]; simp [Cu])
   ·exact gmd (by rw [z]; simp [Cu])
   ·exact kmd z
  have LF : L ∉ md :: frM g kn := fun z => by
   rcases List.mem_cons.mp z with z | z
   ·rw [z] at hL
    rw [hmd] at hL
    cases hL
   ·simp only [frM, List.mem_cons, List.not_mem_nil, or_false] at z
    have ex : ∃ o, H L = some o := by
     rcases z with z | z | z | z
     ·exact fu.nw.s L (by rw [z]; simp [Cu])
     ·exact fu.nw.s L (by rw [z]; simp [Cu])
     ·exact fu.nw.s L (by rw [z]; simp [Cu])
     ·exact ⟨_, by rw [z]; exact hk⟩
    obtain ⟨o, e⟩ := ex
    rw [nL] at e
    cases e
  clear h0 h1 h2 h3 hL s2 s3
  have c2 : c.R % 2 ^ (N + 1) / 2 ^ N < 2 := Bg (Nat.mod_lt _ (AA _))
  have d2 : c.D % 2 ^ (N + 1) / 2 ^ N < 2 := Bg (Nat.mod_lt _ (AA _))
  have pN : 0 < 2 ^ N := AA N
  have pI : (0 : Int) < ((2 ^ N : Nat) : Int) := by lia
  have p64 : ((2 ^ N : Nat) : Int) < 2 ^ 64 := by
   have : 2 ^ N <= 2 ^ 46 := Nat.pow_le_pow_right (by decide) N46
   lia
  have erm : ∀ R : Nat, ((R % 2 ^ (N + 1) : Nat) : Int) % ((2 ^ N : Nat) : Int) = ((R % 2 ^ N : Nat) : Int) := fun R => by rw [<- Int.natCast_emod, DP]
  refine ⟨4, rfl, by decide, by decide, ?_⟩
  refine Dx (n := 4) (fun p σ H4 => ∃ (G4 : Gv) (kvs4 : List (List Key × V)) (ms : Nat -> Nat) (u8 u9 u10 u11 : Option V), σ = [some (.ref g.p), some (.ref tf), some (.int ((c.R % 2 ^ (N + 1) : Nat) : Int)), some (.int ((c.D % 2 ^ (N + 1) : Nat) : Int)), some (.ref kn), some (.int ((2 ^ N : Nat) : Int)), some (.ref L), some (.ref md), u8, u9, u10, u11] /\ Fx (md :: frM g kn) H3 H4 /\ H4 md = some (.lst ((List.range p).map fun x => V.int (ms x : Nat))) /\ AO a H4 g G4 /\ H4 kn = some (.dT kvs4) /\ SOk G4 c kvs4 /\ kvs.length <= kvs4.length /\ AG G G4 (kvs4.length - kvs.length) /\ UnS G N kvs kvs4 /\ ∀ x, x < p -> Rs G4 c N (2 * i + (c.R % 2 ^ (N + 1) / 2 ^ N + x % 2)) (2 * j + (c.D % 2 ^ (N + 1) / 2 ^ N + x / 2)) (ms x)) ⟨G, kvs, fun _ => 0, none, none, none, none, rfl, Fx.refl _ H3, hm3, fu3, hk3, sok, Nat.le_refl _, (AG.refl fu.ok).mono (by lia), UnS.refl _ _ _, fun x hx => absurd hx (Nat.not_lt_zero _)⟩ ?_ ?_
  ·rintro p σ H4 hp ⟨G4, kvs4, ms, u8, u9, u10, u11, rfl, x4, hm4, fu4, hk4, sok4, le4, go4, un4, mx4⟩
   have eC : ((c.R % 2 ^ (N + 1) : Nat) : Int) / ((2 ^ N : Nat) : Int) + (0 + (p : Int)) % 2 = ((c.R % 2 ^ (N + 1) / 2 ^ N + p % 2 : Nat) : Int) := by rw [<- Int.natCast_ediv]; lia
   have eD : ((c.D % 2 ^ (N + 1) : Nat) : Int) / ((2 ^ N : Nat) : Int) + (0 + (p : Int)) / 2 = ((c.D % 2 ^ (N + 1) / 2 ^ N + p / 2 : Nat) : Int) := by rw [<- Int.natCast_ediv]; lia
   have ag := (qa.inner hs hp).app fu.ok go4
   have C2 : c.R % 2 ^ (N + 1) / 2 ^ N + p % 2 < 3 := by lia
   have D2 : c.D % 2 ^ (N + 1) / 2 ^ N + p / 2 < 3 := by lia
   refine ⟨_, rfl, _, rfl, _, _, rfl, rfl, ⟨pI, p64⟩, _, rfl, _, _, rfl, rfl, (by show (0 : Int) < 2; decide), _, _, rfl, rfl, ?_⟩
   rw [show (fun (i j : Int) => V.int (i + j)) (((c.R % 2 ^ (N + 1) : Nat) : Int) / ((2 ^ N : Nat) : Int)) ((0 + (p : Int)) % 2) = V.int ((c.R % 2 ^ (N + 1) / 2 ^ N + p % 2 : Nat) : Int) from congrArg V.int eC]
   refine ⟨_, rfl, _, rfl, _, _, rfl, rfl, ⟨pI, p64⟩, _, rfl, _, _, rfl, rfl, ⟨by decide, by decide⟩, _, _, rfl, rfl, ?_⟩
   rw [show (fun (i j : Int) => V.int (i + j)) (((c.D % 2 ^ (N + 1) : Nat) : Int) / ((2 ^ N : Nat) : Int)) ((0 + (p : Int)) / 2) = V.int ((c.D % 2 ^ (N + 1) / 2 ^ N + p / 2 : Nat) : Int) from congrArg V.int eD]
   generalize hC : c.R % 2 ^ (N + 1) / 2 ^ N + p % 2 = C at ag C2 ⊢
   generalize hD' : c.D % 2 ^ (N + 1) / 2 ^ N + p / 2 = D' at ag D2 ⊢
   obtain ⟨y0, ey0, hy0⟩ := rows (r := D') (by lia)
   obtain ⟨y1, ey1, hy1⟩ := rows (r := D' + 1) (by lia)
   have hL4 := x4.get LF hL3
   have hy0 := x4.tup hy0
   have hy1 := x4.tup hy1
   have b0 := Jg (gq sub D') (k := C) (by lia)
   have b1 := Jg (gq sub D') (k := C + 1) (by lia)
   have b2 := Jg (gq sub (D' + 1)) (k := C) (by lia)
   have b3 := Jg (gq sub (D' + 1)) (k := C + 1) (by lia)
   refine ⟨_, rfl, _, rfl, L, _, (D' : Int), .ref y0, rfl, rfl, SqL.of hL4, Af ey0, _, rfl, y0, _, (C : Int), _, rfl, rfl, SqT.of hy0, Af b0, ?_⟩
   refine ⟨_, rfl, _, rfl, L, _, (D' : Int), .ref y0, rfl, rfl, SqL.of hL4, Af ey0, _, rfl, _, _, rfl, rfl, y0, _, ((C + 1 : Nat) : Int), _, rfl, rfl, SqT.of hy0, Af b1, ?_⟩
   refine ⟨_, rfl, _, rfl, _, _, rfl, rfl, L, _, ((D' + 1 : Nat) : Int), .ref y1, rfl, rfl, SqL.of hL4, Af ey1, _, rfl, y1, _, (C : Int), _, rfl, rfl, SqT.of hy1, Af b2, ?_⟩
   refine ⟨_, rfl, _, rfl, _, _, rfl, rfl, L, _, ((D' + 1 : Nat) : Int), .ref y1, rfl, rfl, SqL.of hL4, Af ey1, _, rfl, _, _, rfl, rfl, y1, _, ((C + 1 : Nat) : Int), _, rfl, rfl, SqT.of hy1, Af b3, ?_⟩
   refine ⟨(by show 4 <= sizeLine; decide), fun qp hqp => ?_⟩
   have s5 := An (o := .tup (BQ (Mt sub D' C))) hqp
   have h5 : upd H4 qp (.tup (BQ (Mt sub D' C))) qp = some (.tup (BQ (Mt sub D' C))) := Ai
   obtain ⟨H5, e5⟩ : ∃ H5, upd H4 qp (.tup (BQ (Mt sub D' C))) = H5 := ⟨_, rfl⟩
   have et : [V.int (gq sub D' C : Int), V.int (gq sub D' (C + 1) : Int), V.int (gq sub (D' + 1) C : Int), V.int (gq sub (D' + 1) (C + 1) : Int)] = BQ (Mt sub D' C) := rfl
   rw [et, e5]
   rw [e5] at s5 h5
   clear e5 et
   have x5 := x4.trans (AB.fx s5)
   have hm5 := s5 _ _ hm4
   have g4 := go4.few
   refine ⟨_, rfl, .inl ⟨rfl, _, SqL.of hm5⟩, _, rfl, _, rfl, _, rfl, _, rfl, _, _, rfl, rfl, pI, _, rfl, _, rfl, _, _, rfl, rfl, pI, _, rfl, ?_⟩
   refine ⟨g, G4, c, kn, qp, kvs4, Mt sub D' C, 2 * i + C, 2 * j + D', N, ?_, fu4.same s5, s5 _ _ hk4, nk, h5, ag, sok4, sc, Nn, by lia, ⟨by lia, few2⟩, fun m G6 kvs6 H6 x6 fu6 hk6 sok6 le6 go6 un6 mx6 => ?_⟩
   ·show [V.ref g.p, V.ref qp, V.int (((c.R % 2 ^ (N + 1) : Nat) : Int) % ((2 ^ N : Nat) : Int)), V.int (((c.D % 2 ^ (N + 1) : Nat) : Int) % ((2 ^ N : Nat) : Int)), V.ref kn] = _
    rw [erm, erm]
   have hm6 := x6.get mF hm5
   refine ⟨md, _, .int m, rfl, rfl, hm6, by rw [List.length_map, List.length_range]; exact EC (by lia), ?_⟩
   have x7 := Pf (o' := .lst (((List.range p).map fun x => V.int (ms x : Nat)) ++ [.int m])) hm6 (fun z => z)
   refine ⟨G6, kvs6, fun x => if x = p then m else ms x, _, _, _, _, rfl, (x5.trans (x6.mono (by simp [frM]))).trans (x7.mono (by simp)), ?_, fu6.fx x7 (fun y hy z => gmd (by rw [List.mem_singleton] at z; rw [<- z]; exact hy)), x7.get (by simpa using Ne.symm kmd) hk6, sok6, by lia, (go4.trans go6).mono (by lia), un4.trans go4 un6, fun x hx => ?_⟩
   ·rw [Ai, List.range_succ, List.map_append]
    congr 3
    ·exact List.map_congr_left fun x hx => by
      show V.int (ms x : Nat) = V.int ((if x = p then m else ms x : Nat) : Int)
      rw [if_neg (by have := List.mem_range.mp hx; lia)]
    ·show [V.int m] = [V.int ((if p = p then m else ms p : Nat) : Int)]
     rw [if_pos rfl]
   ·dsimp only
    by_cases z : x = p
    ·subst z
     rw [if_pos rfl, hC, hD']
     exact mx6
    ·rw [if_neg z]
     exact (mx4 x (by lia)).app fu4.ok go6
  ·rintro σ H4 ⟨G4, kvs4, ms, u8, u9, u10, u11, rfl, x4, hm4, fu4, hk4, sok4, le4, go4, un4, mx4⟩
   have g4 := go4.few
   obtain ⟨r4, e4⟩ := fu4.g0
   have l4 := sok4.len e4 fu4.ok sc
   refine ⟨_, rfl, g.p, g.dx, _, rfl, fu4.at'.hp, CC g, _, rfl, md, _, rfl, .inl ⟨SqL.of hm4, fun tl htl => ?_⟩⟩
   have s5 := An (o := .tup [.int (ms 0 : Nat), .int (ms 1 : Nat), .int (ms 2 : Nat), .int (ms 3 : Nat)]) htl
   refine ⟨g, G4, tl, ms 0, ms 1, ms 2, ms 3, (N : Int), rfl, fu4.at'.same s5, fu4.ok, Ai, ⟨(mx4 0 (by decide)).lev, (mx4 1 (by decide)).lev, (mx4 2 (by decide)).lev, (mx4 3 (by decide)).lev⟩, by lia, by lia, fun m G6 H6 fr6 hg6 go6 e6 => ?_⟩
   have x6 := fr6.fx (fu4.at'.same s5)
   have fu6 := (fu4.same s5).fr fr6 hg6 go6
   have x46 : Fx (md :: frM g kn) H3 H6 := (x4.trans (AB.fx s5)).trans (x6.mono (by simp [frM]))
   have kf : kn ∉ [g.lv, g.pt, g.nm] := fun z => nk (by simp [Cu] at *; lia)
   exact k m G6 kvs4 H6 (Fx.fresh s13 x46 nmd) fu6 (x6.get kf (s5 _ _ hk4)) (sok4.go fu4.ok go6) le4 (go4.trans go6) un4 (Rs.join (fun x hx => (mx4 x hx).app fu4.ok go6) e6)
theorem ok_saS {n d : Nat} {f : Addr} {fd : FuncData} (F : Fun K "seen_at" "seen_at" DV f fd) (T : Top K mg a) (hd : 1 <= d) (C_without_unseen : Cal P w K mg base CX0 1 "without_unseen" BR spWu) (C_seen_quarters : Cal P w K mg base CX0 d "seen_quarters" Cw (spSq a n)) : AY P w K mg base CX0 (d + 1) f fd Du (QH a (n + 1)) := by
 refine F.ok DT (fun vs H Q E h => ?_) (fun cdv A outer s H vs Q E hr h => ?_)
 ·obtain ⟨g, G, c, kn, tf, kvs, q, i, j, N, rfl, _⟩ := h
  rfl
 ·obtain ⟨g, G, c, kn, tf, kvs, q, i, j, N, rfl, fu, hk, nk, htf, ag, sok, sc, Nn, N47, few, k⟩ := h
  refine ⟨_, (Ab (Bh (PW.pt (LT (AL FD (pv 2) Ac (AM _)) (Jh (AL FD (pv 3) Ac (AM _))))) (Aj (Aw (Ak Am (pv 1) Ac (fun _ _ => rfl)))) AD) (Ab (Al (i := 5) DT.nd rfl (Or.inl rfl) (Ak AC (AQ (pv 0) rfl) (Ak AC (AQ (pv 0) rfl) (Ak Am (pv 1) Ac (fun _ _ => rfl)) (fun _ _ => rfl)) (fun _ _ => rfl))) (Ab (Al (i := 6) DT.nd rfl (Or.inl rfl) (As C_without_unseen (rm hr) rfl Ar (Aa (pv 1) (Aa (pv 2) (Aa (pv 3) (Aa (pv 5) Ae)))))) (Ab (Bh (AL (Iq hr.units) (pv 6) (Cc (Aa (pv 5) (Aa (pv 5) (Aa (pv 5) (Aa (pv 5) Ae))))) (AM _)) (Aj (Aw (pv 5))) AD) (Ab (Al (i := 7) DT.nd rfl (Or.inl rfl) (JD (FW hr) (pv 4) (pv 6) ⟨rfl, rfl, rfl, rfl⟩)) (Ab (Bh (AL GM (pv 7) Fl (AM _)) (Ab (Al (i := 7) DT.nd rfl (Or.inl rfl) (As C_seen_quarters (rm hr) rfl Ar (Aa (pv 0) (Aa (pv 6) (Aa (pv 2) (Aa (pv 3) (Aa (pv 4) Ae))))))) (Aj (FP (FW hr) (pv 4) (pv 6) (pv 7) rfl))) AD) (Aj (Aw (pv 7))))))))), ?_⟩
  try dsimp only [cxK]
  obtain ⟨r0, e0⟩ := fu.g0
  have back : ∀ {m : Nat} {H' : Hp}, AB H H' -> Rs G c N i j m -> Q (.int m) H' := fun {m H'} s' mx => k m G kvs H' (AB.fx s') (fu.same s') (s' _ _ hk) sok (Nat.le_refl _) ((AG.refl fu.ok).mono (by lia)) (UnS.refl _ _ _) mx
  refine ⟨_, rfl, rfl, _, rfl, ?_⟩
  rw [Ru]
  apply meetH (fun σ H' => H = H' /\ σ = [some (.ref g.p), some (.ref tf), some (.int ((c.R % 2 ^ N : Nat) : Int)), some (.int ((c.D % 2 ^ N : Nat) : Int)), some (.ref kn), none, none, none] /\ ¬ (c.R % 2 ^ N = 0 /\ c.D % 2 ^ N = 0))
  ·intro rest
   by_cases z1 : c.R % 2 ^ N = 0
   ·rw [decide_eq_true z1]
    refine Da ⟨_, rfl, rfl, _, rfl, ?_⟩
    rw [Ru]
    by_cases z2 : c.D % 2 ^ N = 0
    ·rw [decide_eq_true z2]
     exact Da ⟨_, rfl, tf, _, 0, .int (q 0 : Int), rfl, rfl, SqT.of htf, Af (j := 0) rfl, back (AB.refl H) (ag.first z1 z2)⟩
    ·rw [decide_eq_false z2]
     exact BC (rest _ _ ⟨rfl, rfl, fun z => z2 z.2⟩)
   ·rw [decide_eq_false z1]
    exact BC (BC (rest _ _ ⟨rfl, rfl, fun z => z1 z.1⟩))
  rintro σ H' ⟨rfl, rfl, nz⟩
  have qa := ag.wu e0 fu.ok (by lia) nz
  obtain ⟨q0, eq0, el0⟩ := id (ag.lev 0 (by decide))
  refine ⟨_, rfl, g.p, _, g.dx, _, _, rfl, fu.at'.hp, T.cl_Grove, T.na_Grove_bares, Gh g, _, rfl, g.p, _, g.dx, _, _, rfl, fu.at'.hp, T.cl_Grove, T.na_Grove_levels, Ei g, _, rfl, tf, _, 0, .int (q 0 : Int), rfl, rfl, SqT.of htf, Af (j := 0) rfl, g.lv, _, (q 0 : Int), .int q0.lev, rfl, rfl, SqL.of fu.at'.lv, Af (by rw [List.getElem?_map, eq0]; rfl), g.br, _, (N : Int), .int (bareN N : Int), rfl, by rw [el0], SqL.of fu.br, Af (bareL_at' (by lia)), ?_⟩
  refine ⟨_, rfl, _, rfl, _, rfl, _, rfl, tf, q, c.R, c.D, N, rfl, htf, fun t' H1 s1 ht' => ?_⟩
  generalize wuQ c.R c.D N q = q' at qa ht'
  refine ⟨_, rfl, _, rfl, _, rfl, _, rfl, _, rfl, (by show 4 <= sizeLine; decide), fun tb htb => ?_⟩
  have s2 := An (o := .tup [.int (bareN N : Int), .int (bareN N : Int), .int (bareN N : Int), .int (bareN N : Int)]) htb
  have hb2 : upd H1 tb (.tup [.int (bareN N : Int), .int (bareN N : Int), .int (bareN N : Int), .int (bareN N : Int)]) tb = some (.tup (BQ fun _ => bareN N)) := Ai
  show ∃ _, _
  generalize upd H1 tb (.tup [.int (bareN N : Int), .int (bareN N : Int), .int (bareN N : Int), .int (bareN N : Int)]) = H2 at s2 hb2 ⊢
  have s12 := s1.trans s2
  have ht2 := s2 _ _ ht'
  have tq : ∀ q : Nat -> Nat, BQ q = ([(q 0 : Int), (q 1 : Int), (q 2 : Int), (q 3 : Int)] : List Int).map V.int := fun q => rfl
  refine ⟨t', tb, [(q' 0 : Int), (q' 1 : Int), (q' 2 : Int), (q' 3 : Int)], [(bareN N : Int), (bareN N : Int), (bareN N : Int), (bareN N : Int)], rfl, rfl, SqT.of (by rw [<- tq]; exact ht2), SqT.of hb2, _, rfl, Ms (fun z => ?_) (fun z => ?_)⟩
  ·have z := of_decide_eq_true z
   obtain ⟨z0, z1, z2, z3⟩ := cast4' z
   refine ⟨_, rfl, back s12 (qa.bare e0 fu.ok (by lia) fun k hk => ?_)⟩
   match k, hk with
   | 0, _ => exact z0
   | 1, _ => exact z1
   | 2, _ => exact z2
   | 3, _ => exact z3
  have nb : ∃ k, k < 4 /\ q' k ≠ bareN N := Classical.byContradiction fun y => z (decide_eq_true (by
   have y : ∀ k, k < 4 -> q' k = bareN N := fun k hk => Classical.byContradiction fun w => y ⟨k, hk, w⟩
   rw [y 0 (by decide), y 1 (by decide), y 2 (by decide), y 3 (by decide)]))
  clear hb2 z htb
  have hk2 := s12 _ _ hk
  have fu2 := fu.same s12
  have htk : H2 t' = some (.tup ((kQ q').map kV)) := ht2
  refine ⟨_, rfl, kn, rfl, .inr ⟨kvs, .inl hk2⟩, _, rfl, _, IZ.t hk2 htk, ?_⟩
  cases ev : Bv kvs (kQ q') with
  | some v =>
   obtain ⟨n', i', j', q'', m, en⟩ := sok.val _ (MH ev)
   have e2 := en.e
   injection e2 with e2 e3
   subst e3
   have eqq := RL e2
   have en' : n' = N := Int.ofNat.inj ((en.at'.a.lev 0 (by decide)).uniq (by rw [<- eqq 0 (by decide)]; exact qa.a.lev 0 (by decide)))
   subst en'
   have qa' : QAt G c n' i' j' q' := ⟨⟨qa.a.lev, fun x y hx hy m1 m2 => by rw [eqq _ (BT hx hy)]; exact en.at'.a.ag x y hx hy m1 m2⟩, fun x y hx hy m1 => by rw [eqq _ (BT hx hy)]; exact en.at'.off x y hx hy m1⟩
   exact ⟨_, rfl, rfl, _, rfl, BC ⟨_, rfl, back s12 (qa.hit qa' en.rs)⟩⟩
  | none =>
   refine ⟨_, rfl, rfl, _, rfl, Da ?_⟩
   obtain ⟨M, rfl⟩ : ∃ M, N = M + 1 := by
    cases N with
    | zero => exact absurd ⟨Nat.mod_one _, Nat.mod_one _⟩ nz
    | succ M => exact ⟨M, rfl⟩
   refine ⟨_, rfl, _, rfl, _, rfl, _, rfl, _, rfl, ?_⟩
   refine ⟨g, G, c, kn, t', kvs, q', i, j, M, rfl, fu2, hk2, nk, ht2, qa, sok, sc, by lia, by lia, few, fun m G3 kvs3 H3 x3 fu3 hk3 sok3 le3 go3 un3 rs3 => ?_⟩
   have g3 := go3.few
   obtain ⟨r3, e3⟩ := fu3.g0
   have l3 := sok3.len e3 fu3.ok sc
   have no3 : Bv kvs3 (kQ q') = none := un3 q' (M + 1) (qa.a.lev 0 (by decide)) (by lia) ev
   have htk3 : H3 t' = some (.tup ((kQ q').map kV)) := x3.tup htk
   refine ⟨_, rfl, _, rfl, _, rfl, kn, _, rfl, IW.t (k := kQ q') hk3 htk3 (EC (by lia)), ?_⟩
   obtain ⟨sok4, len4⟩ := sok3.put ⟨rfl, qa.app fu.ok go3, rs3, nb, by lia⟩ no3
   have x4 := Pf (o' := .dT (Di kvs3 (kQ q') (.int m))) hk3 (fun z => z)
   have fu4 := fu3.fx x4 (fun y hy z => nk (by rw [List.mem_singleton] at z; rw [<- z]; exact hy))
   refine ⟨_, rfl, k m G3 _ _ (((AB.fx s12).trans x3).trans (x4.mono (by simp [frM]))) fu4 Ai sok4 (by lia) (go3.mono (by lia)) ?_ rs3⟩
   intro q9 N' hN hlt z
   rw [Jr, if_neg]
   ·exact un3 q9 N' hN (by lia) z
   ·intro y
    have := RL y 0 (by decide)
    rw [this] at hN
    have := Int.ofNat.inj (hN.uniq (qa.a.lev 0 (by decide)))
    lia
theorem ok_sa {f : Addr} {fd : FuncData} {f' : Addr} {fd' : FuncData} (F : Fun K "seen_at" "seen_at" DV f fd) (F' : Fun K "seen_quarters" "seen_quarters" BE f' fd') (T : Top K mg a) (hm : mg "seen_at" = some (.ref f)) (Bi : DA K fd Du []) (hm' : mg "seen_quarters" = some (.ref f')) (Bi' : DA K fd' Cw []) (C_without_unseen : Cal P w K mg base CX0 1 "without_unseen" BR spWu) (C_rows_of_quarters : Cal P w K mg base CX0 1 "rows_of_quarters" Bs (spRq a)) (M_Grove_linked : CM P w K mg base CX0 2 a.c_Grove "linked" AT (Fj a)) : ∀ n, AY P w K mg base CX0 (2 * n + 2) f fd Du (QH a n)
 | 0 => by
  refine F.ok DT (fun vs H Q E h => ?_) (fun cdv A outer s H vs Q E hr h => ?_)
  ·obtain ⟨g, G, c, kn, tf, kvs, q, i, j, N, rfl, _, _, _, _, _, _, _, h0, _⟩ := h
   exact absurd h0 (Nat.not_lt_zero _)
  ·obtain ⟨g, G, c, kn, tf, kvs, q, i, j, N, rfl, _, _, _, _, _, _, _, h0, _⟩ := h
   exact absurd h0 (Nat.not_lt_zero _)
 | n + 1 => ok_saS F T (by lia) C_without_unseen ⟨f', fd', ok_sq (d := 2 * n + 2) (by lia) F' T C_rows_of_quarters M_Grove_linked ⟨f, fd, ok_sa F F' T hm Bi hm' Bi' C_without_unseen C_rows_of_quarters M_Grove_linked n, hm, F.kp, Bi⟩, hm', F'.kp, Bi'⟩
end
end J
namespace J
open PySem L2
seal L2.PA L2.PE L2.PS L2.PSs L2.PT L2.PW
def frA (g : GA) : List Addr := [g.lv, g.pt, g.nm, g.am, g.bx]
theorem Gr {G : Gv} {n f : Nat} {x y : Int} (h : ¬ (-(2 ^ n) <= x /\ x < 2 ^ n /\ -(2 ^ n) <= y /\ y < 2 ^ n)) : AF G n f x y = 0 := if_neg h
def Ev (N px py w k : Nat) : Nat := if k = px + 2 * py then w else bareN N
theorem four_ag {G r : Gv} (e0 : G = G0 ++ r) (ok : GOk G) {n w px py M R D : Nat} {cl : Nat -> Nat -> Nat -> Nat} (hn : n <= 46) (hp : px < 2) (hq : py < 2) (lw : Ao G w ((n + 1 : Nat) : Int)) {φ : Int -> Int -> Nat} (e : ∀ u v, AF G n w u v = φ u v) : Ag G ⟨fun x y => φ ((x : Int) - (px * 2 ^ (n + 1) + 2 ^ n)) ((y : Int) - (py * 2 ^ (n + 1) + 2 ^ n)), R, D, M, cl⟩ (n + 1) 0 0 (Ev (n + 1) px py w) := by
 have ps := Gc n
 have p0 := AA n
 have c1 := DJ n
 have c2 := DJ (n + 1)
 refine ⟨fun k hk => ?_, fun x y hx hy _ _ => ?_⟩
 ·unfold Ev
  split
  ·exact lw
  ·exact Cq e0 (by lia)
 obtain ⟨p1, p2⟩ := EU hx hy
 have h1 := Bg hx
 have h2 := Bg hy
 have m1 := Nat.mod_lt x (AA (n + 1))
 have m2 := Nat.mod_lt y (AA (n + 1))
 have d1 := Nat.div_add_mod x (2 ^ (n + 1))
 have d2 := Nat.div_add_mod y (2 ^ (n + 1))
 show _ = φ (((0 * 2 ^ (n + 1) + x : Nat) : Int) - (px * 2 ^ (n + 1) + 2 ^ n)) (((0 * 2 ^ (n + 1) + y : Nat) : Int) - (py * 2 ^ (n + 1) + 2 ^ n))
 rw [Nat.zero_mul, Nat.zero_add, Nat.zero_add, <- e]
 by_cases z : x / 2 ^ (n + 1) = px /\ y / 2 ^ (n + 1) = py
 ·have eq : Ev (n + 1) px py w (quad (n + 1) x y) = w := by
   unfold Ev
   rw [if_pos (by lia)]
  rw [eq]
  rw [z.1] at d1
  rw [z.2] at d2
  have ex : (x : Int) - (px * 2 ^ (n + 1) + 2 ^ n) = ((x % 2 ^ (n + 1) : Nat) : Int) - 2 ^ n := by
   have : (x : Int) = ((2 ^ (n + 1) * px + x % 2 ^ (n + 1) : Nat) : Int) := by rw [d1]
   rw [this, Int.natCast_add, Int.natCast_mul, c2]
   rw [Int.mul_comm ((2 : Int) ^ (n + 1))]
   lia
  have ey : (y : Int) - (py * 2 ^ (n + 1) + 2 ^ n) = ((y % 2 ^ (n + 1) : Nat) : Int) - 2 ^ n := by
   have : (y : Int) = ((2 ^ (n + 1) * py + y % 2 ^ (n + 1) : Nat) : Int) := by rw [d2]
   rw [this, Int.natCast_add, Int.natCast_mul, c2]
   rw [Int.mul_comm ((2 : Int) ^ (n + 1))]
   lia
  rw [ex, ey]
  generalize x % 2 ^ (n + 1) = X at m1
  generalize y % 2 ^ (n + 1) = Y at m2
  unfold AF
  rw [if_pos (by rw [<- c1]; lia)]
  congr 1
  ·lia
  ·lia
 ·have eq : Ev (n + 1) px py w (quad (n + 1) x y) = bareN (n + 1) := by
   unfold Ev
   rw [if_neg (by lia)]
  rw [eq, Cp e0 ok (by lia) m1 m2]
  refine (Gr ?_).symm
  have far : ∀ {x px : Nat}, x / 2 ^ (n + 1) ≠ px -> ¬ (-(2 ^ n) <= (x : Int) - (px * 2 ^ (n + 1) + 2 ^ n) /\ (x : Int) - (px * 2 ^ (n + 1) + 2 ^ n) < 2 ^ n) := fun {x px} ne h => ne (by
   rw [<- c1, <- c2] at h
   have h1 : px * 2 ^ (n + 1) <= x := by
    have : ((px * 2 ^ (n + 1) : Nat) : Int) <= x := by rw [Int.natCast_mul]; lia
    lia
   have h2 : x < (px + 1) * 2 ^ (n + 1) := by
    have : (x : Int) < ((px * 2 ^ (n + 1) + 2 ^ (n + 1) : Nat) : Int) := by rw [Int.natCast_add, Int.natCast_mul]; lia
    rw [Nat.add_mul, Nat.one_mul]
    lia
   exact Nat.div_eq_of_lt_le h1 h2)
  intro h
  by_cases z1 : x / 2 ^ (n + 1) = px
  ·exact far (fun q => z ⟨z1, q⟩) ⟨h.2.2.1, h.2.2.2⟩
  ·exact far z1 ⟨h.1, h.2.1⟩
section
variable {P : Program} {w : World} {K : PySem.W.Frag} {mg : Str -> Option Value} {base : Heap} {a : Ad}
theorem ixN_nat {n j : Nat} (h : j < n) : ixN n (j : Int) = some j := by
 unfold ixN
 rw [if_pos (by lia), if_pos (by lia), Int.toNat_natCast]
theorem OH {σ : St} {i : Nat} {dx c : Int} {H : Hp} {Q : VK} (h : σ[i]? = some (some (.int dx))) (q : Q (.int (if 0 < dx then c else 0)) H) : tIf (MJ (tOp (rI0 fun i j => V.bl (decide (j < i))) (JY i) (tC (V.int 0)))) (tC (V.int c)) (tC (V.int 0)) σ H Q := by
 refine ⟨_, h, _, _, rfl, rfl, _, rfl, ?_⟩
 by_cases z : 0 < dx
 ·rw [if_pos z] at q
  rw [decide_eq_true z]
  exact Da q
 ·rw [if_neg z] at q
  rw [decide_eq_false z]
  exact BC q
theorem MP {n : Nat} {dx l w : Int} (h1 : -(2 ^ n) <= l) (h2 : l < 2 ^ n) (h3 : -(2 ^ n) <= l + dx) (h4 : l + dx < 2 ^ n) : ∃ (px R : Nat), px < 2 /\ (if 0 < dx then (1 : Int) else 0) = px /\ R < 2 ^ (n + 1) /\ -dx % (2 * 2 ^ n) = (R : Int) /\ (R : Int) - px * 2 ^ (n + 1) = -dx := by
 have e := Ec n
 have c2 := DJ (n + 1)
 by_cases z : 0 < dx
 ·refine ⟨1, (2 ^ (n + 1) - dx).toNat, by decide, if_pos z, by lia, ?_, by lia⟩
  rw [show -dx = (2 ^ (n + 1) - dx) + (2 * 2 ^ n) * (-1) by lia, Int.add_mul_emod_self_left, Int.emod_eq_of_lt (by lia) (by lia)]
  lia
 ·refine ⟨0, (-dx).toNat, by decide, if_neg z, by lia, ?_, by lia⟩
  rw [Int.emod_eq_of_lt (by lia) (by lia)]
  lia
def Tgt (G : Gv) (n f : Nat) (dx dy : Int) (li : Prop) : Prop := ∀ b, BH G (n + 1) f = some b -> (BU ((mvB (2 ^ n) b).l + dx) ((mvB (2 ^ n) b).t + dy) (mvB (2 ^ n) b).w (mvB (2 ^ n) b).h (2 ^ 40) ↔ li)
inductive SpMv (a : Ad) (vs : List V) (H : Hp) (Q : VK) : Prop
 | mk (g : GA) (G : Gv) (f n M : Nat) (dx dy : Int) (φ : Int -> Int -> Nat) (_ : vs = [.ref g.p, .int f, .int dx, .int dy]) (_ : AO a H g G) (_ : Fd G n f) (_ : ∀ u v, AF G n f u v = φ u v) (_ : Tgt G n f dx dy True) (_ : ∀ (ax ay : Int) (R D : Nat), ∃ cl, NN ⟨fun x y => φ ((x : Int) - ax) ((y : Int) - ay), R, D, M, cl⟩) (_ : 49 * M < 1000000) (_ : G.length < 6000000) (_ : ∀ (r m : Nat) (G' : Gv) (H' : Hp), Fx (frA g) H H' -> AO a H' g G' -> AG G G' (49 * M + 700) -> Fd G' m r -> (∀ u v, AF G' m r u v = φ (u - dx) (v - dy)) -> Q (.int r) H') : SpMv a vs H Q
def spMv (a : Ad) : Sp := fun vs H Q _ => SpMv a vs H Q
theorem ok_mv {f : Addr} {fd : FuncData} (F : Fun K "moved_by" "moved_by" DY f fd) (T : Top K mg a) (C_box_of : Cal P w K mg base CX0 102 "box_of" FC (Jf a)) (C_shifted_box : Cal P w K mg base CX0 1 "shifted_box" BJ Gp) (C_lies_within : Cal P w K mg base CX0 1 "lies_within" BK Ln) (C_widened_over : Cal P w K mg base CX0 5 "widened_over" BS (QG a)) (C_reach_of : Cal P w K mg base CX0 4 "reach_of" Ct (FL a)) (M_Grove_level_of : CM P w K mg base CX0 3 a.c_Grove "level_of" AW (Jv a)) (C_trimmed : Cal P w K mg base CX0 4 "trimmed" Ee (Jt a)) (C_seen_at : Cal P w K mg base CX0 102 "seen_at" Du (QH a 50)) : AY P w K mg base CX0 103 f fd EW (spMv a) := by
 refine F.ok CH (fun vs H Q E h => ?_) (fun cdv A outer s H vs Q E hr h => ?_)
 ·obtain ⟨g, G, f', n, M, dx, dy, φ, rfl, _⟩ := h
  rfl
 ·obtain ⟨g, G, f', n, M, dx, dy, φ, rfl, fu, fd', ef, tgt, hcl, M1, few, k⟩ := h
  refine ⟨_, (Ab (Al (i := 4) CH.nd rfl (Or.inl rfl) (As C_box_of (rm hr) rfl Ar (Aa (pv 0) (Aa (pv 1) Ae)))) (Ab (Bh (AL GM (pv 4) Fl (AM _)) (Aj (Aw (pv 1))) AD) (Ab (Al (i := 5) CH.nd rfl (Or.inl rfl) (As C_shifted_box (rm hr) rfl Ar (Aa (pv 4) (Aa (pv 2) (Aa (pv 3) Ae))))) (Ab (Bh (CD (Cs (As C_lies_within (rm hr) rfl Ar (Aa (pv 5) (Aa (Df rfl T.k_LIMIT) Ae))))) (Aj CJ) AD) (Ab (Al (i := 6) CH.nd rfl (Or.inl rfl) (As C_widened_over (rm hr) rfl Ar (Aa (pv 0) (Aa (pv 1) (Aa (pv 5) Ae))))) (Ab (Al (i := 7) CH.nd rfl (Or.inl rfl) (Aq Ez Ac (As C_reach_of (rm hr) rfl Ar (Aa (pv 0) (Aa (pv 6) Ae))))) (Ab (Al (i := 8) CH.nd rfl (Or.inl rfl) (Ak AC (AQ (pv 0) rfl) (AU (pv 0) M_Grove_level_of (rm hr) Ar (Aa (pv 6) Ae)) (fun _ _ => rfl))) (Ab (Al (i := 9) CH.nd rfl (Or.inl rfl) (EV (Aa (pv 8) (Aa (pv 8) (Aa (pv 8) (Aa (pv 8) Ae)))))) (Ab (QX (pv 6) (QZ (pv 9) (Aq AI (Nb (AL Nf (pv 2) Ac (AM _)) Ac Ac) (Nb (AL Nf (pv 3) Ac (AM _)) Ac Ac)) MQ)) (Aj (Aw (As C_trimmed (rm hr) rfl Ar (Aa (pv 0) (Aa (As C_seen_at (rm hr) rfl Ar (Aa (pv 0) (Aa (Fy Em rfl T.b_tuple PyProof.Rows.boot_tuple (Aa (pv 9) Ae)) (Bk Bl (En CG (pv 2)) (pv 7) (Bk Bl (En CG (pv 3)) (pv 7) (Aa GZ Ae)))))) Ae)))))))))))))), ?_⟩
  try dsimp only [cxK]
  have n40 := fd'.le
  refine ⟨_, rfl, _, rfl, g, G, f', n, rfl, fu, fd'.lev, by lia, by lia, fun bn H1 fr1 fu1 => ?_, fun b hb t H1 fr1 fu1 ht => ?_⟩
  ·refine ⟨_, rfl, rfl, _, rfl, Da ⟨_, rfl, ?_⟩⟩
   have z := fun u v => JI fu.ok fd'.lev bn u v
   exact k f' n G H1 ((fr1.fx fu).mono (by simp [frA])) fu1 ((AG.refl fu.ok).mono (by lia)) fd' fun u v => by rw [z u v, <- ef, z]
  have tg := (tgt b hb).mpr trivial
  have ti := FY fu.ok fd'.lev hb
  generalize mvB (2 ^ n) b = bx at tg ti ht
  refine ⟨_, rfl, rfl, _, rfl, BC ?_⟩
  refine ⟨_, rfl, _, rfl, _, rfl, t, bx, dx, dy, rfl, ht, fun t2 ht2 => ?_⟩
  have s2 := An (o := .tup [.int (bx.l + dx), .int (bx.t + dy), .int bx.w, .int bx.h]) ht2
  have h2 : upd H1 t2 (.tup [.int (bx.l + dx), .int (bx.t + dy), .int bx.w, .int bx.h]) t2 = some (.tup [.int (bx.l + dx), .int (bx.t + dy), .int bx.w, .int bx.h]) := Ai
  show (NR _ _) _ _ _
  generalize upd H1 t2 (.tup [.int (bx.l + dx), .int (bx.t + dy), .int bx.w, .int bx.h]) = H2 at s2 h2 ⊢
  have fu2 := fu1.same s2
  refine ⟨_, rfl, t2, bx.l + dx, bx.t + dy, bx.w, bx.h, 2 ^ 40, rfl, h2, _, rfl, ?_⟩
  rw [decide_eq_true tg]
  refine BC ⟨_, rfl, _, rfl, _, rfl, g, G, f', n, t2, _, _, _, _, rfl, fu2, fd'.lev, n40, h2, tg, by lia, fun j w' G3 H3 fr3 fu3 go3 nk wi lw liw _ => ?_⟩
  have g3 := go3.few
  obtain ⟨r3, e3⟩ := fu3.g0
  have ew : ∀ u v, AF G3 (n + j) w' u v = φ u v := fun u v => by rw [EQ e3 fu3.ok (by lia) wi, Dy fu.ok go3 fd'.lev, ef]
  have tiw : CF (fun u v => φ u v ≠ 0) bx := ti.congr fun u v => by rw [ef]
  have x3 : Fx (frA g) H H3 := (((fr1.fx fu).mono (by simp [frA])).trans (AB.fx s2)).trans ((fr3.fx fu2.at').mono (by simp [frA]))
  have j40 : j <= 40 := by lia
  generalize n + j = n0 at *
  clear wi fu2 h2 fr3 s2 ht2 fu1 fr1 ht ti tgt
  obtain ⟨qw, eqw, elw⟩ := id lw
  refine ⟨_, rfl, _, rfl, g, G3, w', n0, rfl, fu3.at', lw, by lia, _, _, rfl, rfl, .inl ⟨by decide, by decide⟩, ?_⟩
  refine ⟨_, rfl, g.p, _, g.dx, _, _, rfl, fu3.at'.hp, T.cl_Grove, T.na_Grove_bares, Gh g, _, rfl, g.p, g.dx, _, rfl, fu3.at'.hp, EZ g, _, rfl, g, G3, w', qw, rfl, fu3.at', eqw, g.br, _, ((n0 + 1 : Nat) : Int), .int (bareN (n0 + 1) : Int), rfl, by rw [elw], SqL.of fu3.br, Af (bareL_at' (by lia)), ?_⟩
  refine ⟨_, rfl, _, rfl, _, rfl, _, rfl, (by show 4 <= sizeLine; decide), fun L hL => ?_⟩
  have s4 := An (o := .lst (BQ fun _ => bareN (n0 + 1))) hL
  have hL4 : upd H3 L (.lst (BQ fun _ => bareN (n0 + 1))) L = some (.lst (BQ fun _ => bareN (n0 + 1))) := Ai
  have pn := Ff n0
  have e2 := Ec n0
  have inW : ∀ {u v : Int}, φ u v ≠ 0 -> -(2 ^ n0) <= u /\ u < 2 ^ n0 /\ -(2 ^ n0) <= v /\ v < 2 ^ n0 := fun {u v} z => Classical.byContradiction fun y => z (by rw [<- ew]; exact Gr y)
  obtain ⟨vl, hl⟩ := tiw.le
  obtain ⟨ut, hu⟩ := tiw.to
  have il := inW hl
  have it := inW hu
  have bl := tiw.inn _ _ hl
  have bt := tiw.inn _ _ hu
  have lw' := liw
  unfold BU at lw'
  obtain ⟨px, R, px2, epx, R1, eR, sR⟩ := MP (n := n0) (dx := dx) (l := bx.l) (w := bx.w) il.1 il.2.1 (by lia) (by lia)
  obtain ⟨py, D, py2, epy, D1, eD, sD⟩ := MP (n := n0) (dx := dy) (l := bx.t) (w := bx.h) it.2.2.1 it.2.2.2 (by lia) (by lia)
  have epy2 : (if 0 < dy then (2 : Int) else 0) = 2 * py := by
   rw [<- epy]
   split <;> rfl
  refine ⟨_, rfl, _, rfl, OH rfl (OH rfl ?_)⟩
  rw [epx, epy2]
  have setL : (BQ fun _ => bareN (n0 + 1)).set (px + 2 * py) (.int w') = BQ (Ev (n0 + 1) px py w') := by
   unfold BQ Ev
   match px, px2, py, py2 with
   | 0, _, 0, _ => rfl
   | 1, _, 0, _ => rfl
   | 0, _, 1, _ => rfl
   | 1, _, 1, _ => rfl
  refine ⟨_, _, rfl, rfl, L, BQ fun _ => bareN (n0 + 1), ((px + 2 * py : Nat) : Int), px + 2 * py, rfl, congrArg V.int (by lia), hL4, ixN_nat (by show px + 2 * py < 4; lia), ?_⟩
  rw [setL]
  have s5 : AB H3 (upd (upd H3 L (.lst (BQ fun _ => bareN (n0 + 1)))) L (.lst (BQ (Ev (n0 + 1) px py w')))) := fun b o e => by rw [Av (At e hL)]; exact s4 _ _ e
  have hL5 : upd (upd H3 L (.lst (BQ fun _ => bareN (n0 + 1)))) L (.lst (BQ (Ev (n0 + 1) px py w'))) L = some (.lst (BQ (Ev (n0 + 1) px py w'))) := Ai
  obtain ⟨H5, e5⟩ : ∃ H5, upd (upd H3 L (.lst (BQ fun _ => bareN (n0 + 1)))) L (.lst (BQ (Ev (n0 + 1) px py w'))) = H5 := ⟨_, rfl⟩
  have et : [V.int (bareN (n0 + 1) : Int), V.int (bareN (n0 + 1) : Int), V.int (bareN (n0 + 1) : Int), V.int (bareN (n0 + 1) : Int)] = BQ fun _ => bareN (n0 + 1) := rfl
  rw [et, e5]
  rw [e5] at s5 hL5
  clear e5 et
  refine ⟨_, rfl, _, rfl, _, rfl, L, _, rfl, .inl ⟨SqL.of hL5, fun tf htf => ?_⟩⟩
  have s6 := s5.trans (An (o := .tup (BQ (Ev (n0 + 1) px py w'))) htf)
  have h6 : upd H5 tf (.tup (BQ (Ev (n0 + 1) px py w'))) tf = some (.tup (BQ (Ev (n0 + 1) px py w'))) := Ai
  generalize upd H5 tf (.tup (BQ (Ev (n0 + 1) px py w'))) = H6 at s6 h6 ⊢
  have sz : (0 : Int) < 2 * 2 ^ n0 := by lia
  refine ⟨_, rfl, _, rfl, _, rfl, _, _, rfl, rfl, sz, _, rfl, _, rfl, _, rfl, _, _, rfl, rfl, sz, fun kn hkn => ?_⟩
  have s7 := s6.trans (An (o := .dT []) hkn)
  have h7 := An (o := .dT []) hkn _ _ h6
  have hk7 : upd H6 kn (.dT []) kn = some (.dT []) := Ai
  generalize upd H6 kn (.dT []) = H7 at s7 h7 hk7 ⊢
  have fu7 := fu3.same s7
  have nkn : H3 kn = none := AB.noneOf s6 hkn
  have kg : kn ∉ Cu g := fun z => by
   obtain ⟨o1, e1⟩ := fu3.nw.s kn z
   rw [nkn] at e1
   cases e1
  obtain ⟨cl, sco⟩ := hcl (px * 2 ^ (n0 + 1) + 2 ^ n0) (py * 2 ^ (n0 + 1) + 2 ^ n0) R D
  have ag := four_ag (R := R) (D := D) (M := M) (cl := cl) e3 fu3.ok (by lia) px2 py2 lw ew
  refine ⟨g, G3, _, kn, tf, [], Ev (n0 + 1) px py w', 0, 0, n0 + 1, ?_, fu7, hk7, kg, h7, ag, sok0 _ _, sco, by lia, by lia, ⟨by show G3.length + 49 * M < 8000000 + 0; lia, by show 49 * M < 4000000; lia⟩, fun m G8 kvs8 H8 x8 fu8 hk8 sok8 le8 go8 un8 rs8 => ?_⟩
  ·show [V.ref g.p, V.ref tf, V.int (-dx % (2 * 2 ^ n0)), V.int (-dy % (2 * 2 ^ n0)), V.ref kn] = [V.ref g.p, V.ref tf, V.int ((R % 2 ^ (n0 + 1) : Nat) : Int), V.int ((D % 2 ^ (n0 + 1) : Nat) : Int), V.ref kn]
   rw [eR, eD, Nat.mod_eq_of_lt R1, Nat.mod_eq_of_lt D1]
  obtain ⟨r8, e8⟩ := fu8.g0
  have l8 := sok8.len e8 fu8.ok sco
  have l8 : kvs8.length <= 49 * M := l8
  have g8 := go8.few
  have g8 : G8.length <= G3.length + (kvs8.length - 0) := g8
  have e8f : ∀ u v, AF G8 n0 m u v = φ (u - dx) (v - dy) := fun u v => by
   by_cases z : -(2 ^ n0) <= u /\ u < 2 ^ n0 /\ -(2 ^ n0) <= v /\ v < 2 ^ n0
   ·unfold AF
    rw [if_pos z, rs8.cell _ _ (CZ z.1 z.2.1) (CZ z.2.2.1 z.2.2.2)]
    show φ (((0 * 2 ^ (n0 + 1) + R % 2 ^ (n0 + 1) + (u + 2 ^ n0).toNat : Nat) : Int) - (px * 2 ^ (n0 + 1) + 2 ^ n0)) (((0 * 2 ^ (n0 + 1) + D % 2 ^ (n0 + 1) + (v + 2 ^ n0).toNat : Nat) : Int) - (py * 2 ^ (n0 + 1) + 2 ^ n0)) = _
    rw [Nat.mod_eq_of_lt R1, Nat.mod_eq_of_lt D1, Nat.zero_mul, Nat.zero_add, Nat.zero_add]
    congr 1
    ·rw [Int.natCast_add, Int.toNat_of_nonneg (by lia)]
     lia
    ·rw [Int.natCast_add, Int.toNat_of_nonneg (by lia)]
     lia
   ·rw [Gr z]
    refine (Classical.byContradiction fun y => ?_ : φ (u - dx) (v - dy) = 0).symm
    have := tiw.inn _ _ y
    exact z ⟨by lia, by lia, by lia, by lia⟩
  refine ⟨g, G8, m, n0, rfl, fu8, rs8.lev, by lia, fun r G9 H9 fr9 fu9 go9 tr9 => ?_⟩
  have g9 := go9.few
  obtain ⟨r9, e9⟩ := fu9.g0
  obtain ⟨m9, hm9, lm9, tm9, em9⟩ := FJ e9 fu9.ok (by lia) (go9.lev rs8.lev) tr9
  have x9 : Fx (frA g) H H9 := (x3.trans ((Fx.fresh s7 (x8.mono (m := [kn, g.lv, g.pt, g.nm]) (by intro x hx; simp only [frM, List.mem_cons, List.not_mem_nil, or_false] at hx ⊢; rcases hx with h | h | h | h <;> simp [h])) nkn).mono (by simp [frA]))).trans ((fr9.fx fu8.at').mono (by simp [frA]))
  exact k r m9 G9 H9 x9 fu9 (((go3.trans go8).trans go9).mono (by simp only [List.length_nil] at *; lia)) ⟨lm9, tm9, by lia⟩ fun u v => by rw [em9, Dy fu8.ok go9 rs8.lev, e8f]
end
end J
namespace J
open PySem L2
def plc (ax ay : Int) (n : Nat) (p : Int × Int) : List (Nat × Nat) := [((p.1 + ax).toNat / 2 ^ n, (p.2 + ay).toNat / 2 ^ n), ((p.1 + ax).toNat / 2 ^ n - 1, (p.2 + ay).toNat / 2 ^ n), ((p.1 + ax).toNat / 2 ^ n, (p.2 + ay).toNat / 2 ^ n - 1), ((p.1 + ax).toNat / 2 ^ n - 1, (p.2 + ay).toNat / 2 ^ n - 1)]
theorem RH (ax ay : Int) (n : Nat) : ∀ ps : List (Int × Int), (ps.flatMap (plc ax ay n)).length = 4 * ps.length
 | [] => rfl
 | p :: ps => by
  rw [List.flatMap_cons, List.length_append, RH ax ay n ps]
  show 4 + _ = _
  rw [List.length_cons]
  lia
theorem MU {φ : Int -> Int -> Nat} {ps : List (Int × Int)} (h : ∀ u v, φ u v ≠ 0 -> (u, v) ∈ ps) (ax ay : Int) (R D : Nat) : ∃ cl, NN ⟨fun x y => φ ((x : Int) - ax) ((y : Int) - ay), R, D, 4 * ps.length, cl⟩ := by
 have mem : ∀ n i j, NE (fun x y => φ ((x : Int) - ax) ((y : Int) - ay)) n i j -> (i, j) ∈ ps.flatMap (plc ax ay n) := fun n i j ne => by
  obtain ⟨x, y, hx, hy, z⟩ := ne
  have m := h _ _ z
  refine List.mem_flatMap.mpr ⟨_, m, ?_⟩
  have e1 : ((((i * 2 ^ n + x : Nat) : Int) - ax) + ax).toNat = i * 2 ^ n + x := by lia
  have e2 : ((((j * 2 ^ n + y : Nat) : Int) - ay) + ay).toNat = j * 2 ^ n + y := by lia
  unfold plc
  dsimp only
  rw [e1, e2, EG.1, EG.1]
  have h1 := Bg hx
  have h2 := Bg hy
  generalize x / 2 ^ n = a at h1
  generalize y / 2 ^ n = b at h2
  match a, h1, b, h2 with
  | 0, _, 0, _ => simp
  | 1, _, 0, _ => simp
  | 0, _, 1, _ => simp
  | 1, _, 1, _ => simp
 refine ⟨fun n i j => (ps.flatMap (plc ax ay n)).idxOf (i, j), fun n i j _ ne => ?_, fun n i j i' j' _ ne ne' e x y hx hy => ?_⟩
 ·have := List.idxOf_lt_length_of_mem (mem n i j ne)
  rw [RH] at this
  exact this
 ·have m1 := mem n i j ne
  have m2 := mem n i' j' ne'
  have a1 := List.getElem_idxOf (List.idxOf_lt_length_of_mem m1)
  have a2 := List.getElem_idxOf (List.idxOf_lt_length_of_mem m2)
  have e : (ps.flatMap (plc ax ay n)).idxOf (i, j) = (ps.flatMap (plc ax ay n)).idxOf (i', j') := e
  have : (ps.flatMap (plc ax ay n))[(ps.flatMap (plc ax ay n)).idxOf (i, j)]? = (ps.flatMap (plc ax ay n))[(ps.flatMap (plc ax ay n)).idxOf (i', j')]? := by rw [e]
  rw [List.getElem?_eq_getElem (List.idxOf_lt_length_of_mem m1), List.getElem?_eq_getElem (List.idxOf_lt_length_of_mem m2), a1, a2] at this
  have := Option.some.inj this
  injection this with h1 h2
  rw [h1, h2]
def cx (X0 X1 : Int) (n i : Nat) : Nat := if ((i * 2 ^ n : Nat) : Int) < X0 then (if i = (X0 / 2 ^ n).toNat then 0 else 1) else if X1 < ((i * 2 ^ n + 2 ^ (n + 1) : Nat) : Int) then (if i = (X1 / 2 ^ n).toNat then 2 else 3) else 4
theorem Pm (X0 X1 : Int) (n i : Nat) : cx X0 X1 n i < 5 := by
 unfold cx
 split
 ·split <;> decide
 ·split
  ·split <;> decide
  ·decide
theorem Ph {X : Int} {n i : Nat} (h1 : ((i * 2 ^ n : Nat) : Int) <= X) (h2 : X < ((i * 2 ^ n + 2 ^ (n + 1) : Nat) : Int)) : (X / 2 ^ n).toNat = i \/ (X / 2 ^ n).toNat = i + 1 := by
 have hX : 0 <= X := by lia
 obtain ⟨Y, rfl⟩ := Int.eq_ofNat_of_zero_le hX
 rw [<- DJ, <- Int.natCast_ediv, Int.toNat_natCast]
 have h1 : i * 2 ^ n <= Y := by lia
 have h2 : Y < i * 2 ^ n + 2 ^ (n + 1) := by lia
 obtain ⟨x, rfl⟩ : ∃ x, Y = i * 2 ^ n + x := ⟨Y - i * 2 ^ n, by lia⟩
 rw [EG.1]
 have := Bg (show x < 2 ^ (n + 1) by lia)
 lia
theorem Pl {X0 X1 : Int} {n i i' : Nat} (ne : ∃ x : Nat, x < 2 ^ (n + 1) /\ X0 <= ((i * 2 ^ n + x : Nat) : Int) /\ ((i * 2 ^ n + x : Nat) : Int) < X1) (ne' : ∃ x : Nat, x < 2 ^ (n + 1) /\ X0 <= ((i' * 2 ^ n + x : Nat) : Int) /\ ((i' * 2 ^ n + x : Nat) : Int) < X1) (e : cx X0 X1 n i = cx X0 X1 n i') (x : Nat) (hx : x < 2 ^ (n + 1)) : (X0 <= ((i * 2 ^ n + x : Nat) : Int) /\ ((i * 2 ^ n + x : Nat) : Int) < X1) ↔ (X0 <= ((i' * 2 ^ n + x : Nat) : Int) /\ ((i' * 2 ^ n + x : Nat) : Int) < X1) := by
 have one : ∀ {i : Nat}, (∃ x : Nat, x < 2 ^ (n + 1) /\ X0 <= ((i * 2 ^ n + x : Nat) : Int) /\ ((i * 2 ^ n + x : Nat) : Int) < X1) -> (cx X0 X1 n i = 0 /\ i = (X0 / 2 ^ n).toNat) \/ (cx X0 X1 n i = 1 /\ i + 1 = (X0 / 2 ^ n).toNat) \/ (cx X0 X1 n i = 2 /\ i = (X1 / 2 ^ n).toNat) \/ (cx X0 X1 n i = 3 /\ i + 1 = (X1 / 2 ^ n).toNat) \/ (cx X0 X1 n i = 4 /\ X0 <= ((i * 2 ^ n : Nat) : Int) /\ ((i * 2 ^ n + 2 ^ (n + 1) : Nat) : Int) <= X1) := fun {i} ne => by
  obtain ⟨x, hx, h1, h2⟩ := ne
  unfold cx
  split
  ·rename_i z
   split
   ·rename_i y
    exact .inl ⟨rfl, y⟩
   ·rename_i y
    have := Ph (X := X0) (n := n) (i := i) (by lia) (by lia)
    exact .inr (.inl ⟨rfl, by lia⟩)
  ·rename_i z
   split
   ·rename_i w
    split
    ·rename_i y
     exact .inr (.inr (.inl ⟨rfl, y⟩))
    ·rename_i y
     have := Ph (X := X1) (n := n) (i := i) (by lia) (by lia)
     exact .inr (.inr (.inr (.inl ⟨rfl, by lia⟩)))
   ·rename_i w
    exact .inr (.inr (.inr (.inr ⟨rfl, by lia, by lia⟩)))
 have h1 := one ne
 have h2 := one ne'
 rw [<- e] at h2
 clear one
 have key : i = i' \/ ((X0 <= ((i * 2 ^ n : Nat) : Int) /\ ((i * 2 ^ n + 2 ^ (n + 1) : Nat) : Int) <= X1) /\ (X0 <= ((i' * 2 ^ n : Nat) : Int) /\ ((i' * 2 ^ n + 2 ^ (n + 1) : Nat) : Int) <= X1)) := by
  generalize (X0 / 2 ^ n).toNat = A at h1 h2
  generalize (X1 / 2 ^ n).toNat = B at h1 h2
  generalize cx X0 X1 n i = c at h1 h2
  rcases h1 with ⟨a1, a2⟩ | ⟨a1, a2⟩ | ⟨a1, a2⟩ | ⟨a1, a2⟩ | ⟨a1, a2⟩ <;> rcases h2 with ⟨b1, b2⟩ | ⟨b1, b2⟩ | ⟨b1, b2⟩ | ⟨b1, b2⟩ | ⟨b1, b2⟩ <;> first | exact .inr ⟨a2, b2⟩ | exact .inl (by lia) | (exfalso; lia)
 rcases key with rfl | ⟨k1, k2⟩
 ·exact Iff.rfl
 ·exact ⟨fun _ => ⟨by lia, by lia⟩, fun _ => ⟨by lia, by lia⟩⟩
theorem sc_box (q : Bo) (s : Nat) (ax ay : Int) (R D : Nat) : ∃ cl, NN ⟨fun x y => GD q s (fun _ _ => 0) ((x : Int) - ax) ((y : Int) - ay), R, D, 25, cl⟩ := by
 have inn : ∀ (x y : Nat), (GD q s (fun _ _ => 0) ((x : Int) - ax) ((y : Int) - ay)) = if ((q.x + ax <= (x : Int) /\ (x : Int) < q.x + q.wd + ax) /\ (q.y + ay <= (y : Int) /\ (y : Int) < q.y + q.ht + ay)) then s else 0 := fun x y => by
  unfold GD
  by_cases z : (q.x + ax <= (x : Int) /\ (x : Int) < q.x + q.wd + ax) /\ (q.y + ay <= (y : Int) /\ (y : Int) < q.y + q.ht + ay)
  ·rw [if_pos z, if_pos (show InB q.x q.y q.wd q.ht ((x : Int) - ax) ((y : Int) - ay) by unfold InB; lia)]
  ·rw [if_neg z, if_neg (show ¬ InB q.x q.y q.wd q.ht ((x : Int) - ax) ((y : Int) - ay) by unfold InB; lia)]
 have nes : ∀ {n i j : Nat}, NE (fun x y => GD q s (fun _ _ => 0) ((x : Int) - ax) ((y : Int) - ay)) n i j -> (∃ x : Nat, x < 2 ^ (n + 1) /\ q.x + ax <= ((i * 2 ^ n + x : Nat) : Int) /\ ((i * 2 ^ n + x : Nat) : Int) < q.x + q.wd + ax) /\ (∃ y : Nat, y < 2 ^ (n + 1) /\ q.y + ay <= ((j * 2 ^ n + y : Nat) : Int) /\ ((j * 2 ^ n + y : Nat) : Int) < q.y + q.ht + ay) := fun {n i j} ne => by
  obtain ⟨x, y, hx, hy, z⟩ := ne
  dsimp only at z
  rw [inn] at z
  by_cases w : ((q.x + ax <= ((i * 2 ^ n + x : Nat) : Int) /\ ((i * 2 ^ n + x : Nat) : Int) < q.x + q.wd + ax) /\ (q.y + ay <= ((j * 2 ^ n + y : Nat) : Int) /\ ((j * 2 ^ n + y : Nat) : Int) < q.y + q.ht + ay))
  ·exact ⟨⟨x, hx, w.1.1, w.1.2⟩, ⟨y, hy, w.2.1, w.2.2⟩⟩
  ·rw [if_neg w] at z
   exact absurd rfl z
 refine ⟨fun n i j => 5 * cx (q.x + ax) (q.x + q.wd + ax) n i + cx (q.y + ay) (q.y + q.ht + ay) n j, fun n i j _ ne => ?_, fun n i j i' j' _ ne ne' e x y hx hy => ?_⟩
 ·have h1 := Pm (q.x + ax) (q.x + q.wd + ax) n i
  have h2 := Pm (q.y + ay) (q.y + q.ht + ay) n j
  show 5 * cx (q.x + ax) (q.x + q.wd + ax) n i + cx (q.y + ay) (q.y + q.ht + ay) n j < 25
  lia
 ·have h2 := Pm (q.y + ay) (q.y + q.ht + ay) n j
  have h3 := Pm (q.y + ay) (q.y + q.ht + ay) n j'
  have e : 5 * cx (q.x + ax) (q.x + q.wd + ax) n i + cx (q.y + ay) (q.y + q.ht + ay) n j = 5 * cx (q.x + ax) (q.x + q.wd + ax) n i' + cx (q.y + ay) (q.y + q.ht + ay) n j' := e
  obtain ⟨n1, n2⟩ := nes ne
  obtain ⟨m1, m2⟩ := nes ne'
  have s1 := Pl n1 m1 (by lia) x hx
  have s2 := Pl n2 m2 (by lia) y hy
  show GD q s (fun _ _ => 0) _ _ = GD q s (fun _ _ => 0) _ _
  rw [inn, inn]
  by_cases w : ((q.x + ax <= ((i * 2 ^ n + x : Nat) : Int) /\ ((i * 2 ^ n + x : Nat) : Int) < q.x + q.wd + ax) /\ (q.y + ay <= ((j * 2 ^ n + y : Nat) : Int) /\ ((j * 2 ^ n + y : Nat) : Int) < q.y + q.ht + ay))
  ·rw [if_pos w, if_pos ⟨s1.mp w.1, s2.mp w.2⟩]
  ·rw [if_neg w, if_neg fun z => w ⟨s1.mpr z.1, s2.mpr z.2⟩]
section
variable {P : Program} {w : World} {K : PySem.W.Frag} {mg : Str -> Option Value} {base : Heap} {a : Ad}
end
end J
namespace J
open PySem L2
theorem GQ.rev {ds : List Cl} {φ : Int -> Int -> Nat} (h : GQ ds φ) : GQ ds.reverse φ := ⟨by rw [List.map_reverse]; exact (List.Perm.nodup_iff (List.reverse_perm _)).mpr h.nd, fun c => by rw [List.mem_reverse]; exact h.mem c⟩
structure Vf (G : Gv) (f : Nat) (φ : Int -> Int -> Nat) : Prop where
 ex : ∃ n : Nat, Fd G n f /\ ∀ u v, AF G n f u v = φ u v
theorem Vl.vf {G : Gv} {f B : Nat} {φ : Int -> Int -> Nat} (h : Vl G f φ B) : Vf G f φ := by
 obtain ⟨n, ⟨h1, h2, h3⟩, h4⟩ := h.ex
 exact ⟨n, ⟨h1, h2, h3⟩, h4⟩
theorem Vf.app {G G' : Gv} {k f : Nat} {φ : Int -> Int -> Nat} (ok : GOk G) (go : AG G G' k) (h : Vf G f φ) : Vf G' f φ := by
 obtain ⟨n, h1, h4⟩ := h.ex
 exact ⟨n, h1.app go, fun u v => by rw [Dy ok go h1.lev]; exact h4 u v⟩
theorem Vf.eq {G r : Gv} (e0 : G = G0 ++ r) (ok : GOk G) {f f' : Nat} {φ ψ : Int -> Int -> Nat} (h : Vf G f φ) (h' : Vf G f' ψ) (e : ∀ u v, φ u v = ψ u v) : f = f' := by
 obtain ⟨n, h1, h4⟩ := h.ex
 obtain ⟨m, g1, g4⟩ := h'.ex
 have := h1.le
 have := g1.le
 exact (Ou e0 ok (by lia) (by lia) h1.lev g1.lev h1.tr g1.tr fun u v => by rw [h4, g4, e]).2
def mvF (dx dy : Int) (φ : Int -> Int -> Nat) (u v : Int) : Nat := φ (u - dx) (v - dy)
def mvX (dx dy : Int) (b : Bx) : Bx := ⟨b.l + dx, b.t + dy, b.w, b.h⟩
theorem CF.mv {φ : Int -> Int -> Nat} {b : Bx} (dx dy : Int) (h : CF (fun u v => φ u v ≠ 0) b) : CF (fun u v => mvF dx dy φ u v ≠ 0) (mvX dx dy b) := by
 obtain ⟨h1, ⟨a, ha⟩, ⟨c, hc⟩, ⟨d, hd⟩, ⟨e, he⟩⟩ := h
 unfold mvX mvF
 refine ⟨fun u v z => ?_, ⟨a + dy, ?_⟩, ⟨c + dx, ?_⟩, ⟨d + dy, ?_⟩, ⟨e + dx, ?_⟩⟩
 ·have := h1 _ _ z
  dsimp only
  lia
 ·dsimp only at *
  rw [show b.l + dx - dx = b.l by lia, show a + dy - dy = a by lia]
  exact ha
 ·dsimp only at *
  rw [show c + dx - dx = c by lia, show b.t + dy - dy = b.t by lia]
  exact hc
 ·dsimp only at *
  rw [show b.l + dx + b.w - 1 - dx = b.l + b.w - 1 by lia, show d + dy - dy = d by lia]
  exact hd
 ·dsimp only at *
  rw [show e + dx - dx = e by lia, show b.t + dy + b.h - 1 - dy = b.t + b.h - 1 by lia]
  exact he
theorem tgt_of {G : Gv} (ok : GOk G) {n f : Nat} (l : Ao G f ((n + 1 : Nat) : Int)) {φ : Int -> Int -> Nat} (e : ∀ u v, AF G n f u v = φ u v) {B : Bx} (t : CF (fun u v => φ u v ≠ 0) B) {dx dy : Int} {li : Prop} (h : BU (B.l + dx) (B.t + dy) B.w B.h (2 ^ 40) ↔ li) : Tgt G n f dx dy li := by
 intro b hb
 have t2 := (FY ok l hb).congr (M := fun u v => φ u v ≠ 0) fun u v => by rw [e]
 rw [t2.one t]
 exact h
def coC (k : Nat) (c : Cl) : Int := if k = 0 then c.x else c.y
def mvC (dx dy : Int) (c : Cl) : Cl := ⟨c.x + dx, c.y + dy, c.s⟩
theorem GQ.mv {ds : List Cl} {φ : Int -> Int -> Nat} (dx dy : Int) (h : GQ ds φ) : GQ (ds.map (mvC dx dy)) (mvF dx dy φ) := by
 refine ⟨?_, fun c => ?_⟩
 ·have e : (ds.map (mvC dx dy)).map (fun c => (c.x, c.y)) = (ds.map fun c => (c.x, c.y)).map fun p => (p.1 + dx, p.2 + dy) := by
   rw [List.map_map, List.map_map]
   rfl
  rw [e]
  have nd := h.nd
  rw [List.nodup_iff_pairwise_ne] at nd ⊢
  rw [List.pairwise_map]
  refine nd.imp fun {p q} ne z => ne ?_
  injection z with z1 z2
  cases p
  cases q
  dsimp only at z1 z2
  congr 1 <;> lia
 ·unfold mvF
  constructor
  ·intro m
   obtain ⟨d, hd, rfl⟩ := List.mem_map.mp m
   obtain ⟨h1, h2⟩ := (h.mem d).mp hd
   refine ⟨h1, ?_⟩
   show φ (d.x + dx - dx) (d.y + dy - dy) = d.s
   rw [show d.x + dx - dx = d.x by lia, show d.y + dy - dy = d.y by lia]
   exact h2
  ·intro m
   refine List.mem_map.mpr ⟨⟨c.x - dx, c.y - dy, c.s⟩, (h.mem _).mpr m, ?_⟩
   unfold mvC
   cases c
   dsimp only
   congr 1 <;> lia
theorem few_mv {ps : List (Int × Int)} {φ : Int -> Int -> Nat} (dx dy : Int) (h : ∀ u v, φ u v ≠ 0 -> (u, v) ∈ ps) : ∀ u v, mvF dx dy φ u v ≠ 0 -> (u, v) ∈ ps.map fun p => (p.1 + dx, p.2 + dy) := fun u v z => List.mem_map.mpr ⟨_, h _ _ z, by
 dsimp only
 congr 1 <;> lia⟩
theorem QB {ds : List Cl} {φ : Int -> Int -> Nat} (dk : GQ ds φ) (h : ds.length ≠ 0) {x0 x1 y0 y1 : Int} (a0 : x0 ∈ ds.map (coC 0)) (b0 : ∀ x ∈ ds.map (coC 0), x0 <= x) (a1 : x1 ∈ ds.map (coC 0)) (b1 : ∀ x ∈ ds.map (coC 0), x <= x1) (c0 : y0 ∈ ds.map (coC 1)) (d0 : ∀ x ∈ ds.map (coC 1), y0 <= x) (c1 : y1 ∈ ds.map (coC 1)) (d1 : ∀ x ∈ ds.map (coC 1), x <= y1) : CF (fun u v => φ u v ≠ 0) ⟨x0, y0, x1 - x0 + 1, y1 - y0 + 1⟩ := by
 have on : ∀ {k : Nat} {x : Int}, x ∈ ds.map (coC k) -> ∃ c ∈ ds, coC k c = x /\ φ c.x c.y ≠ 0 := fun {k x} m => by
  obtain ⟨c, hc, e⟩ := List.mem_map.mp m
  obtain ⟨h1, h2⟩ := (dk.mem c).mp hc
  exact ⟨c, hc, e, by lia⟩
 obtain ⟨p, _, ep, hp⟩ := on a0
 obtain ⟨q, _, eq, hq⟩ := on a1
 obtain ⟨r, _, er, hr⟩ := on c0
 obtain ⟨s, _, es, hs⟩ := on c1
 have ep : p.x = x0 := ep
 have eq : q.x = x1 := eq
 have er : r.y = y0 := er
 have es : s.y = y1 := es
 refine ⟨fun u v z => ?_, ⟨p.y, ?_⟩, ⟨r.x, ?_⟩, ⟨q.y, ?_⟩, ⟨s.x, ?_⟩⟩
 ·have m : (⟨u, v, φ u v⟩ : Cl) ∈ ds := (dk.mem _).mpr ⟨by show 1 <= φ u v; lia, rfl⟩
  have m0 : u ∈ ds.map (coC 0) := List.mem_map.mpr ⟨_, m, rfl⟩
  have m1 : v ∈ ds.map (coC 1) := List.mem_map.mpr ⟨_, m, rfl⟩
  have := b0 _ m0
  have := b1 _ m0
  have := d0 _ m1
  have := d1 _ m1
  dsimp only
  lia
 ·show φ x0 p.y ≠ 0
  rw [<- ep]
  exact hp
 ·show φ r.x y0 ≠ 0
  rw [<- er]
  exact hr
 ·show φ (x0 + (x1 - x0 + 1) - 1) q.y ≠ 0
  rw [show x0 + (x1 - x0 + 1) - 1 = x1 by lia, <- eq]
  exact hq
 ·show φ s.x (y0 + (y1 - y0 + 1) - 1) ≠ 0
  rw [show y0 + (y1 - y0 + 1) - 1 = y1 by lia, <- es]
  exact hs
section
variable {P : Program} {w : World} {K : PySem.W.Frag} {mg : Str -> Option Value} {base : Heap} {a : Ad}
theorem mv_of {g : GA} {G : Gv} {H : Hp} {Q : VK} {E : XK} {f M : Nat} {dx dy : Int} {φ : Int -> Int -> Nat} {B : Bx} (fu : AO a H g G) (h : Vf G f φ) (t : CF (fun u v => φ u v ≠ 0) B) (li : BU (B.l + dx) (B.t + dy) B.w B.h (2 ^ 40)) (hcl : ∀ (ax ay : Int) (R D : Nat), ∃ cl, NN ⟨fun x y => φ ((x : Int) - ax) ((y : Int) - ay), R, D, M, cl⟩) (M1 : 49 * M < 1000000) (few : G.length < 6000000) (k : ∀ (r : Nat) (G' : Gv) (H' : Hp), Fx (frA g) H H' -> AO a H' g G' -> AG G G' (49 * M + 700) -> Vf G' r (mvF dx dy φ) -> Q (.int r) H') : spMv a [.ref g.p, .int f, .int dx, .int dy] H Q E := by
 obtain ⟨n, h1, h4⟩ := h.ex
 exact ⟨g, G, f, n, M, dx, dy, φ, rfl, fu, h1, h4, tgt_of fu.ok h1.lev h4 t ⟨fun _ => trivial, fun _ => li⟩, hcl, M1, few, fun r m G' H' x fu' go fd e => k r G' H' x fu' go ⟨m, fd, e⟩⟩
end
end J
namespace J
open PySem L2
seal L2.PA L2.PE L2.PS L2.PSs L2.PT L2.PW
def shX (B : Bx) : Int := -(B.w / 2) - B.l
def shY (B : Bx) : Int := -(B.h / 2) - B.t
def clI (q : It3) : Cl := ⟨q.x, q.y, (q.r.headD 0).toNat⟩
theorem OO {H : Hp} : ∀ {ts : List Addr} {ds : List Cl}, Paired (MG H) ts ds -> ∃ items : List It3, (items.map fun q => V.ref q.a) = ts.map V.ref /\ items.map clI = ds /\ ∀ q ∈ items, MG H q.a (clI q) /\ H q.a = some (.tup (q.ns.map V.int))
 | _, _, .nil => ⟨[], rfl, rfl, fun q hq => by cases hq⟩
 | t :: ts, c :: ds, .cons h pr => by
  obtain ⟨items, e1, e2, hit⟩ := OO pr
  have ec : clI ⟨t, c.x, c.y, [(c.s : Int)]⟩ = c := rfl
  refine ⟨⟨t, c.x, c.y, [(c.s : Int)]⟩ :: items, by rw [List.map_cons, e1]; rfl, by rw [List.map_cons, e2, ec], fun q hq => ?_⟩
  rcases List.mem_cons.mp hq with rfl | hq
  ·exact ⟨by rw [ec]; exact h, h⟩
  ·exact hit q hq
theorem JF {H : Hp} : ∀ {out : List It3}, (∀ q ∈ out, MG H q.a (clI q)) -> Paired (MG H) (out.map (·.a)) (out.map clI)
 | [], _ => .nil
 | q :: out, h => .cons (h q (List.mem_cons_self ..)) (JF fun q hq => h q (List.mem_cons_of_mem _ hq))
theorem GQ.perm {ds es : List Cl} {φ : Int -> Int -> Nat} (h : GQ ds φ) (p : es.Perm ds) : GQ es φ := ⟨(p.map _).nodup_iff.mpr h.nd, fun c => by rw [p.mem_iff]; exact h.mem c⟩
section
variable {P : Program} {w : World} {K : PySem.W.Frag} {mg : Str -> Option Value} {base : Heap} {a : Ad}
inductive ME (a : Ad) (vs : List V) (H : Hp) (Q : VK) : Prop
 | mk (g : GA) (G : Gv) (f M : Nat) (φ : Int -> Int -> Nat) (_ : vs = [.ref g.p, .int f]) (_ : AO a H g G) (_ : Vf G f φ) (_ : ∀ (ax ay : Int) (R D : Nat), ∃ cl, NN ⟨fun x y => φ ((x : Int) - ax) ((y : Int) - ay), R, D, M, cl⟩) (_ : 49 * M < 1000000) (_ : G.length < 5000000) (_ : (∀ u v, φ u v = 0) -> ∀ (t : Addr) (H' : Hp), Fx (frA g) H H' -> AO a H' g G -> H' t = some (.tup [.int f, .int 0, .int 0]) -> Q (.ref t) H') (_ : ∀ B, CF (fun u v => φ u v ≠ 0) B -> ∀ (r : Nat) (t : Addr) (G' : Gv) (H' : Hp), Fx (frA g) H H' -> AO a H' g G' -> AG G G' (49 * M + 700) -> Vf G' r (mvF (shX B) (shY B) φ) -> H' t = some (.tup [.int r, .int B.l, .int B.t]) -> Q (.ref t) H') : ME a vs H Q
def Jd (a : Ad) : Sp := fun vs H Q _ => ME a vs H Q
theorem Rj {f : Addr} {fd : FuncData} (F : Fun K "shape_of" "shape_of" DU f fd) (T : Top K mg a) (C_box_of : Cal P w K mg base CX0 102 "box_of" FC (Jf a)) (C_moved_by : Cal P w K mg base CX0 103 "moved_by" EW (spMv a)) : AY P w K mg base CX0 104 f fd Ef (Jd a) := by
 refine F.ok FZ (fun vs H Q E h => ?_) (fun cdv A outer s H vs Q E hr h => ?_)
 ·obtain ⟨g, G, f', M, φ, rfl, _⟩ := h
  rfl
 ·obtain ⟨g, G, f', M, φ, rfl, fu, vf, hcl, M1, few, k0, k1⟩ := h
  obtain ⟨n, fd', ef⟩ := id vf.ex
  have n40 := fd'.le
  refine ⟨_, (Ab (Al (i := 2) FZ.nd rfl (Or.inl rfl) (As C_box_of (rm hr) rfl Ar (Aa (pv 0) (Aa (pv 1) Ae)))) (Ab (Bh (AL GM (pv 2) Fl (AM _)) (Aj (Aw (Cc (Aa (pv 1) (AH (AH Ae)))))) AD) (Ab (Al (i := 3) FZ.nd rfl (Or.inl rfl) (As C_moved_by (rm hr) rfl Ar (Aa (pv 0) (Aa (pv 1) (Bk AV (En CG (Aq Bw (Ak Am (pv 2) Ac (fun _ _ => rfl)) Ac)) (Ak Am (pv 2) Ac (fun _ _ => rfl)) (Bk AV (En CG (Aq Bw (Ak Am (pv 2) Ac (fun _ _ => rfl)) Ac)) (Ak Am (pv 2) Ac (fun _ _ => rfl)) Ae)))))) (Aj (Aw (Cc (Aa (pv 3) (Aa (Ak Am (pv 2) Ac (fun _ _ => rfl)) (Aa (Ak Am (pv 2) Ac (fun _ _ => rfl)) Ae))))))))), ?_⟩
  try dsimp only [cxK]
  refine ⟨_, rfl, _, rfl, g, G, f', n, rfl, fu, fd'.lev, by lia, by lia, fun bn H1 fr1 fu1 => ?_, fun b hb t H1 fr1 fu1 ht => ?_⟩
  ·have z : ∀ u v, φ u v = 0 := fun u v => by rw [<- ef]; exact JI fu.ok fd'.lev bn u v
   refine ⟨_, rfl, rfl, _, rfl, Da ⟨_, rfl, (by show 3 <= sizeLine; decide), fun t ht => ?_⟩⟩
   have s2 := An (o := .tup [.int (f' : Int), .int 0, .int 0]) ht
   exact k0 z t _ (((fr1.fx fu).mono (by simp [frA])).trans (AB.fx s2)) (fu1.same s2) Ai
  ·have tb := (FY fu.ok fd'.lev hb).congr (M := fun u v => φ u v ≠ 0) fun u v => by rw [ef]
   generalize mvB (2 ^ n) b = B at tb ht
   have far : ∀ {u v : Int}, φ u v ≠ 0 -> -(2 ^ n) <= u /\ u < 2 ^ n /\ -(2 ^ n) <= v /\ v < 2 ^ n := fun {u v} z => Decidable.byContradiction fun y => z (by rw [<- ef]; exact Gr y)
   have p40 : (2 : Int) ^ n <= 2 ^ 40 := OP n40
   obtain ⟨v1, h1⟩ := tb.le
   obtain ⟨v2, h2⟩ := tb.ri
   obtain ⟨v3, h3⟩ := tb.to
   obtain ⟨v4, h4⟩ := tb.bo
   have b1 := far h1
   have b2 := far h2
   have b3 := far h3
   have b4 := far h4
   have w1 := tb.inn _ _ h1
   have w3 := tb.inn _ _ h3
   have li : BU (B.l + shX B) (B.t + shY B) B.w B.h (2 ^ 40) := by
    unfold BU shX shY
    have e40 : (2 : Int) ^ 40 = 1099511627776 := by decide
    rw [e40] at p40 ⊢
    generalize (2 : Int) ^ n = p at *
    refine ⟨by lia, by lia, by lia, by lia⟩
   have ht : H1 t = some (.tup [.int B.l, .int B.t, .int B.w, .int B.h]) := ht
   refine ⟨_, rfl, rfl, _, rfl, BC ?_⟩
   refine ⟨_, rfl, _, rfl, _, rfl, t, _, 2, .int B.w, rfl, rfl, SqT.of ht, Af (j := 2) rfl, _, _, rfl, rfl, ⟨by decide, by decide⟩, _, rfl, _, rfl, t, _, 0, .int B.l, rfl, rfl, SqT.of ht, Af (j := 0) rfl, _, _, rfl, rfl, ?_⟩
   refine ⟨_, rfl, t, _, 3, .int B.h, rfl, rfl, SqT.of ht, Af (j := 3) rfl, _, _, rfl, rfl, ⟨by decide, by decide⟩, _, rfl, _, rfl, t, _, 1, .int B.t, rfl, rfl, SqT.of ht, Af (j := 1) rfl, _, _, rfl, rfl, ?_⟩
   refine mv_of (E := E0) (dx := shX B) (dy := shY B) fu1 vf tb li hcl M1 (by lia) fun r G' H2 fx2 fu2 go vr => ?_
   have ht2 := fx2.tup ht
   refine ⟨_, rfl, _, rfl, t, _, 0, .int B.l, rfl, rfl, SqT.of ht2, Af (j := 0) rfl, _, rfl, t, _, 1, .int B.t, rfl, rfl, SqT.of ht2, Af (j := 1) rfl, (by show 3 <= sizeLine; decide), fun u hu => ?_⟩
   have s3 := An (o := .tup [.int (r : Int), .int B.l, .int B.t]) hu
   exact k1 B tb r u G' _ ((((fr1.fx fu).mono (by simp [frA])).trans fx2).trans (AB.fx s3)) (fu2.same s3) go vr Ai
theorem ok_row {f : Addr} {fd : FuncData} (F : Fun K "_law_by_rows" "_law_by_rows" Ch f fd) (T : Top K mg a) : AY P w K mg base CX0 1 f fd CK Ju := by
 refine F.ok IM (fun vs H Q E h => ?_) (fun cdv A outer s H vs Q E hr h => ?_)
 ·obtain ⟨t, x, y, r, rfl, _⟩ := h
  rfl
 ·obtain ⟨t, x, y, r, rfl, ht, k⟩ := h
  exact ⟨_, (Aj (Aw (Cc (Aa (Ak Am (pv 0) Ac (fun _ _ => rfl)) (Aa (Ak Am (pv 0) Ac (fun _ _ => rfl)) Ae))))), _, rfl, t, _, 1, .int y, rfl, rfl, SqT.of ht, Af (j := 1) rfl, _, rfl, t, _, 0, .int x, rfl, rfl, SqT.of ht, Af (j := 0) rfl, (by show 2 <= sizeLine; decide), k⟩
inductive SpLsd (vs : List V) (H : Hp) (Q : VK) : Prop
 | mk (D : Addr) (ds : List Cl) (_ : vs = [.ref D]) (_ : Rd H D (.dT (kvC ds))) (_ : (ds.map fun c => (c.x, c.y)).Nodup) (_ : ds.length <= 40) (_ : ∀ (o : Obj) (L : Addr) (ts : List Addr) (cs : List Cl) (H' : Hp), FrO D H H' -> H' D = some (.frz o (.dT (kvC ds))) -> H L = none -> H' L = some (.lst (ts.map V.ref)) -> Paired (MG H') ts cs -> cs.Perm ds -> Q (.ref L) H') : SpLsd vs H Q
def QJ : Sp := fun vs H Q _ => SpLsd vs H Q
theorem ok_lsd {f : Addr} {fd : FuncData} (F : Fun K "_law_listed" "_law_listed" CA f fd) (T : Top K mg a) (C__law_by_rows : Cal P w K mg base CX0 1 "_law_by_rows" CK Ju) : AY P w K mg base CX0 5 f fd Dc QJ := by
 refine F.ok ET (fun vs H Q E h => ?_) (fun cdv A outer s H vs Q E hr h => ?_)
 ·obtain ⟨D, ds, rfl, _⟩ := h
  rfl
 ·obtain ⟨D, ds, rfl, rd, nd, l40, k⟩ := h
  refine ⟨_, (Ab (Al (i := 1) ET.nd rfl (Or.inl rfl) (EV Ae)) (Ab (Dj PassesOwn.never rfl (Fv (pv 0)) (BG (i := 2) ET.nd rfl (Or.inl rfl)) (Aj (DI (JE PySem.F.plainAttrs_list PySem.F.slot_list_append PySem.F.type_list_append Eh (pv 1) (BV (Aa (Ak Am (pv 2) Ac (fun _ _ => rfl)) (Aa (Ak Am (pv 2) Ac (fun _ _ => rfl)) (Aa (OR (FW hr) (pv 0) (pv 2) (fun _ _ => rfl)) Ae))) Ae))))) (Aj (Aw (Oa C__law_by_rows (rm hr) rfl T.b_sorted rfl (Aa (pv 1) Ae)))))), ?_⟩
  try dsimp only [cxK]
  have nD : ∀ {x : Addr}, H x = none -> x ≠ D := fun {x} n z => by
   rw [z] at n
   rcases rd with y | ⟨o, y⟩
   ·rw [y] at n; cases n
   ·rw [y] at n; cases n
  refine ⟨(by show 0 <= sizeLine; decide), fun S hS => ?_⟩
  have s1 := An (o := .lst []) hS
  have h1 : upd H S (.lst []) S = some (.lst []) := Ai
  generalize upd H S (.lst []) = H1 at s1 h1 ⊢
  have rd1 : Rd H1 D (.dT (kvC ds)) := by
   rcases rd with y | ⟨o, y⟩
   ·exact .inl (s1 _ _ y)
   ·exact .inr ⟨o, s1 _ _ y⟩
  refine ⟨_, rfl, D, kvC ds, rfl, rd1, fun o H2 hD2 fr2 => ?_⟩
  have h2 := fr2 _ _ h1 (nD hS)
  have fr02 : FrO D H H2 := fun b u e n => fr2 _ _ (s1 _ _ e) n
  have ldk : (kvC ds).length = ds.length := List.length_map _
  refine RW (kvs := kvC ds) (fun j σ H3 => ∃ (ts : List Addr) (u2 : Option V), σ = [some (.ref D), some (.ref S), u2] /\ (∀ b u, H2 b = some u -> b ≠ S -> H3 b = some u) /\ H3 S = some (.lst (ts.map V.ref)) /\ Paired (MG H3) ts (ds.take j)) ⟨[], none, rfl, fun b u e _ => e, h2, .nil⟩ (fun j σ H3 _ z => by obtain ⟨_, _, _, z, _⟩ := z; exact z _ _ hD2 (Ne.symm (nD hS))) ?_ ?_
  ·rintro j kb kv v σ H3 ev hb ⟨ts, u2, rfl, k3, h3, pr⟩
   obtain ⟨c, ec, ee⟩ : ∃ c, ds[j]? = some c /\ (kOf [c.x, c.y], V.int (c.s : Int)) = (kv, v) := by
    unfold kvC at ev
    rw [List.getElem?_map] at ev
    obtain ⟨c, ec, e⟩ := Option.map_eq_some_iff.mp ev
    exact ⟨c, ec, e⟩
   cases ee
   have jl : j < ds.length := (List.getElem?_eq_some_iff.mp ec).1
   have hb' : H3 kb = some (.tup [.int c.x, .int c.y]) := hb
   have hD3 := k3 _ _ hD2 (Ne.symm (nD hS))
   have lt := Paired.length pr
   rw [List.length_take] at lt
   refine ⟨_, rfl, .inl ⟨rfl, _, SqL.of h3⟩, _, rfl, kb, _, 0, .int c.x, rfl, rfl, SqT.of hb', Af (j := 0) rfl, _, rfl, kb, _, 1, .int c.y, rfl, rfl, SqT.of hb', Af (j := 1) rfl, _, rfl, _, rfl, D, .int (c.s : Int), rfl, ?_, ?_⟩
   ·exact .inr ⟨kvC ds, kOf [c.x, c.y], kb, .inr ⟨o, hD3⟩, rfl, hb, (Ih nd (List.mem_of_getElem? ec)).symm⟩
   refine ⟨(by show 3 <= sizeLine; decide), fun t ht => ?_⟩
   have s6 := An (o := .tup [.int c.x, .int c.y, .int (c.s : Int)]) ht
   have ht6 : MG (upd H3 t (.tup [.int c.x, .int c.y, .int (c.s : Int)])) t c := Ai
   generalize upd H3 t (.tup [.int c.x, .int c.y, .int (c.s : Int)]) = H6 at s6 ht6 ⊢
   have h6 := s6 _ _ h3
   refine ⟨S, _, _, rfl, rfl, h6, by rw [List.length_map]; exact EC (by lia), ?_⟩
   have tp : ∀ {b : Addr} {ys : List V}, H6 b = some (.tup ys) -> upd H6 S (.lst (ts.map V.ref ++ [.ref t])) b = some (.tup ys) := fun {b ys} e => by rw [Av (Bn e h6 (by intro z; cases z))]; exact e
   refine ⟨ts ++ [t], _, rfl, fun b u e n => ?_, by rw [Ai, List.map_append]; rfl, ?_⟩
   ·rw [Av n]
    exact s6 _ _ (k3 _ _ e n)
   ·rw [List.take_add_one, ec, Option.toList_some]
    exact Paired.snoc (PairedM.imp (fun b c z => tp (s6 _ _ z)) pr) (tp ht6)
  ·rintro σ H3 ⟨ts, u2, rfl, k3, h3, pr⟩
   rw [ldk, List.take_length] at pr
   obtain ⟨items, e1, e2, hit⟩ := OO pr
   have li : items.length = ds.length := by rw [<- e2, List.length_map]
   refine ⟨_, rfl, S, items, rfl, by rw [e1]; exact SqL.of h3, by lia, fun q hq => (hit q hq).2, fun L out H4 kp nL pm => ?_⟩
   have hD4 := kp _ _ (k3 _ _ hD2 (Ne.symm (nD hS)))
   have s5 := An (o := .lst (out.map fun q => V.ref q.a)) nL
   have h5 : upd H4 L (.lst (out.map fun q => V.ref q.a)) L = some (.lst ((out.map (·.a)).map V.ref)) := by rw [Ai, List.map_map]; rfl
   generalize upd H4 L (.lst (out.map fun q => V.ref q.a)) = H5 at s5 h5 ⊢
   refine k o L (out.map (·.a)) (out.map clI) H5 (fun b u e n => s5 _ _ (kp _ _ (k3 _ _ (fr02 _ _ e n) (At e hS)))) (s5 _ _ hD4) ?_ h5 (JF fun q hq => s5 _ _ (kp _ _ (hit q (pm.mem_iff.mp hq)).1)) (by rw [<- e2]; exact pm.map _)
   cases e : H L with
   | none => rfl
   | some u =>
    by_cases z : L = D
    ·rw [z, hD4] at nL
     cases nL
    ·rw [kp _ _ (k3 _ _ (fr02 _ _ e z) (At e hS))] at nL
     cases nL
end
end J
namespace J
open PySem L2
seal L2.PA L2.PE L2.PS L2.PSs L2.PT L2.PW
structure Dd (ds : List Cl) (n : Nat) : Prop where
 nd : (ds.map fun c => (c.x, c.y)).Nodup
 ok : ∀ c ∈ ds, Qx c /\ 1 <= c.s
 len : ds.length <= n
theorem Dd.nil : Dd [] 0 := ⟨by simp, (fun c hc => by cases hc), Nat.le_refl _⟩
theorem Dd.put {ds : List Cl} {n : Nat} {c : Cl} (h : Dd ds n) (hc : Qx c) (h1 : 1 <= c.s) : Dd (GX ds c) (n + 1) := by
 refine ⟨nd_putC h.nd, fun d hd => ?_, Nat.le_trans (RG ds c) (Nat.succ_le_succ h.len)⟩
 rcases RD.mp hd with rfl | ⟨hd, _⟩
 ·exact ⟨hc, h1⟩
 ·exact h.ok d hd
theorem Dd.mono {ds : List Cl} {n m : Nat} (h : Dd ds n) (l : n <= m) : Dd ds m := ⟨h.nd, h.ok, Nat.le_trans h.len l⟩
theorem same_s {ds : List Cl} (nd : (ds.map fun c => (c.x, c.y)).Nodup) {c d : Cl} (hc : c ∈ ds) (hd : d ∈ ds) (ex : d.x = c.x) (ey : d.y = c.y) : d.s = c.s := by
 have h1 := Ih nd hc
 have h2 := Ih nd hd
 rw [ex, ey, h1] at h2
 injection h2 with h2
 injection h2 with h2
 lia
theorem Dd.dk {ds : List Cl} {n : Nat} (h : Dd ds n) : GQ ds (stC ds) := by
 refine ⟨h.nd, fun c => ⟨fun hc => ⟨(h.ok c hc).2, ?_⟩, fun ⟨h1, h2⟩ => ?_⟩⟩
 ·rcases Ja ds c.x c.y with ⟨d, hd, ex, ey, e⟩ | ⟨no, _⟩
  ·rw [e]
   exact same_s h.nd hc hd ex ey
  ·exact absurd ⟨rfl, rfl⟩ (no c hc)
 ·rcases Ja ds c.x c.y with ⟨d, hd, ex, ey, e⟩ | ⟨_, e⟩
  ·rw [e] at h2
   have : d = c := by
    cases d
    cases c
    cases ex
    cases ey
    cases h2
    rfl
   exact this ▸ hd
  ·lia
theorem QV {ds : List Cl} {c : Cl} (h : ∀ d ∈ ds, ¬ (d.x = c.x /\ d.y = c.y)) : GX ds c = ds ++ [c] := by
 unfold GX
 rw [if_neg]
 intro z
 obtain ⟨d, hd, e⟩ := List.any_eq_true.mp z
 exact h d hd (of_decide_eq_true e)
theorem nd_take {ds : List Cl} (nd : (ds.map fun c => (c.x, c.y)).Nodup) {j : Nat} {c : Cl} (ec : ds[j]? = some c) : ∀ d ∈ ds.take j, ¬ (d.x = c.x /\ d.y = c.y) := fun d hd z => by
 have hc : c ∈ ds.drop j := List.mem_of_getElem? (i := 0) (by rw [List.getElem?_drop]; exact ec)
 rw [<- List.take_append_drop j ds, List.map_append, List.nodup_append] at nd
 exact nd.2.2 _ (List.mem_map.mpr ⟨d, hd, rfl⟩) _ (List.mem_map.mpr ⟨c, hc, rfl⟩) (by rw [z.1, z.2])
section
variable {P : Program} {w : World} {K : PySem.W.Frag} {mg : Str -> Option Value} {base : Heap} {a : Ad}
theorem Pn {n : Int} (h : 0 <= n) (l : n <= 100) : CPow 2 n := ⟨h, by lia, by decide⟩
inductive Sz (vs : List V) (H : Hp) (Q : VK) : Prop
 | mk (c : Int) (_ : vs = [.int c]) (_ : ∀ v : Int, -(2 ^ 39) <= v -> v < 2 ^ 39 -> Q (.int v) H) : Sz vs H Q
def NV : Sp := fun vs H Q _ => Sz vs H Q
theorem ok_base {f : Addr} {fd : FuncData} (F : Fun K "_law_base" "_law_base" Dt f fd) (T : Top K mg a) : AY P w K mg base CX0 1 f fd Es NV := by
 refine F.ok LR (fun vs H Q E h => ?_) (fun cdv A outer s H vs Q E hr h => ?_)
 ·obtain ⟨c, rfl, _⟩ := h
  rfl
 ·obtain ⟨c, rfl, k⟩ := h
  refine ⟨_, (Ab (Bh (AL FD (Aq Bl (pv 0) Ac) Ac (AM _)) (Aj (Aw (Aq AV (Aq Bl (Aq Bw (pv 0) Ac) (Aq LW Ac Ac)) (Aq LW Ac Ac)))) AD) (Aj (Aw (Aq AV (Aq Bl (Aq Bw (pv 0) Ac) Ac) Ac)))), ?_⟩
  try dsimp only [cxK]
  refine ⟨_, rfl, _, _, rfl, rfl, (by show (0 : Int) < 4; decide), rfl, _, rfl, Ms (fun _ => ?_) (fun _ => ?_)⟩
  ·refine ⟨_, rfl, _, _, rfl, rfl, ⟨by decide, by decide⟩, _, _, rfl, rfl, Pn (by decide) (by decide), _, _, rfl, rfl, (by show (0 : Int) < 2 ^ 39; decide), _, _, rfl, rfl, Pn (by decide) (by decide), _, _, rfl, rfl, k _ ?_ ?_⟩
   ·show -(2 ^ 39) <= c / 4 % 2 ^ 39 - 2 ^ 38
    lia
   ·show c / 4 % 2 ^ 39 - 2 ^ 38 < 2 ^ 39
    lia
  ·refine ⟨_, rfl, _, _, rfl, rfl, ⟨by decide, by decide⟩, _, _, rfl, rfl, (by show (0 : Int) < 12; decide), _, _, rfl, rfl, k _ ?_ ?_⟩
   ·show -(2 ^ 39) <= c / 4 % 12 - 8
    lia
   ·show c / 4 % 12 - 8 < 2 ^ 39
    lia
inductive Sw (K : PySem.W.Frag) (vs : List V) (H : Hp) (Q : VK) : Prop
 | mk (l : Addr) (ns : List Int) (fi x y : Int) (m : Nat) (_ : vs = [.ref l, .int fi, .int (m : Int), .int x, .int y]) (_ : SqL K H l (ns.map V.int)) (_ : 0 <= fi) (_ : m <= 100) (_ : -(2 ^ 39) <= x) (_ : x < 2 ^ 39) (_ : -(2 ^ 39) <= y) (_ : y < 2 ^ 39) (_ : ∀ (D : Addr) (ds : List Cl) (H' : Hp), AB H H' -> H D = none -> H' D = some (.dT (kvC ds)) -> Dd ds m -> Q (.ref D) H') : Sw K vs H Q
def NU (K : PySem.W.Frag) : Sp := fun vs H Q _ => Sw K vs H Q
theorem ok_heap {f : Addr} {fd : FuncData} (F : Fun K "_law_heap" "_law_heap" Ds f fd) (T : Top K mg a) (C__law_at : Cal P w K mg base CX0 1 "_law_at" Eg (QP K)) : AY P w K mg base CX0 2 f fd Er (NU K) := by
 refine F.ok DE (fun vs H Q E h => ?_) (fun cdv A outer s H vs Q E hr h => ?_)
 ·obtain ⟨l, ns, fi, x, y, m, rfl, _⟩ := h
  rfl
 ·obtain ⟨l, ns, fi, x, y, m, rfl, hS, f0, m1, x1, x2, y1, y2, k⟩ := h
  refine ⟨_, (Ab (Al (i := 5) DE.nd rfl (Or.inl rfl) GZ) (Ab (Dj PassesOwn.never rfl (Ed rfl T.b_range (Aa (pv 2) Ae)) (BG (i := 6) DE.nd rfl (Or.inl rfl)) (Ab (Al (i := 7) DE.nd rfl (Or.inl rfl) (As C__law_at (rm hr) rfl Ar (Aa (pv 0) (Bk AI (pv 1) (pv 6) Ae)))) (Ab (Al (i := 8) DE.nd rfl (Or.inl rfl) (Aq AI (pv 7) (Aq Ez Ac (pv 6)))) (Aj (FP (FW hr) (pv 5) (Cc (Bk AI (pv 3) (Aq Bl (pv 8) Ac) (Bk AI (pv 4) (Aq Bl (Aq Bw (pv 8) Ac) Ac) Ae))) (Aq AI Ac (Aq Bl (Aq AI (Aq Bw (pv 7) Ac) (pv 6)) Ac)) rfl))))) (Aj (Aw (pv 5))))), ?_⟩
  try dsimp only [cxK]
  refine fun D hD => ?_
  have s1 := An (o := .dT []) hD
  have hD1 : upd H D (.dT []) D = some (.dT (kvC [])) := Ai
  generalize upd H D (.dT []) = H1 at s1 hD1 ⊢
  refine ⟨_, rfl, _, rfl, by lia, by lia, ?_⟩
  rw [Int.toNat_natCast]
  refine Dx (n := m) (fun j σ H3 => ∃ (ds : List Cl) (u6 u7 u8 : Option V), σ = [some (.ref l), some (.int fi), some (.int (m : Int)), some (.int x), some (.int y), some (.ref D), u6, u7, u8] /\ AB H H3 /\ H3 D = some (.dT (kvC ds)) /\ Dd ds j) ⟨[], none, none, none, rfl, s1, hD1, Dd.nil⟩ ?_ ?_
  ·rintro j σ H3 hj ⟨ds, u6, u7, u8, rfl, sm, hD3, dd⟩
   refine ⟨_, rfl, _, rfl, _, rfl, _, _, rfl, rfl, l, ns, _, rfl, sm.seq hS, by show 0 <= fi + (0 + (j : Int)); lia, ?_⟩
   generalize atN ns (fi + (0 + (j : Int))) = v
   refine ⟨_, rfl, _, rfl, _, _, rfl, rfl, .inl ⟨by decide, by decide⟩, _, _, rfl, rfl, ?_⟩
   refine ⟨_, rfl, _, _, rfl, rfl, ⟨by decide, by decide⟩, _, rfl, _, _, rfl, rfl, _, _, rfl, rfl, (by show (0 : Int) < 7; decide), _, _, rfl, rfl, _, rfl, ?_⟩
   obtain ⟨st, hst⟩ := Int.eq_ofNat_of_zero_le (show 0 <= 1 + (v / 18 + (0 + (j : Int))) % 7 by lia)
   refine ⟨_, rfl, _, rfl, _, _, rfl, rfl, (by show (0 : Int) < 6; decide), _, _, rfl, rfl, _, rfl, _, rfl, _, _, rfl, rfl, ⟨by decide, by decide⟩, _, _, rfl, rfl, (by show (0 : Int) < 3; decide), _, _, rfl, rfl, (by show 2 <= sizeLine; decide), fun t ht => ?_⟩
   have e1 : (fun (i j : Int) => V.int (i + j)) 1 ((v / 18 + (0 + (j : Int))) % 7) = V.int (st : Int) := congrArg V.int hst
   rw [e1]
   have s6 := An (o := .tup [.int (x + (v + 3 * (0 + (j : Int))) % 6), .int (y + (v + 3 * (0 + (j : Int))) / 6 % 3)]) ht
   have h6 : upd H3 t (.tup [.int (x + (v + 3 * (0 + (j : Int))) % 6), .int (y + (v + 3 * (0 + (j : Int))) / 6 % 3)]) t = some (.tup [.int (x + (v + 3 * (0 + (j : Int))) % 6), .int (y + (v + 3 * (0 + (j : Int))) / 6 % 3)]) := Ai
   have hD6 := s6 _ _ hD3
   have dl := dd.len
   refine ⟨D, _, rfl, dput (c := ⟨x + (v + 3 * (0 + (j : Int))) % 6, y + (v + 3 * (0 + (j : Int))) / 6 % 3, st⟩) hD6 h6 (by lia), ?_⟩
   refine ⟨GX ds ⟨x + (v + 3 * (0 + (j : Int))) % 6, y + (v + 3 * (0 + (j : Int))) / 6 % 3, st⟩, _, _, _, rfl, fun b o e => ?_, Ai, dd.put ⟨?_, ?_⟩ ?_⟩
   ·rw [Av (At e hD)]
    exact s6 _ _ (sm _ _ e)
   ·unfold BU
    dsimp only
    generalize v + 3 * (0 + (j : Int)) = z
    refine ⟨by lia, by lia, by lia, by lia⟩
   ·show st < 8
    lia
   ·show 1 <= st
    lia
  ·rintro σ H3 ⟨ds, u6, u7, u8, rfl, sm, hD3, dd⟩
   exact ⟨_, rfl, k D ds H3 sm hD hD3 dd⟩
theorem MB {σ : St} {D : Addr} {o : Obj} {H : Hp} {ds : List Cl} {fin : List V -> Hp -> Prop} (k : Nat) (hk : k < 2) (kk : Int) (ek : kk = (k : Int)) (hf : H D = some (.frz o (.dT (kvC ds)))) (ld : ds.length <= 100) (q : ∀ (H' : Hp), AB H H' -> fin ((ds.map (coC k)).map V.int) H') : FK 1 [] (Lx 0) tYes (tOp (LS K) (JY 0) (tC (V.int kk))) (Itd D o (kvC ds)) σ H fin := by
 have ldk : (kvC ds).length = ds.length := List.length_map _
 refine blk_dT (kvs := kvC ds) (fun j acc H2 => AB H H2 /\ acc = ((ds.take j).map (coC k)).map V.int) ⟨AB.refl H, rfl⟩ (fun j acc H2 _ z => by obtain ⟨sm, _⟩ := z; exact sm _ _ hf) ?_ ?_
 ·rintro j kb kv v acc H2 ev hb ⟨sm, rfl⟩
  obtain ⟨c, ec, ee⟩ : ∃ c, ds[j]? = some c /\ (kOf [c.x, c.y], V.int (c.s : Int)) = (kv, v) := by
   unfold kvC at ev
   rw [List.getElem?_map] at ev
   obtain ⟨c, ec, e⟩ := Option.map_eq_some_iff.mp ev
   exact ⟨c, ec, e⟩
  cases ee
  have jl : j < ds.length := (List.getElem?_eq_some_iff.mp ec).1
  have hb' : H2 kb = some (.tup [.int c.x, .int c.y]) := hb
  refine ⟨⟨[some (.ref kb)], rfl, rfl⟩, by rw [List.length_map, List.length_map, List.length_take]; exact EC (by lia), PB ?_⟩
  refine ⟨_, rfl, kb, _, (k : Int), .int (coC k c), rfl, by rw [ek], SqT.of hb', Af ?_, sm, ?_⟩
  ·match k, hk with
   | 0, _ => rfl
   | 1, _ => rfl
  ·rw [List.take_add_one, ec, Option.toList_some, List.map_append, List.map_append]
   rfl
 ·rintro acc H2 ⟨sm, rfl⟩
  rw [ldk, List.take_length]
  exact q H2 sm
inductive Su (vs : List V) (H : Hp) (Q : VK) : Prop
 | mk (D : Addr) (ds : List Cl) (φ : Int -> Int -> Nat) (_ : vs = [.ref D]) (_ : Rd H D (.dT (kvC ds))) (_ : GQ ds φ) (_ : ds.length <= 100) (_ : ds.length ≠ 0) (_ : ∀ (o : Obj) (B : Bx) (t : Addr) (H' : Hp), FrO D H H' -> H' D = some (.frz o (.dT (kvC ds))) -> H' t = some (.tup [.int B.l, .int B.t, .int B.w, .int B.h]) -> CF (fun u v => φ u v ≠ 0) B -> Q (.ref t) H') : Su vs H Q
def NT : Sp := fun vs H Q _ => Su vs H Q
theorem ok_lbox {f : Addr} {fd : FuncData} (F : Fun K "_law_box" "_law_box" Ca f fd) (T : Top K mg a) : AY P w K mg base CX0 1 f fd EY NT := by
 refine F.ok Fe (fun vs H Q E h => ?_) (fun cdv A outer s H vs Q E hr h => ?_)
 ·obtain ⟨D, ds, φ, rfl, _⟩ := h
  rfl
 ·obtain ⟨D, ds, φ, rfl, rd, dk, l1, n0, k⟩ := h
  refine ⟨_, (Ab (Al (i := 1) Fe.nd rfl (Or.inl rfl) (AN (Gw rfl) rfl T.b_min PyProof.Rows.boot_min (Aa (Fg rfl (Db.of (So := Ah Ca) (No := Fa) (N := ["_law_place"]) (k := 1) (cs := []) rfl rfl (by decide +kernel)) (Fv (pv 0)) (fun _ _ _ => (DK (i := 0) (by decide +kernel) rfl rfl)) (fun _ _ _ => ED) (fun _ _ _ => (Ak (El (K := K) rfl) (pv 0) Ac (fun _ _ => rfl)))) Ae))) (Ab (Al (i := 2) Fe.nd rfl (Or.inl rfl) (AN (Gw rfl) rfl T.b_min PyProof.Rows.boot_min (Aa (Fg rfl (Db.of (So := Ah Ca) (No := Fa) (N := ["_law_place"]) (k := 1) (cs := []) rfl rfl (by decide +kernel)) (Fv (pv 0)) (fun _ _ _ => (DK (i := 0) (by decide +kernel) rfl rfl)) (fun _ _ _ => ED) (fun _ _ _ => (Ak (El (K := K) rfl) (pv 0) Ac (fun _ _ => rfl)))) Ae))) (Ab (Al (i := 3) Fe.nd rfl (Or.inl rfl) (Aq AI (Aq AV (AN (Gx rfl) rfl T.b_max PyProof.Rows.boot_max (Aa (Fg rfl (Db.of (So := Ah Ca) (No := Fa) (N := ["_law_place"]) (k := 1) (cs := []) rfl rfl (by decide +kernel)) (Fv (pv 0)) (fun _ _ _ => (DK (i := 0) (by decide +kernel) rfl rfl)) (fun _ _ _ => ED) (fun _ _ _ => (Ak (El (K := K) rfl) (pv 0) Ac (fun _ _ => rfl)))) Ae)) (pv 1)) Ac)) (Aj (Aw (Cc (Aa (pv 1) (Aa (pv 2) (Aa (pv 3) (Bk AI (Aq AV (AN (Gx rfl) rfl T.b_max PyProof.Rows.boot_max (Aa (Fg rfl (Db.of (So := Ah Ca) (No := Fa) (N := ["_law_place"]) (k := 1) (cs := []) rfl rfl (by decide +kernel)) (Fv (pv 0)) (fun _ _ _ => (DK (i := 0) (by decide +kernel) rfl rfl)) (fun _ _ _ => ED) (fun _ _ _ => (Ak (El (K := K) rfl) (pv 0) Ac (fun _ _ => rfl)))) Ae)) (pv 2)) Ac Ae)))))))))), ?_⟩
  try dsimp only [cxK]
  have ne : ∀ k : Nat, ds.map (coC k) ≠ [] := fun k z => n0 (by rw [<- List.length_map (coC k), z]; rfl)
  refine ⟨_, rfl, D, kvC ds, rfl, rd, fun o1 H1 hf1 fr1 => MB 0 (by decide) 0 rfl hf1 l1 fun J1 s1 L1 hL1 => ?_⟩
  have fr1 : FrO D H H1 := fr1
  have u1 := An (o := .lst ((ds.map (coC 0)).map V.int)) hL1
  have l1' : upd J1 L1 (.lst ((ds.map (coC 0)).map V.int)) L1 = some (.lst ((ds.map (coC 0)).map V.int)) := Ai
  have F1 := fr1.trans (AB.frO (s1.trans u1))
  have D1 := u1 _ _ (s1 _ _ hf1)
  clear fr1 hL1
  generalize upd J1 L1 (.lst ((ds.map (coC 0)).map V.int)) = G1 at l1' F1 D1 ⊢
  refine ⟨L1, ds.map (coC 0), rfl, SqL.of l1', ne 0, fun x0 a0 b0 => ?_⟩
  refine ⟨_, rfl, D, kvC ds, rfl, .inr ⟨_, D1⟩, fun o2 H2 hf2 fr2 => MB 1 (by decide) 1 rfl hf2 l1 fun J2 s2 L2 hL2 => ?_⟩
  have fr2 : FrO D G1 H2 := fr2
  have u2 := An (o := .lst ((ds.map (coC 1)).map V.int)) hL2
  have l2' : upd J2 L2 (.lst ((ds.map (coC 1)).map V.int)) L2 = some (.lst ((ds.map (coC 1)).map V.int)) := Ai
  have F2 := fr2.trans (AB.frO (s2.trans u2))
  have D2 := u2 _ _ (s2 _ _ hf2)
  clear fr2 hL2
  generalize upd J2 L2 (.lst ((ds.map (coC 1)).map V.int)) = G2 at l2' F2 D2 ⊢
  refine ⟨L2, ds.map (coC 1), rfl, SqL.of l2', ne 1, fun y0 c0 d0 => ?_⟩
  refine ⟨_, rfl, D, kvC ds, rfl, .inr ⟨_, D2⟩, fun o3 H3 hf3 fr3 => MB 0 (by decide) 0 rfl hf3 l1 fun J3 s3 L3 hL3 => ?_⟩
  have fr3 : FrO D G2 H3 := fr3
  have u3 := An (o := .lst ((ds.map (coC 0)).map V.int)) hL3
  have l3' : upd J3 L3 (.lst ((ds.map (coC 0)).map V.int)) L3 = some (.lst ((ds.map (coC 0)).map V.int)) := Ai
  have F3 := fr3.trans (AB.frO (s3.trans u3))
  have D3 := u3 _ _ (s3 _ _ hf3)
  clear fr3 hL3
  generalize upd J3 L3 (.lst ((ds.map (coC 0)).map V.int)) = G3 at l3' F3 D3 ⊢
  refine ⟨L3, ds.map (coC 0), rfl, SqL.of l3', ne 0, fun x1 a1 b1 => ?_⟩
  refine ⟨_, rfl, _, _, rfl, rfl, _, _, rfl, rfl, ?_⟩
  refine ⟨_, rfl, _, rfl, _, rfl, ?_⟩
  refine ⟨_, rfl, D, kvC ds, rfl, .inr ⟨_, D3⟩, fun o4 H4 hf4 fr4 => MB 1 (by decide) 1 rfl hf4 l1 fun J4 s4 L4 hL4 => ?_⟩
  have fr4 : FrO D G3 H4 := fr4
  have u4 := An (o := .lst ((ds.map (coC 1)).map V.int)) hL4
  have l4' : upd J4 L4 (.lst ((ds.map (coC 1)).map V.int)) L4 = some (.lst ((ds.map (coC 1)).map V.int)) := Ai
  have F4 := fr4.trans (AB.frO (s4.trans u4))
  have D4 := u4 _ _ (s4 _ _ hf4)
  clear fr4 hL4
  generalize upd J4 L4 (.lst ((ds.map (coC 1)).map V.int)) = G4 at l4' F4 D4 ⊢
  refine ⟨L4, ds.map (coC 1), rfl, SqL.of l4', ne 1, fun y1 c1 d1 => ?_⟩
  refine ⟨_, rfl, _, _, rfl, rfl, _, _, rfl, rfl, (by show 4 <= sizeLine; decide), fun t ht => ?_⟩
  have s5 := An (o := .tup [.int x0, .int y0, .int (x1 - x0 + 1), .int (y1 - y0 + 1)]) ht
  exact k o4 ⟨x0, y0, x1 - x0 + 1, y1 - y0 + 1⟩ t _ ((((F1.trans F2).trans F3).trans F4).trans (AB.frO s5)) (s5 _ _ D4) Ai (QB dk n0 a0 b0 a1 b1 c0 d0 c1 d1)
inductive SpLMv (vs : List V) (H : Hp) (Q : VK) : Prop
 | mk (D : Addr) (ds : List Cl) (dx dy : Int) (_ : vs = [.ref D, .int dx, .int dy]) (_ : Rd H D (.dT (kvC ds))) (_ : (ds.map fun c => (c.x, c.y)).Nodup) (_ : ds.length <= 100) (_ : ∀ (o : Obj) (M : Addr) (H' : Hp), FrO D H H' -> H' D = some (.frz o (.dT (kvC ds))) -> H M = none -> H' M = some (.dT (kvC (ds.map (mvC dx dy)))) -> Q (.ref M) H') : SpLMv vs H Q
def QK : Sp := fun vs H Q _ => SpLMv vs H Q
theorem ok_lmv {f : Addr} {fd : FuncData} (F : Fun K "_law_moved" "_law_moved" CP f fd) (T : Top K mg a) : AY P w K mg base CX0 1 f fd DM QK := by
 refine F.ok Fk (fun vs H Q E h => ?_) (fun cdv A outer s H vs Q E hr h => ?_)
 ·obtain ⟨D, ds, dx, dy, rfl, _⟩ := h
  rfl
 ·obtain ⟨D, ds, dx, dy, rfl, rd, nd, l1, k⟩ := h
  refine ⟨_, (Ab (Al (i := 3) Fk.nd rfl (Or.inl rfl) GZ) (Ab (Dj PassesOwn.never rfl (Fv (pv 0)) (BG (i := 4) Fk.nd rfl (Or.inl rfl)) (Aj (FP (FW hr) (pv 3) (Cc (Bk AI (Ak Am (pv 4) Ac (fun _ _ => rfl)) (pv 1) (Bk AI (Ak Am (pv 4) Ac (fun _ _ => rfl)) (pv 2) Ae))) (OR (FW hr) (pv 0) (pv 4) (fun _ _ => rfl)) rfl))) (Aj (Aw (pv 3))))), ?_⟩
  try dsimp only [cxK]
  have nD : ∀ {x : Addr}, H x = none -> x ≠ D := fun {x} n z => by
   rw [z] at n
   rcases rd with y | ⟨o, y⟩
   ·rw [y] at n; cases n
   ·rw [y] at n; cases n
  refine fun M hM => ?_
  have s1 := An (o := .dT []) hM
  have h1 : upd H M (.dT []) M = some (.dT (kvC [])) := Ai
  generalize upd H M (.dT []) = H1 at s1 h1 ⊢
  have rd1 : Rd H1 D (.dT (kvC ds)) := by
   rcases rd with y | ⟨o, y⟩
   ·exact .inl (s1 _ _ y)
   ·exact .inr ⟨o, s1 _ _ y⟩
  refine ⟨_, rfl, D, kvC ds, rfl, rd1, fun o H2 hD2 fr2 => ?_⟩
  have h2 := fr2 _ _ h1 (nD hM)
  have fr02 : FrO D H H2 := fun b u e n => fr2 _ _ (s1 _ _ e) n
  have ldk : (kvC ds).length = ds.length := List.length_map _
  refine RW (kvs := kvC ds) (fun j σ H3 => ∃ (u4 : Option V), σ = [some (.ref D), some (.int dx), some (.int dy), some (.ref M), u4] /\ (∀ b u, H2 b = some u -> b ≠ M -> H3 b = some u) /\ H3 M = some (.dT (kvC ((ds.take j).map (mvC dx dy))))) ⟨none, rfl, fun b u e _ => e, h2⟩ (fun j σ H3 _ z => by obtain ⟨_, _, z, _⟩ := z; exact z _ _ hD2 (Ne.symm (nD hM))) ?_ ?_
  ·rintro j kb kv v σ H3 ev hb ⟨u4, rfl, k3, h3⟩
   obtain ⟨c, ec, ee⟩ : ∃ c, ds[j]? = some c /\ (kOf [c.x, c.y], V.int (c.s : Int)) = (kv, v) := by
    unfold kvC at ev
    rw [List.getElem?_map] at ev
    obtain ⟨c, ec, e⟩ := Option.map_eq_some_iff.mp ev
    exact ⟨c, ec, e⟩
   cases ee
   have jl : j < ds.length := (List.getElem?_eq_some_iff.mp ec).1
   have hb' : H3 kb = some (.tup [.int c.x, .int c.y]) := hb
   have hD3 := k3 _ _ hD2 (Ne.symm (nD hM))
   refine ⟨_, rfl, _, rfl, D, .int (c.s : Int), rfl, .inr ⟨kvC ds, kOf [c.x, c.y], kb, .inr ⟨o, hD3⟩, rfl, hb, (Ih nd (List.mem_of_getElem? ec)).symm⟩, _, rfl, ?_⟩
   refine ⟨_, rfl, kb, _, 0, .int c.x, rfl, rfl, SqT.of hb', Af (j := 0) rfl, _, rfl, _, _, rfl, rfl, _, rfl, kb, _, 1, .int c.y, rfl, rfl, SqT.of hb', Af (j := 1) rfl, _, rfl, _, _, rfl, rfl, (by show 2 <= sizeLine; decide), fun t ht => ?_⟩
   have s6 := An (o := .tup [.int (c.x + dx), .int (c.y + dy)]) ht
   have h6 : upd H3 t (.tup [.int (c.x + dx), .int (c.y + dy)]) t = some (.tup [.int (mvC dx dy c).x, .int (mvC dx dy c).y]) := Ai
   refine ⟨M, _, rfl, dput (c := mvC dx dy c) (s6 _ _ h3) h6 (by rw [List.length_map, List.length_take]; lia), ?_⟩
   refine ⟨_, rfl, fun b u e n => ?_, ?_⟩
   ·rw [Av n]
    exact s6 _ _ (k3 _ _ e n)
   ·rw [Ai, QV, List.take_add_one, ec, Option.toList_some, List.map_append]
    ·rfl
    ·intro d hd z
     obtain ⟨d', hd', rfl⟩ := List.mem_map.mp hd
     have z1 : d'.x + dx = c.x + dx := z.1
     have z2 : d'.y + dy = c.y + dy := z.2
     exact nd_take nd ec d' hd' ⟨by lia, by lia⟩
  ·rintro σ H3 ⟨u4, rfl, k3, h3⟩
   rw [ldk, List.take_length] at h3
   exact ⟨_, rfl, k o M H3 (fun b u e n => k3 _ _ (fr02 _ _ e n) (At e hM)) (k3 _ _ hD2 (Ne.symm (nD hM))) hM h3⟩
inductive SpRi (vs : List V) (H : Hp) (Q : VK) : Prop
 | mk (t : Addr) (i j k : Int) (_ : vs = [.ref t, .int i, .int j, .int k]) (_ : H t = some (.tup [.int i, .int j, .int k])) (_ : ∀ H', AB H H' -> Q (.bl true) H') : SpRi vs H Q
def spRi : Sp := fun vs H Q _ => SpRi vs H Q
theorem ok_ri {f : Addr} {fd : FuncData} (F : Fun K "_law_right" "_law_right" CO f fd) (T : Top K mg a) : AY P w K mg base CX0 1 f fd CV spRi := by
 refine F.ok GG (fun vs H Q E h => ?_) (fun cdv A outer s H vs Q E hr h => ?_)
 ·obtain ⟨t, i, j, k, rfl, _⟩ := h
  rfl
 ·obtain ⟨t, i, j, k, rfl, ht, q⟩ := h
  refine ⟨_, (Ab (Bh (PW.pt (IG (CD (Cs (AN Gk rfl T.b_isinstance PyProof.Rows.boot_isinstance (Aa (pv 0) (Aa (Ia (v := .ty "tuple") rfl T.b_tuple PyProof.Rows.boot_tuple rfl) Ae))))) (Ga (AL Rf (AN DR rfl T.b_len PySem.boot_len (Aa (pv 0) Ae)) Ac (AM _))))) (Aj (Aw Ib)) AD) (Ab (Dj PassesOwn.never rfl (QY (pv 0)) (BG (i := 4) GG.nd rfl (Or.inl rfl)) (Aj (Bh (PW.pt (IG (CD (Cs (AN Gk rfl T.b_isinstance PyProof.Rows.boot_isinstance (Aa (pv 4) (Aa (Ia (v := .ty "int") rfl T.b_int PyProof.Rows.boot_int rfl) Ae))))) (Ga (Cs (AN Gk rfl T.b_isinstance PyProof.Rows.boot_isinstance (Aa (pv 4) (Aa (Ia (v := .ty "bool") rfl T.b_bool PyProof.Rows.boot_bool rfl) Ae))))))) (Aj (Aw Ib)) AD))) (Aj (Aw (Fh (Iq hr.units) (pv 0) (Cc (Aa (pv 1) (Aa (pv 2) (Aa (pv 3) Ae)))) (AM _)))))), ?_⟩
  try dsimp only [cxK]
  refine ⟨_, rfl, _, _, _, .type "tuple", true, rfl, rfl, .of (.tup ht), kit_t K, true, rfl, BC ⟨_, rfl, t, _, rfl, .inr (SqT.of ht), rfl, _, rfl, iteNS rfl ?_⟩⟩
  refine ⟨_, rfl, t, rfl, ⟨_, SqT.of ht⟩, ?_⟩
  refine for_tup (xs := [.int i, .int j, .int k]) (fun n σ H2 => H = H2 /\ ∃ u4 : Option V, σ = [some (.ref t), some (.int i), some (.int j), some (.int k), u4]) ⟨rfl, none, rfl⟩ (fun n σ H2 _ ⟨e, _⟩ => SqT.of (e ▸ ht)) ?_ ?_
  ·rintro n v σ H2 ev ⟨rfl, u4, rfl⟩
   obtain ⟨z, rfl⟩ : ∃ z : Int, v = .int z := by
    have := List.mem_of_getElem? ev
    simp only [List.mem_cons, List.not_mem_nil, or_false] at this
    rcases this with e | e | e <;> exact ⟨_, e⟩
   exact ⟨_, rfl, _, _, _, .type "int", true, rfl, rfl, .of (.int z), (OZ K).1, true, rfl, BC ⟨_, rfl, _, _, _, .type "int", false, rfl, rfl, .of (.int z), (OZ K).2, false, rfl, BC ⟨rfl, _, rfl⟩⟩⟩
  ·rintro σ H2 ⟨rfl, u4, rfl⟩
   refine ⟨_, rfl, _, rfl, _, rfl, _, rfl, (by show 3 <= sizeLine; decide), fun t2 ht2 => ?_⟩
   have s2 := An (o := .tup [.int i, .int j, .int k]) ht2
   refine ⟨t, t2, [i, j, k], [i, j, k], rfl, rfl, SqT.of (s2 _ _ ht), SqT.of Ai, ?_⟩
   rw [decide_eq_true rfl]
   exact q _ s2
end
end J
namespace J
open PySem L2
seal L2.PA L2.PE L2.PS L2.PSs L2.PT L2.PW
theorem GP {G r : Gv} (e : G = G0 ++ r) : ∀ {n : Nat}, n <= 48 -> Sol G 0 n (bareN n)
 | 0, _ => rfl
 | n + 1, h => ⟨bareN n, GP e (by lia), Mv e n (by lia)⟩
theorem OD {G r : Gv} (e0 : G = G0 ++ r) (ok : GOk G) : Vl G (bareN 1) (fun _ _ => 0) 49 := by
 refine ⟨⟨0, ⟨Cq e0 (n := 1) (by decide), .inl rfl, by decide⟩, fun u v => ?_⟩, MA e0 ok (by decide)⟩
 unfold AF
 split
 ·rename_i z
  exact Cp e0 ok (by decide) (CZ z.1 z.2.1) (CZ z.2.2.1 z.2.2.2)
 ·rfl
theorem PH {q : Bo} {s : Nat} (w0 : 0 < q.wd) (h0 : 0 < q.ht) (s1 : 1 <= s) : CF (fun u v => GD q s (fun _ _ => 0) u v ≠ 0) ⟨q.x, q.y, q.wd, q.ht⟩ := by
 have on : ∀ {u v : Int}, InB q.x q.y q.wd q.ht u v -> GD q s (fun _ _ => 0) u v ≠ 0 := fun {u v} z => by
  unfold GD
  rw [if_pos z]
  lia
 refine ⟨fun u v z => ?_, ⟨q.y, on ?_⟩, ⟨q.x, on ?_⟩, ⟨q.y, on ?_⟩, ⟨q.x, on ?_⟩⟩
 ·have : InB q.x q.y q.wd q.ht u v := Classical.byContradiction fun y => z (by
   show GD q s (fun _ _ => 0) u v = 0
   unfold GD
   rw [if_neg y])
  unfold InB at this
  dsimp only
  lia
 all_goals
  unfold InB
  dsimp only
  lia
theorem OB (v u : Int) : 1 <= 1 + v % (2 * 2 ^ (u / 3 % 40).toNat) /\ 1 + v % (2 * 2 ^ (u / 3 % 40).toNat) <= 2 ^ 40 := by
 obtain ⟨n, hn⟩ := Int.eq_ofNat_of_zero_le (show 0 <= u / 3 % 40 by lia)
 rw [hn, Int.toNat_natCast]
 have p0 : (0 : Int) < 2 ^ n := Int.pow_pos (by decide)
 have p1 : (2 : Int) ^ (n + 1) <= 2 ^ 40 := OP (by lia)
 rw [Int.pow_succ] at p1
 have := Int.emod_nonneg v (show (2 * 2 ^ n : Int) ≠ 0 by lia)
 have := Int.emod_lt_of_pos v (show (0 : Int) < 2 * 2 ^ n by lia)
 generalize (2 : Int) ^ n = p at *
 lia
theorem QQ (u : Int) : CPow 2 (u / 3 % 40) := ⟨by lia, by lia, by decide⟩
theorem ON (u : Int) : (0 : Int) < 2 * 2 ^ (u / 3 % 40).toNat := by
 have : (0 : Int) < 2 ^ (u / 3 % 40).toNat := Int.pow_pos (by decide)
 lia
theorem Ji (v : Int) {W : Int} (h1 : 1 <= W) (h2 : W <= 2 ^ 41) : -(2 ^ 40) <= v % (2 * 2 ^ 40 - W + 1) - 2 ^ 40 /\ v % (2 * 2 ^ 40 - W + 1) - 2 ^ 40 + W <= 2 ^ 40 := by
 have := Int.emod_nonneg v (show (2 * 2 ^ 40 - W + 1 : Int) ≠ 0 by lia)
 have := Int.emod_lt_of_pos v (show (0 : Int) < 2 * 2 ^ 40 - W + 1 by lia)
 generalize v % (2 * 2 ^ 40 - W + 1) = z at *
 lia
section
variable {P : Program} {w : World} {K : PySem.W.Frag} {mg : Str -> Option Value} {base : Heap} {a : Ad}
inductive SpBR (K : PySem.W.Frag) (a : Ad) (vs : List V) (H : Hp) (Q : VK) : Prop
 | mk (g : GA) (G : Gv) (l : Addr) (ns : List Int) (_ : vs = [.ref l, .ref g.p]) (_ : AO a H g G) (_ : ∀ H', Fx (frA g) H H' -> SqL K H' l (ns.map V.int)) (_ : G.length <= 10000) (_ : ∀ H', Fx (frA g) H H' -> Q (.bl true) H') : SpBR K a vs H Q
def spBR (K : PySem.W.Frag) (a : Ad) : Sp := fun vs H Q _ => SpBR K a vs H Q
theorem ok_br {f : Addr} {fd : FuncData} (F : Fun K "_law_box_right" "_law_box_right" BO f fd) (T : Top K mg a) (C__law_at : Cal P w K mg base CX0 1 "_law_at" Eg (QP K)) (M_Grove_solid : CM P w K mg base CX0 4 a.c_Grove "solid" Cd (GR a)) (C_filled : Cal P w K mg base CX0 103 "filled" Gd (Jw a)) (C_shape_of : Cal P w K mg base CX0 104 "shape_of" Ef (Jd a)) (C__law_right : Cal P w K mg base CX0 1 "_law_right" CV spRi) : AY P w K mg base CX0 105 f fd Cm (spBR K a) := by
 refine F.ok AK (fun vs H Q E h => ?_) (fun cdv A outer s H vs Q E hr h => ?_)
 ·obtain ⟨g, G, l, ns, rfl, _⟩ := h
  rfl
 ·obtain ⟨g, G, l, ns, rfl, fu, hS, few, kq⟩ := h
  refine ⟨_, (Ab (Al (i := 2) AK.nd rfl (Or.inl rfl) (Aq LW Ac Ac)) (Ab (Al (i := 3) AK.nd rfl (Or.inl rfl) (Aq AI Ac (Aq Bl (As C__law_at (rm hr) rfl Ar (Aa (pv 0) (AH Ae))) (Aq GL Ac (Aq Bl (Aq Bw (As C__law_at (rm hr) rfl Ar (Aa (pv 0) (AH Ae))) Ac) Ac))))) (Ab (Al (i := 4) AK.nd rfl (Or.inl rfl) (Aq AI Ac (Aq Bl (As C__law_at (rm hr) rfl Ar (Aa (pv 0) (AH Ae))) (Aq GL Ac (Aq Bl (Aq Bw (As C__law_at (rm hr) rfl Ar (Aa (pv 0) (AH Ae))) Ac) Ac))))) (Ab (Al (i := 5) AK.nd rfl (Or.inl rfl) (Aq AI Ac (Aq Bl (Aq Bw (As C__law_at (rm hr) rfl Ar (Aa (pv 0) (AH Ae))) Ac) Ac))) (Ab (Al (i := 6) AK.nd rfl (Or.inl rfl) (AU (pv 1) M_Grove_solid (rm hr) Ar (AH (AH Ae)))) (Ab (Al (i := 7) AK.nd rfl (Or.inl rfl) (As C_filled (rm hr) rfl Ar (Aa (pv 1) (Aa (pv 6) (BV (Aa (En CG (Aq Bw (pv 3) Ac)) (Aa (En CG (Aq Bw (pv 4) Ac)) (Aa (pv 3) (Aa (pv 4) Ae)))) (Aa (pv 5) Ae)))))) (Ab (Dj PassesOwn.never rfl (Ed rfl T.b_range (AH Ae)) (BG (i := 8) AK.nd rfl (Or.inl rfl)) (Ab (Al (i := 9) AK.nd rfl (Or.inl rfl) (Aq AV (Aq Bl (Aq AI (Aq Ez (As C__law_at (rm hr) rfl Ar (Aa (pv 0) (Aa (pv 8) Ae))) (Aq AI (pv 8) Ac)) (pv 8)) (Aq AI (Aq AV (Aq Ez Ac (pv 2)) (pv 3)) Ac)) (pv 2))) (Ab (Al (i := 10) AK.nd rfl (Or.inl rfl) (Aq AV (Aq Bl (Aq AI (Aq Bw (As C__law_at (rm hr) rfl Ar (Aa (pv 0) (Bk AV Ac (pv 8) Ae))) (Aq AI (pv 8) Ac)) (Aq Ez Ac (pv 8))) (Aq AI (Aq AV (Aq Ez Ac (pv 2)) (pv 4)) Ac)) (pv 2))) (Ab (Al (i := 11) AK.nd rfl (Or.inl rfl) (As C_filled (rm hr) rfl Ar (Aa (pv 1) (Aa (pv 6) (BV (Aa (pv 9) (Aa (pv 10) (Aa (pv 3) (Aa (pv 4) Ae)))) (Aa (pv 5) Ae)))))) (Aj (Bh (CD (Cs (As C__law_right (rm hr) rfl Ar (Aa (As C_shape_of (rm hr) rfl Ar (Aa (pv 1) (Aa (pv 11) Ae))) (Aa (pv 7) (Aa (pv 9) (Aa (pv 10) Ae))))))) (Aj (Aw Ib)) AD)))))) (Aj (Aw Ib))))))))), ?_⟩
  try dsimp only [cxK]
  have hS0 := hS H (Fx.refl _ _)
  refine ⟨_, _, rfl, rfl, Pn (by decide) (by decide), ?_⟩
  refine ⟨_, rfl, l, ns, 4, rfl, hS0, by decide, _, rfl, l, ns, 2, rfl, hS0, by decide, _, _, rfl, rfl, ⟨by decide, by decide⟩, _, _, rfl, rfl, (by show (0 : Int) < 40; decide), _, _, rfl, rfl, QQ _, _, _, rfl, rfl, ON _, _, _, rfl, rfl, ?_⟩
  have w1 := OB (atN ns 4) (atN ns 2)
  show _
  refine ⟨_, rfl, l, ns, 5, rfl, hS0, by decide, _, rfl, l, ns, 3, rfl, hS0, by decide, _, _, rfl, rfl, ⟨by decide, by decide⟩, _, _, rfl, rfl, (by show (0 : Int) < 40; decide), _, _, rfl, rfl, QQ _, _, _, rfl, rfl, ON _, _, _, rfl, rfl, ?_⟩
  have h1 := OB (atN ns 5) (atN ns 3)
  dsimp only
  generalize 1 + atN ns 4 % (2 * 2 ^ (atN ns 2 / 3 % 40).toNat) = W at w1 ⊢
  generalize 1 + atN ns 5 % (2 * 2 ^ (atN ns 3 / 3 % 40).toNat) = Y at h1 ⊢
  obtain ⟨st0, es, ls⟩ := idx (n := 7) (by decide) (atN ns 1 / 3)
  have es : atN ns 1 / 3 % 7 = (st0 : Int) := es
  refine ⟨_, rfl, l, ns, 1, rfl, hS0, by decide, _, _, rfl, rfl, ⟨by decide, by decide⟩, _, _, rfl, rfl, (by show (0 : Int) < 7; decide), _, _, rfl, rfl, ?_⟩
  rw [show (fun (i j : Int) => V.int (i + j)) 1 (atN ns 1 / 3 % 7) = V.int ((st0 + 1 : Nat) : Int) from congrArg V.int (by show 1 + atN ns 1 / 3 % 7 = _; lia)]
  refine ⟨_, rfl, g.p, g.dx, _, rfl, fu.at'.hp, JJ g, g, G, 1, 0, rfl, fu.at', fu.ok, by decide, by decide, by lia, fun i G4 H4 fr4 hg4 go4 so4 => ?_⟩
  have fu4 := fu.fr fr4 hg4 go4
  have g4 := go4.few
  obtain ⟨q4, e4⟩ := fu4.g0
  have ei : i = bareN 1 := Sol.uniq fu4.ok so4 (GP e4 (by decide))
  subst ei
  have vb := OD e4 fu4.ok
  have X4 : Fx (frA g) H H4 := (fr4.fx fu.at').mono (by simp [frA])
  refine ⟨_, rfl, _, rfl, _, rfl, _, _, rfl, rfl, ⟨by decide, by decide⟩, _, rfl, _, rfl, _, _, rfl, rfl, ⟨by decide, by decide⟩, _, rfl, _, rfl, _, rfl, (by show 4 <= sizeLine; decide), fun t5 ht5 => ?_⟩
  have s5 := An (o := .tup [.int (-(W / 2)), .int (-(Y / 2)), .int W, .int Y]) ht5
  have qb5 : BoAt (upd H4 t5 (.tup [.int (-(W / 2)), .int (-(Y / 2)), .int W, .int Y])) t5 ⟨-(W / 2), -(Y / 2), W, Y⟩ := Ai
  have l5 : BU (-(W / 2)) (-(Y / 2)) W Y (2 ^ 40) := by
   unfold BU
   refine ⟨by lia, by lia, by lia, by lia⟩
  refine ⟨_, rfl, Pg (E := E0) (s := st0 + 1) (fu4.same s5) vb qb5 (by show 0 <= W; lia) (by show 0 <= Y; lia) (fun _ _ => l5) (by lia) (by decide) (by lia) fun r5 G5 H5 fr5 fu5 go5 v5 => ?_⟩
  have g5 := go5.few
  have vb5 := vb.app fu4.ok go5
  have X5 : Fx (frA g) H H5 := (X4.trans (AB.fx s5)).trans ((fr5.fx (fu4.same s5).at').mono (by simp [frA]))
  have v5 := v5.vf
  clear vb fu4 X4 s5 qb5 fr5 go5 fr4 hg4 so4
  refine ⟨_, rfl, by decide, by decide, ?_⟩
  refine Dx (lo := 0) (n := (2 : Int).toNat) (fun j σ H3 => ∃ (G3 : Gv) (u8 u9 u10 u11 : Option V), σ = [some (.ref l), some (.ref g.p), some (.int (2 ^ 40)), some (.int W), some (.int Y), some (.int ((st0 + 1 : Nat) : Int)), some (.int (bareN 1 : Int)), some (.int (r5 : Int)), u8, u9, u10, u11] /\ Fx (frA g) H H3 /\ AO a H3 g G3 /\ AG G5 G3 (10000 * j)) ⟨G5, none, none, none, none, rfl, X5, fu5, AG.refl fu5.ok⟩ ?_ ?_
  ·rintro j σ H3 hj ⟨G3, u8, u9, u10, u11, rfl, X3, fu3, go3⟩
   have hj : j < 2 := hj
   have g3 := go3.few
   have hS3 := hS H3 X3
   refine ⟨_, rfl, _, rfl, l, ns, _, rfl, hS3, by show 0 <= 0 + (j : Int); lia, _, rfl, _, _, rfl, rfl, _, _, rfl, rfl, .inr ⟨by show -(2 ^ 64) < 0 + (j : Int) + 1; lia, by show 0 + (j : Int) + 1 < 2 ^ 64; lia⟩, _, rfl, _, _, rfl, rfl, _, rfl, _, _, rfl, rfl, .inl ⟨by decide, by decide⟩, _, rfl, _, _, rfl, rfl, _, _, rfl, rfl, _, _, rfl, rfl, (by show (0 : Int) < 2 * 2 ^ 40 - W + 1; lia), _, rfl, _, _, rfl, rfl, ?_⟩
   have b1 := Ji (atN ns (0 + (j : Int)) * (0 + (j : Int) + 1) + (0 + (j : Int))) w1.1 (Int.le_trans w1.2 (by decide))
   dsimp only
   generalize (atN ns (0 + (j : Int)) * (0 + (j : Int) + 1) + (0 + (j : Int))) % (2 * 2 ^ 40 - W + 1) - 2 ^ 40 = L at b1 ⊢
   refine ⟨_, rfl, _, rfl, _, _, rfl, rfl, l, ns, _, rfl, hS3, by show 0 <= 1 - (0 + (j : Int)); lia, _, rfl, _, _, rfl, rfl, _, _, rfl, rfl, ⟨by show 0 < 0 + (j : Int) + 1; lia, by show 0 + (j : Int) + 1 < 1073741824; lia⟩, _, rfl, _, _, rfl, rfl, .inl ⟨by decide, by decide⟩, _, _, rfl, rfl, _, rfl, _, _, rfl, rfl, .inl ⟨by decide, by decide⟩, _, rfl, _, _, rfl, rfl, _, _, rfl, rfl, _, _, rfl, rfl, (by show (0 : Int) < 2 * 2 ^ 40 - Y + 1; lia), _, rfl, _, _, rfl, rfl, ?_⟩
   have b2 := Ji (atN ns (1 - (0 + (j : Int))) / (0 + (j : Int) + 1) + 3 * (0 + (j : Int))) h1.1 (Int.le_trans h1.2 (by decide))
   dsimp only
   generalize (atN ns (1 - (0 + (j : Int))) / (0 + (j : Int) + 1) + 3 * (0 + (j : Int))) % (2 * 2 ^ 40 - Y + 1) - 2 ^ 40 = U at b2 ⊢
   refine ⟨_, rfl, _, rfl, _, rfl, _, rfl, _, rfl, _, rfl, (by show 4 <= sizeLine; decide), fun t6 ht6 => ?_⟩
   have s6 := An (o := .tup [.int L, .int U, .int W, .int Y]) ht6
   have qb6 : BoAt (upd H3 t6 (.tup [.int L, .int U, .int W, .int Y])) t6 ⟨L, U, W, Y⟩ := Ai
   have l6 : BU L U W Y (2 ^ 40) := by
    unfold BU
    exact ⟨b1.1, b2.1, b1.2, b2.2⟩
   refine ⟨_, rfl, Pg (E := E0) (s := st0 + 1) (fu3.same s6) (vb5.app fu5.ok go3) qb6 (by show 0 <= W; lia) (by show 0 <= Y; lia) (fun _ _ => l6) (by lia) (by decide) (by lia) fun r6 G6 H6 fr6 fu6 go6 v6 => ?_⟩
   have g6 := go6.few
   have X6 : Fx (frA g) H H6 := (X3.trans (AB.fx s6)).trans ((fr6.fx (fu3.same s6).at').mono (by simp [frA]))
   have ti := PH (q := ⟨L, U, W, Y⟩) (s := st0 + 1) (by show 0 < W; lia) (by show 0 < Y; lia) (by lia)
   refine ⟨_, rfl, _, rfl, g, G6, r6, 25, GD ⟨L, U, W, Y⟩ (st0 + 1) (fun _ _ => 0), rfl, fu6, v6.vf, sc_box _ _, by decide, by lia, fun z => ?_, fun B tB r t G7 H7 fx7 fu7 go7 vr ht7 => ?_⟩
   ·obtain ⟨v, hv⟩ := ti.le
    exact absurd (z _ _) hv
   have eB := tB.one ti
   subst eB
   have e7 : r5 = r := Vf.eq (Classical.choose_spec fu7.g0) fu7.ok (v5.app fu5.ok ((go3.trans go6).trans go7)) vr fun u v => by
    unfold mvF GD shX shY
    dsimp only
    by_cases z : InB (-(W / 2)) (-(Y / 2)) W Y u v
    ·rw [if_pos z, if_pos (show InB L U W Y (u - (-(W / 2) - L)) (v - (-(Y / 2) - U)) by unfold InB at *; lia)]
    ·rw [if_neg z, if_neg (show ¬ InB L U W Y (u - (-(W / 2) - L)) (v - (-(Y / 2) - U)) by unfold InB at *; lia)]
   subst e7
   refine ⟨_, rfl, _, rfl, _, rfl, t, _, _, _, rfl, ht7, fun H8 s8 => ⟨true, rfl, BC ?_⟩⟩
   exact ⟨G7, _, _, _, _, rfl, (X6.trans fx7).trans (AB.fx s8), fu7.same s8, ((go3.trans go6).trans go7).mono (by lia)⟩
  ·rintro σ H3 ⟨G3, u8, u9, u10, u11, rfl, X3, fu3, go3⟩
   exact kq _ X3
end
end J
namespace J
open PySem L2
seal L2.PA L2.PE L2.PS L2.PSs L2.PT L2.PW
structure Cn (H : Hp) (C : Addr) (E : Int) : Prop where
 ex : ∃ t1 t2 t3 t4 : Addr, H C = some (.lst [.ref t1, .ref t2, .ref t3, .ref t4]) /\ H t1 = some (.tup [.int (-E), .int (-E)]) /\ H t2 = some (.tup [.int (E - 1), .int (-E)]) /\ H t3 = some (.tup [.int (E - 1), .int (E - 1)]) /\ H t4 = some (.tup [.int (-E), .int (E - 1)])
theorem Cn.fx {H H' : Hp} {C : Addr} {E : Int} {l : List Addr} (h : Cn H C E) (f : Fx l H H') (n : C ∉ l) : Cn H' C E := by
 obtain ⟨t1, t2, t3, t4, h0, h1, h2, h3, h4⟩ := h.ex
 exact ⟨t1, t2, t3, t4, f.get n h0, f.tup h1, f.tup h2, f.tup h3, f.tup h4⟩
theorem Cn.get {H : Hp} {C : Addr} {E : Int} (h : Cn H C E) (e : E = 2 ^ 40) {i : Nat} (hi : i < 4) : ∃ (t : Addr) (x y : Int) (xs : List V), H C = some (.lst xs) /\ xs[i]? = some (.ref t) /\ H t = some (.tup [.int x, .int y]) /\ BU x y 1 1 (2 ^ 40) := by
 obtain ⟨t1, t2, t3, t4, h0, h1, h2, h3, h4⟩ := h.ex
 unfold BU
 match i, hi with
 | 0, _ => exact ⟨t1, _, _, _, h0, rfl, h1, by lia, by lia, by lia, by lia⟩
 | 1, _ => exact ⟨t2, _, _, _, h0, rfl, h2, by lia, by lia, by lia, by lia⟩
 | 2, _ => exact ⟨t3, _, _, _, h0, rfl, h3, by lia, by lia, by lia, by lia⟩
 | 3, _ => exact ⟨t4, _, _, _, h0, rfl, h4, by lia, by lia, by lia, by lia⟩
theorem mv_ok {ds : List Cl} {φ : Int -> Int -> Nat} {n : Nat} (dd : Dd ds n) (dk : GQ ds φ) {B : Bx} (ti : CF (fun u v => φ u v ≠ 0) B) {dx dy : Int} (li : BU (B.l + dx) (B.t + dy) B.w B.h (2 ^ 40)) : ∀ c ∈ ds.map (mvC dx dy), Qx c := fun c hc => by
 obtain ⟨d, hd, rfl⟩ := List.mem_map.mp hc
 obtain ⟨h1, h2⟩ := (dk.mem d).mp hd
 have := ti.inn d.x d.y (by show φ d.x d.y ≠ 0; lia)
 refine ⟨?_, (dd.ok d hd).1.s⟩
 unfold BU mvC at *
 dsimp only at *
 refine ⟨by lia, by lia, by lia, by lia⟩
section
variable {P : Program} {w : World} {K : PySem.W.Frag} {mg : Str -> Option Value} {base : Heap} {a : Ad}
theorem Ot {g : GA} {G : Gv} {H : Hp} {Q : VK} {L : Addr} {ts : List Addr} {cs ds : List Cl} {φ : Int -> Int -> Nat} (fu : AO a H g G) (hL : H L = some (.lst (ts.map V.ref))) (ap : Ap g L) (pr : Paired (MG H) ts cs) (pm : cs.Perm ds) (dk : GQ ds φ) (ok : ∀ c ∈ ds, Qx c) (l : ds.length <= 40) (few : G.length < 6000000) (k : ∀ (r : Nat) (G' : Gv) (H' : Hp), Fx (frA g) H H' -> AO a H' g G' -> AG G G' 16000 -> Vf G' r φ -> Q (.int r) H') : Sx a [.ref g.p, .ref L] H Q := by
 have lc := pm.length_eq
 have ok' : ∀ c ∈ cs, Qx c := fun c hc => ok c (pm.mem_iff.mp hc)
 refine ⟨g, G, L, ts, cs, rfl, fu, hL, ap.1, ap.2.1, pr, ok', by lia, fun f1 n1 G13 H13 fr13 fu13 go13 n140 lf13 fl13 => ?_⟩
 obtain ⟨r13, e13⟩ := fu13.g0
 obtain ⟨tr13, ef13⟩ := Qm e13 fu13.ok fl13 (fun c hc => (ok' c (List.mem_reverse.mp hc)).s)
 exact k f1 G13 H13 ((fr13.fx fu.at').mono (by simp [frA])) fu13 (go13.mono (by lia)) ⟨n1, ⟨lf13, tr13, n140⟩, fun u v => by rw [ef13, stC_ds (dk.perm pm).rev]⟩
theorem QR {g : GA} {G : Gv} {H : Hp} {Q : VK} {f sh : Nat} {φ ψ : Int -> Int -> Nat} {B : Bx} {ps : List (Int × Int)} (fu : AO a H g G) (v : Vf G f φ) (ti : CF (fun u v => φ u v ≠ 0) B) (hp : ∀ u v, φ u v ≠ 0 -> (u, v) ∈ ps) (lp : ps.length <= 40) (few : G.length < 1000000) (vs : Vf G sh ψ) (e : ∀ u v, mvF (shX B) (shY B) φ u v = ψ u v) (k : ∀ (t : Addr) (G' : Gv) (H' : Hp), Fx (frA g) H H' -> AO a H' g G' -> AG G G' 10000 -> H' t = some (.tup [.int (sh : Int), .int B.l, .int B.t]) -> Q (.ref t) H') : ME a [.ref g.p, .int (f : Int)] H Q := by
 refine ⟨g, G, f, 4 * ps.length, φ, rfl, fu, v, MU hp, by lia, by lia, fun z => ?_, fun B' tB r t G7 H7 fx7 fu7 go7 vr ht7 => ?_⟩
 ·obtain ⟨v, hv⟩ := ti.le
  exact absurd (z _ _) hv
 have eB := tB.one ti
 subst eB
 have e7 : r = sh := Vf.eq (Classical.choose_spec fu7.g0) fu7.ok vr (vs.app fu.ok go7) e
 subst e7
 exact k t G7 H7 fx7 fu7 (go7.mono (by lia)) ht7
theorem ok_law {f : Addr} {fd : FuncData} (F : Fun K "law" "law" GV f fd) (T : Top K mg a) (C_Grove : CalC P w K mg base CX0 2 "Grove" a.c_Grove DO (LO a)) (C__law_box_right : Cal P w K mg base CX0 105 "_law_box_right" Cm (spBR K a)) (C__law_at : Cal P w K mg base CX0 1 "_law_at" Eg (QP K)) (C__law_base : Cal P w K mg base CX0 1 "_law_base" Es NV) (C__law_heap : Cal P w K mg base CX0 2 "_law_heap" Er (NU K)) (C_field_of : Cal P w K mg base CX0 56 "field_of" EX (QN a)) (C__law_listed : Cal P w K mg base CX0 5 "_law_listed" Dc QJ) (C__law_right : Cal P w K mg base CX0 1 "_law_right" CV spRi) (C_shape_of : Cal P w K mg base CX0 104 "shape_of" Ef (Jd a)) (M_Grove_solid : CM P w K mg base CX0 4 a.c_Grove "solid" Cd (GR a)) (C__law_box : Cal P w K mg base CX0 1 "_law_box" EY NT) (C__law_moved : Cal P w K mg base CX0 1 "_law_moved" DM QK) : AY P w K mg base CX0 106 f fd p_law (OL K) := by
 refine F.ok DD (fun vs H Q E h => ?_) (fun cdv A outer s H vs Q E hr h => ?_)
 ·obtain ⟨l, ns, rfl, _⟩ := h
  rfl
 ·obtain ⟨l, ns, rfl, hS, hlen, kq⟩ := h
  refine ⟨_, (Ab (Bh (CD (Cs (As C__law_box_right (rm hr) rfl Ar (Aa (pv 0) (Aa (Nd C_Grove (rm hr) rfl Ar) Ae))))) (Aj (Aw Ib)) AD) (Ab (Al (i := 1) DD.nd rfl (Or.inl rfl) (As C__law_base (rm hr) rfl Ar (Aa (As C__law_at (rm hr) rfl Ar (Aa (pv 0) (AH Ae))) Ae))) (Ab (Al (i := 2) DD.nd rfl (Or.inl rfl) (Aq AI (Aq Bl (As C__law_at (rm hr) rfl Ar (Aa (pv 0) (AH Ae))) Ac) (AN (Gy rfl) rfl T.b_max PyProof.Rows.boot_max (AH (Aa (AN (FG rfl) rfl T.b_min PyProof.Rows.boot_min (AH (Bk AV (AN DR rfl T.b_len PySem.boot_len (Aa (pv 0) Ae)) Ac Ae))) Ae))))) (Ab (Al (i := 3) DD.nd rfl (Or.inl rfl) (As C__law_heap (rm hr) rfl Ar (Aa (pv 0) (AH (Aa (pv 2) (Aa (pv 1) (Aa (As C__law_base (rm hr) rfl Ar (Aa (As C__law_at (rm hr) rfl Ar (Aa (pv 0) (AH Ae))) Ae)) Ae))))))) (Ab (Al (i := 4) DD.nd rfl (Or.inl rfl) (Aq LW Ac Ac)) (Ab (Al (i := 5) DD.nd rfl (Or.inl rfl) (EV (BV (Aa (En CG (pv 4)) (Aa (En CG (pv 4)) Ae)) (BV (Bk AV (pv 4) Ac (Aa (En CG (pv 4)) Ae)) (BV (Bk AV (pv 4) Ac (Bk AV (pv 4) Ac Ae)) (BV (Aa (En CG (pv 4)) (Bk AV (pv 4) Ac Ae)) Ae)))))) (Ab (Bh (AL FD (Aq Bl (As C__law_at (rm hr) rfl Ar (Aa (pv 0) (AH Ae))) Ac) Ac (AM _)) (Aj (Dj PassesOwn.never rfl (Ed rfl T.b_range (Aa (Ak AC (EV (AH (AH (AH Ae)))) (Aq Bl (Aq Bw (As C__law_at (rm hr) rfl Ar (Aa (pv 0) (AH Ae))) Ac) Ac) (fun _ _ => rfl)) Ae)) (BG (i := 6) DD.nd rfl (Or.inl rfl)) (Aj (FP (FW hr) (pv 3) (Ak AC (pv 5) (Aq Bl (Aq AI (pv 6) (Aq Bw (As C__law_at (rm hr) rfl Ar (Aa (pv 0) (AH Ae))) Ac)) Ac) (fun _ _ => rfl)) (Aq AI Ac (Aq Bl (Aq Bw (As C__law_at (rm hr) rfl Ar (Aa (pv 0) (AH Ae))) Ac) Ac)) rfl)))) AD) (Ab (Al (i := 7) DD.nd rfl (Or.inl rfl) (Nd C_Grove (rm hr) rfl Ar)) (Ab (Al (i := 8) DD.nd rfl (Or.inl rfl) (As C_field_of (rm hr) rfl Ar (Aa (pv 7) (Aa (As C__law_listed (rm hr) rfl Ar (Aa (pv 3) Ae)) Ae)))) (Ab (Bh (AL FD (AN Qt rfl T.b_len PySem.boot_len (Aa (pv 3) Ae)) Ac (AM _)) (Aj (Aw (GK (As C__law_right (rm hr) rfl Ar (Aa (As C_shape_of (rm hr) rfl Ar (Aa (pv 7) (Aa (pv 8) Ae))) (Aa (pv 8) (AH (AH Ae))))) (JC (Fh FD (pv 8) (AU (pv 7) M_Grove_solid (rm hr) Ar (AH (AH Ae))) (AM _)))))) AD) (Ab (Al (i := 9) DD.nd rfl (Or.inl rfl) (As C__law_box (rm hr) rfl Ar (Aa (pv 3) Ae))) (Ab (Al (i := 10) DD.nd rfl (Or.inl rfl) (As C_field_of (rm hr) rfl Ar (Aa (pv 7) (Aa (As C__law_listed (rm hr) rfl Ar (Aa (As C__law_moved (rm hr) rfl Ar (Aa (pv 3) (Bk AV (En CG (Aq Bw (Ak Am (pv 9) Ac (fun _ _ => rfl)) Ac)) (Ak Am (pv 9) Ac (fun _ _ => rfl)) (Bk AV (En CG (Aq Bw (Ak Am (pv 9) Ac (fun _ _ => rfl)) Ac)) (Ak Am (pv 9) Ac (fun _ _ => rfl)) Ae)))) Ae)) Ae)))) (Ab (Bh (CD (Cs (As C__law_right (rm hr) rfl Ar (Aa (As C_shape_of (rm hr) rfl Ar (Aa (pv 7) (Aa (pv 8) Ae))) (Aa (pv 10) (Aa (Ak Am (pv 9) Ac (fun _ _ => rfl)) (Aa (Ak Am (pv 9) Ac (fun _ _ => rfl)) Ae))))))) (Aj (Aw Ib)) AD) (Ab (Al (i := 1) DD.nd rfl (Or.inl rfl) (Aq AV (Aq Bl (As C__law_at (rm hr) rfl Ar (Aa (pv 0) (AH Ae))) (Aq AI (Aq AV (Aq Ez Ac (pv 4)) (Ak Am (pv 9) Ac (fun _ _ => rfl))) Ac)) (pv 4))) (Ab (Al (i := 11) DD.nd rfl (Or.inl rfl) (Aq AV (Aq Bl (As C__law_at (rm hr) rfl Ar (Aa (pv 0) (AH Ae))) (Aq AI (Aq AV (Aq Ez Ac (pv 4)) (Ak Am (pv 9) Ac (fun _ _ => rfl))) Ac)) (pv 4))) (Ab (Al (i := 12) DD.nd rfl (Or.inl rfl) (As C_field_of (rm hr) rfl Ar (Aa (pv 7) (Aa (As C__law_listed (rm hr) rfl Ar (Aa (As C__law_moved (rm hr) rfl Ar (Aa (pv 3) (Bk AV (pv 1) (Ak Am (pv 9) Ac (fun _ _ => rfl)) (Bk AV (pv 11) (Ak Am (pv 9) Ac (fun _ _ => rfl)) Ae)))) Ae)) Ae)))) (Ab (Bh (CD (Cs (As C__law_right (rm hr) rfl Ar (Aa (As C_shape_of (rm hr) rfl Ar (Aa (pv 7) (Aa (pv 12) Ae))) (Aa (pv 10) (Aa (pv 1) (Aa (pv 11) Ae))))))) (Aj (Aw Ib)) AD) (Aj (Aw (As C__law_right (rm hr) rfl Ar (Aa (As C_shape_of (rm hr) rfl Ar (Aa (pv 7) (Aa (pv 8) Ae))) (Aa (pv 10) (Aa (Ak Am (pv 9) Ac (fun _ _ => rfl)) (Aa (Ak Am (pv 9) Ac (fun _ _ => rfl)) Ae)))))))))))))))))))))))), ?_⟩
  try dsimp only [cxK]
  refine ⟨_, rfl, fun x dx' nx ndx nex => ⟨x, dx', rfl, Ai, fun g H1 gp N => ⟨rfl, ?_⟩⟩⟩
  have s1 : AB H H1 := fun b o e => N.kp b o (by rw [Av (At e nx), Av (At e ndx)]; exact e) (gp ▸ At e nx)
  subst gp
  have fu := AO.new N
  have ng := N.none
  clear N
  have ng5 : ∀ y ∈ frA g, H y = none := fun y hy => ng y (by simp [Cu, frA] at *; lia)
  refine ⟨g, G0, l, ns, rfl, fu, fun H' x => (AB.fxn s1 x ng5).seq hS, by rw [Mw]; decide, fun H2 x2 => ⟨true, rfl, BC ?_⟩⟩
  have s2 := AB.fxn s1 x2 ng5
  have hS2 := s2.seq hS
  clear fu ng ng5 x2 s1 nx ndx nex
  refine ⟨_, rfl, l, ns, 0, rfl, hS2, by decide, _, rfl, fun lx x1 x2 => ?_⟩
  obtain ⟨m, hm, m17⟩ : ∃ m : Nat, atN ns 3 % 4 + (if (if (((ns.map V.int).length : Nat) : Int) - 6 < 14 then (((ns.map V.int).length : Nat) : Int) - 6 else 14) > 0 then (if (((ns.map V.int).length : Nat) : Int) - 6 < 14 then (((ns.map V.int).length : Nat) : Int) - 6 else 14) else 0) = (m : Int) /\ m <= 17 := by
   generalize (((ns.map V.int).length : Nat) : Int) - 6 = z
   generalize atN ns 3 = y
   refine ⟨(y % 4 + (if (if z < 14 then z else 14) > 0 then (if z < 14 then z else 14) else 0)).toNat, ?_, ?_⟩ <;> split <;> split <;> lia
  refine ⟨_, rfl, l, ns, 3, rfl, hS2, by decide, _, _, rfl, rfl, (by show (0 : Int) < 4; decide), _, rfl, l, _, rfl, .inl hS2, _, _, rfl, rfl, _, _, rfl, _, _, rfl, _, _, rfl, rfl, ?_⟩
  dsimp only
  rw [hm]
  refine ⟨_, rfl, _, rfl, _, rfl, _, rfl, l, ns, 1, rfl, hS2, by decide, _, rfl, fun ly y1 y2 => ?_⟩
  refine ⟨l, ns, 6, lx, ly, m, rfl, hS2, by decide, by lia, x1, x2, y1, y2, fun D ds H3 s3 nD hD dd => ?_⟩
  have s03 := s2.trans s3
  have nD0 : H D = none := AB.noneOf s2 nD
  have hS3 := s03.seq hS
  clear s2 hS2 s3 hm x1 x2 y1 y2
  refine ⟨_, _, rfl, rfl, Pn (by decide) (by decide), ?_⟩
  obtain ⟨E', hE⟩ : ∃ E' : Int, E' = 2 ^ 40 := ⟨_, rfl⟩
  rw [show (fun (i j : Int) => V.int (i ^ j.toNat)) 2 40 = V.int E' from congrArg V.int hE.symm]
  refine ⟨_, rfl, _, rfl, _, rfl, _, rfl, (by show 2 <= sizeLine; decide), fun t1 ht1 => ?_⟩
  have u1 := An (o := .tup [.int (-E'), .int (-E')]) ht1
  refine ⟨_, rfl, _, _, rfl, rfl, _, rfl, _, rfl, (by show 2 <= sizeLine; decide), fun t2 ht2 => ?_⟩
  have u2 := An (o := .tup [.int (E' - 1), .int (-E')]) ht2
  refine ⟨_, rfl, _, _, rfl, rfl, _, rfl, _, _, rfl, rfl, (by show 2 <= sizeLine; decide), fun t3 ht3 => ?_⟩
  have u3 := An (o := .tup [.int (E' - 1), .int (E' - 1)]) ht3
  refine ⟨_, rfl, _, rfl, _, rfl, _, _, rfl, rfl, (by show 2 <= sizeLine; decide), fun t4 ht4 => ?_⟩
  have u4 := An (o := .tup [.int (-E'), .int (E' - 1)]) ht4
  refine ⟨(by show 4 <= sizeLine; decide), fun C hC => ?_⟩
  have u5 := An (o := .lst [.ref t1, .ref t2, .ref t3, .ref t4]) hC
  apply meetH (fun σ H' => ∃ (ds : List Cl) (C : Addr) (u6 : Option V), σ = [some (.ref l), some (.int lx), some (.int (m : Int)), some (.ref D), some (.int E'), some (.ref C), u6, none, none, none, none, none, none] /\ AB H H' /\ H' D = some (.dT (kvC ds)) /\ Dd ds 21)
  ·intro rest
   have sC : AB H3 _ := (((u1.trans u2).trans u3).trans u4).trans u5
   have cn : Cn _ C E' := ⟨t1, t2, t3, t4, Ai, u5 _ _ (u4 _ _ (u3 _ _ (u2 _ _ Ai))), u5 _ _ (u4 _ _ (u3 _ _ Ai)), u5 _ _ (u4 _ _ Ai), u5 _ _ Ai⟩
   have hDC := sC _ _ hD
   have sHC := s03.trans sC
   have hSC := sHC.seq hS
   refine ⟨_, rfl, l, ns, 2, rfl, hSC, by decide, _, _, rfl, rfl, (by show (0 : Int) < 4; decide), rfl, _, rfl, ?_⟩
   refine (fun (h1 : _) h2 => Ms h2 h1) (fun _ => ?_) (fun _ => ?_)
   ·exact rest _ _ ⟨ds, C, none, rfl, sHC, hDC, dd.mono (by lia)⟩
   refine ⟨(by show 3 <= sizeLine; decide), fun p hp => ?_⟩
   have u6 := An (o := .lst [.int 1, .int 2, .int 4]) hp
   have nCD : C ≠ D := fun z => by
    rw [z] at hC
    have := u4 _ _ (u3 _ _ (u2 _ _ (u1 _ _ hD)))
    rw [hC] at this
    cases this
   have cn6 : Cn _ C E' := cn.fx (AB.fx (l := []) u6) (by simp)
   have hD6 := u6 _ _ hDC
   have sH6 := sHC.trans u6
   obtain ⟨i3, e3, l3⟩ := idx (n := 3) (by decide) (atN ns 2 / 4)
   obtain ⟨n, n4, hn⟩ : ∃ n : Nat, n <= 4 /\ [V.int 1, V.int 2, V.int 4][i3]? = some (V.int (n : Int)) := by
    match i3, l3 with
    | 0, _ => exact ⟨1, by decide, rfl⟩
    | 1, _ => exact ⟨2, by decide, rfl⟩
    | 2, _ => exact ⟨4, by decide, rfl⟩
   refine ⟨_, rfl, l, ns, 2, rfl, sH6.seq hS, by decide, _, _, rfl, rfl, ⟨by decide, by decide⟩, _, _, rfl, rfl, (by show (0 : Int) < 3; decide), p, _, (i3 : Int), .int (n : Int), rfl, congrArg V.int e3, SqL.of Ai, Af hn, _, rfl, by lia, by lia, ?_⟩
   rw [Int.toNat_natCast]
   refine Dx (n := n) (fun j σ H7 => ∃ (ds : List Cl) (u6 : Option V), σ = [some (.ref l), some (.int lx), some (.int (m : Int)), some (.ref D), some (.int E'), some (.ref C), u6, none, none, none, none, none, none] /\ AB H H7 /\ H7 D = some (.dT (kvC ds)) /\ Dd ds (17 + j) /\ Cn H7 C E') ⟨ds, none, rfl, sH6, hD6, dd.mono (by lia), cn6⟩ ?_ ?_
   ·rintro j σ H7 hj ⟨ds', u6', rfl, sH7, hD7, dd7, cn7⟩
    have hS7 := sH7.seq hS
    obtain ⟨st, est, lst⟩ := idx (n := 7) (by decide) (atN ns 3 / 4)
    have est : atN ns 3 / 4 % 7 = (st : Int) := est
    obtain ⟨i4, e4, l4⟩ := idx (n := 4) (by decide) (0 + (j : Int) + atN ns 2 / 12)
    obtain ⟨t, x, y, xs, hxs, hx, ht, lt⟩ := cn7.get hE l4
    have dl := dd7.len
    refine ⟨_, rfl, l, ns, 3, rfl, hS7, by decide, _, _, rfl, rfl, ⟨by decide, by decide⟩, _, _, rfl, rfl, (by show (0 : Int) < 7; decide), _, _, rfl, rfl, _, rfl, ?_⟩
    rw [show (fun (i j : Int) => V.int (i + j)) 1 (atN ns 3 / 4 % 7) = V.int ((st + 1 : Nat) : Int) from congrArg V.int (by show 1 + atN ns 3 / 4 % 7 = _; lia)]
    refine ⟨_, rfl, _, rfl, _, rfl, l, ns, 2, rfl, hS7, by decide, _, _, rfl, rfl, ⟨by decide, by decide⟩, _, _, rfl, rfl, _, _, rfl, rfl, (by show (0 : Int) < 4; decide), C, _, (i4 : Int), .ref t, rfl, congrArg V.int e4, SqL.of hxs, Af hx, D, _, rfl, dput (c := ⟨x, y, st + 1⟩) hD7 ht (by lia), ?_⟩
    refine ⟨GX ds' ⟨x, y, st + 1⟩, _, rfl, fun b o e => ?_, Ai, dd7.put ⟨lt, by show st + 1 < 8; lia⟩ (by show 1 <= st + 1; lia), cn7.fx (Pf hD7 (fun z => z)) (by simp [nCD])⟩
    rw [Av (At e nD0)]
    exact sH7 _ _ e
   ·rintro σ H7 ⟨ds', u6', rfl, sH7, hD7, dd7, cn7⟩
    exact rest _ _ ⟨ds', C, u6', rfl, sH7, hD7, dd7.mono (by lia)⟩
  clear u1 u2 u3 u4 u5 ht1 ht2 ht3 ht4 hC hD dd s03 hS3
  rintro σ H4 ⟨ds, C, u6, rfl, s4, hD4, dd⟩
  have dl := dd.len
  have dk := dd.dk
  generalize stC ds = φ at dk
  intro x dx' nx ndx nex
  refine ⟨x, dx', rfl, Ai, fun g H5 gp N => ⟨rfl, ?_⟩⟩
  have s45 : AB H4 H5 := fun b o e => N.kp b o (by rw [Av (At e nx), Av (At e ndx)]; exact e) (gp ▸ At e nx)
  subst gp
  have fu5 := AO.new N
  have ng := N.none
  clear N
  have nDg : D ∉ Cu g := fun z => by
   have := ng D z
   rw [hD4] at this
   cases this
  have nDf : D ∉ frA g := fun z => nDg (by simp [frA, Cu] at *; lia)
  have ng5 : ∀ y ∈ D :: frA g, H y = none := fun y hy => by
   rcases List.mem_cons.mp hy with rfl | hy
   ·exact nD0
   ·exact AB.noneOf s4 (ng y (by simp [Cu, frA] at *; lia))
  have s5 := s4.trans s45
  have hD5 := s45 _ _ hD4
  clear s4 s45 hD4 nx ndx nex ng nD
  have far : ∀ {H1 H2 : Hp} {G : Gv}, AO a H1 g G -> Fx [D] H1 H2 -> AO a H2 g G := fun {H1 H2 G} fu x => fu.fx x fun y hy z => nDg (by rw [List.mem_singleton] at z; rw [<- z]; exact hy)
  have one : ∀ {H1 H2 : Hp}, Fx [D] H1 H2 -> Fx (D :: frA g) H1 H2 := fun {H1 H2} x => x.mono (by simp)
  have two : ∀ {H1 H2 : Hp}, Fx (frA g) H1 H2 -> Fx (D :: frA g) H1 H2 := fun {H1 H2} x => x.mono (fun y hy => List.mem_cons_of_mem _ hy)
  refine ⟨_, rfl, _, rfl, D, ds, rfl, .inl hD5, dd.nd, by lia, fun o L ts cs H6 fr6 hD6 nL hL pr pm => ?_⟩
  have y6 := J.FrO.fx (.inl hD5) fr6
  have fu6 := far fu5 y6
  have g0l : G0.length < 1000 := by rw [Mw]; decide
  refine Ot fu6 hL (Ap.new fu5.at' nL) pr pm dk (fun c hc => (dd.ok c hc).1) (by lia) (by lia) fun r7 G7 H7 x7 fu7 go7 v7 => ?_
  have g7 := go7.few
  have X7 : Fx (D :: frA g) H5 H7 := (one y6).trans (two x7)
  have hD7 := x7.get nDf hD6
  clear fu5 fu6 y6 fr6 hD6 nL hL pr pm x7
  have ldk : (kvC ds).length = ds.length := List.length_map _
  have few : ∀ u v, φ u v ≠ 0 -> (u, v) ∈ ds.map fun c => (c.x, c.y) := fun u v y => List.mem_map.mpr ⟨⟨u, v, φ u v⟩, (dk.mem _).mpr ⟨by show 1 <= φ u v; lia, rfl⟩, rfl⟩
  have lps : (ds.map fun c => (c.x, c.y)).length <= 40 := by rw [List.length_map]; lia
  refine ⟨_, rfl, D, kvC ds, rfl, .inr ⟨o, hD7⟩, rfl, _, rfl, ?_⟩
  rw [ldk, Ru]
  by_cases z0 : ds.length = 0
  ·rw [decide_eq_true z0]
   refine Da ?_
   have zf : ∀ u v, φ u v = 0 := fun u v => Classical.byContradiction fun y => by
    have m : (⟨u, v, φ u v⟩ : Cl) ∈ ds := (dk.mem _).mpr ⟨by show 1 <= φ u v; lia, rfl⟩
    rw [List.length_eq_zero_iff.mp z0] at m
    cases m
   refine ⟨_, rfl, _, rfl, g, G7, r7, 4 * ([] : List (Int × Int)).length, φ, rfl, fu7, v7, MU (ps := []) (fun u v y => absurd (zf u v) y), by decide, by lia, fun _ t H8 fx8 fu8 ht => ?_, fun B tB => ?_⟩
   ·refine ⟨_, rfl, t, _, _, _, rfl, ht, fun H9 s9 => ⟨true, rfl, Da ?_⟩⟩
    have fu9 := fu8.same s9
    refine ⟨_, rfl, _, rfl, g.p, g.dx, _, rfl, fu9.at'.hp, JJ g, g, G7, 1, 0, rfl, fu9.at', fu9.ok, by decide, by decide, by lia, fun i G10 H10 fr10 hg10 go10 so10 => ?_⟩
    have fu10 := fu9.fr fr10 hg10 go10
    obtain ⟨q10, e10⟩ := fu10.g0
    have ei : i = bareN 1 := Sol.uniq fu10.ok so10 (GP e10 (by decide))
    subst ei
    have er : r7 = bareN 1 := Vf.eq e10 fu10.ok (v7.app fu7.ok go10) (OD e10 fu10.ok).vf zf
    subst er
    refine ⟨rfl, ?_⟩
    rw [decide_eq_true rfl]
    exact kq _
   ·obtain ⟨v, hv⟩ := tB.le
    exact absurd (zf _ _) hv
  rw [decide_eq_false z0]
  refine BC ?_
  refine ⟨_, rfl, D, ds, φ, rfl, .inr ⟨o, hD7⟩, dk, by lia, z0, fun o8 B tb H8 fr8 hD8 htb ti => ?_⟩
  have y8 := J.FrO.fx (.inr ⟨o, hD7⟩) fr8
  have fu8 := far fu7 y8
  have X8 := X7.trans (one y8)
  clear X7 y8 fr8 hD7
  have far8 : -(2 ^ 40) <= B.l /\ B.l + B.w <= 2 ^ 40 /\ 1 <= B.w /\ -(2 ^ 40) <= B.t /\ B.t + B.h <= 2 ^ 40 /\ 1 <= B.h := by
   have inn : ∀ {u v : Int}, φ u v ≠ 0 -> -(2 ^ 40) <= u /\ u < 2 ^ 40 /\ -(2 ^ 40) <= v /\ v < 2 ^ 40 := fun {u v} y => by
    have m : (⟨u, v, φ u v⟩ : Cl) ∈ ds := (dk.mem _).mpr ⟨by show 1 <= φ u v; lia, rfl⟩
    have := (dd.ok _ m).1.li
    unfold BU at this
    dsimp only at this
    lia
   obtain ⟨v1, h1⟩ := ti.le
   obtain ⟨v2, h2⟩ := ti.ri
   obtain ⟨v3, h3⟩ := ti.to
   obtain ⟨v4, h4⟩ := ti.bo
   have b1 := inn h1
   have b2 := inn h2
   have b3 := inn h3
   have b4 := inn h4
   have w1 := ti.inn _ _ h1
   have w3 := ti.inn _ _ h3
   refine ⟨by lia, by lia, by lia, by lia, by lia, by lia⟩
  obtain ⟨f1, f2, f3, f4, f5, f6⟩ := far8
  refine ⟨_, rfl, _, rfl, _, rfl, tb, _, 2, .int B.w, rfl, rfl, SqT.of htb, Af (j := 2) rfl, _, _, rfl, rfl, ⟨by decide, by decide⟩, _, rfl, _, rfl, tb, _, 0, .int B.l, rfl, rfl, SqT.of htb, Af (j := 0) rfl, _, _, rfl, rfl, ?_⟩
  refine ⟨_, rfl, tb, _, 3, .int B.h, rfl, rfl, SqT.of htb, Af (j := 3) rfl, _, _, rfl, rfl, ⟨by decide, by decide⟩, _, rfl, _, rfl, tb, _, 1, .int B.t, rfl, rfl, SqT.of htb, Af (j := 1) rfl, _, _, rfl, rfl, ?_⟩
  refine ⟨D, ds, shX B, shY B, rfl, .inr ⟨o8, hD8⟩, dd.nd, by lia, fun o9 M H9 fr9 hD9 nM hM => ?_⟩
  have y9 := J.FrO.fx (.inr ⟨o8, hD8⟩) fr9
  have fu9 := far fu8 y9
  have nMg : M ∉ Cu g := fun z => by
   obtain ⟨o, e⟩ := fu8.nw.s M z
   rw [nM] at e
   cases e
  have nMD : M ≠ D := fun z => by rw [z, hD8] at nM; cases nM
  have dk9 := dk.mv (shX B) (shY B)
  refine ⟨M, ds.map (mvC (shX B) (shY B)), rfl, .inl hM, dk9.nd, by rw [List.length_map]; lia, fun o10 L2 ts2 cs2 H10 fr10 hM10 nL2 hL2 pr2 pm2 => ?_⟩
  have y10 := J.FrO.fx (.inl hM) fr10
  have fu10 := fu9.fx y10 fun y hy z => nMg (by rw [List.mem_singleton] at z; rw [<- z]; exact hy)
  have li9 : BU (B.l + shX B) (B.t + shY B) B.w B.h (2 ^ 40) := by
   unfold BU shX shY
   refine ⟨by lia, by lia, by lia, by lia⟩
  refine Ot fu10 hL2 (Ap.new fu9.at' nL2) pr2 pm2 dk9 (mv_ok dd dk ti li9) (by rw [List.length_map]; lia) (by lia) fun r11 G11 H11 x11 fu11 go11 v11 => ?_
  have g11 := go11.few
  have hD11 := x11.get nDf (y10.get (by simp [Ne.symm nMD]) hD9)
  have tb11 := x11.tup (y10.tup (y9.tup htb))
  have s8 : AB H H8 := AB.fxn s5 X8 ng5
  have ngf : ∀ y ∈ frA g, H y = none := fun y hy => ng5 y (List.mem_cons_of_mem _ hy)
  have s10 : AB H H10 := fun b u e => fr10 _ _ (fr9 _ _ (s8 _ _ e) (At e nD0)) (At (s8 _ _ e) nM)
  have s11 := AB.fxn s10 x11 ngf
  have v7' := v7.app fu7.ok go11
  clear fu8 fu9 fu10 y9 y10 fr9 fr10 hM hM10 nL2 hL2 pr2 pm2 s8 s10 x11 htb hD8 X8 v7
  refine ⟨_, rfl, _, rfl, QR fu11 v7' ti few lps (by lia) v11 (fun u v => rfl) fun t12 G12 H12 x12 fu12 go12 ht12 => ?_⟩
  have g12 := go12.few
  have tb12 := x12.tup tb11
  refine ⟨_, rfl, _, rfl, tb, _, 0, .int B.l, rfl, rfl, SqT.of tb12, Af (j := 0) rfl, _, rfl, tb, _, 1, .int B.t, rfl, rfl, SqT.of tb12, Af (j := 1) rfl, t12, _, _, _, rfl, ht12, fun H13 s13 => ⟨true, rfl, BC ?_⟩⟩
  have fu13 := fu12.same s13
  have tb13 := s13 _ _ tb12
  have hD13 := s13 _ _ (x12.get nDf hD11)
  have sH13 := (AB.fxn s11 x12 ngf).trans s13
  have hS13 := sH13.seq hS
  have v7'' := v7'.app fu11.ok go12
  have v12 := v11.app fu11.ok go12
  clear fu12 tb12 tb11 hD11 s11 x12 ht12 s13
  refine ⟨_, rfl, l, ns, 4, rfl, hS13, by decide, _, rfl, _, _, rfl, rfl, .inl ⟨by decide, by decide⟩, _, rfl, tb, _, 2, .int B.w, rfl, rfl, SqT.of tb13, Af (j := 2) rfl, _, _, rfl, rfl, _, _, rfl, rfl, _, _, rfl, rfl, (by show (0 : Int) < 2 * E' - B.w + 1; lia), _, rfl, _, _, rfl, rfl, ?_⟩
  have b1 := Ji (atN ns 4) f3 (by lia)
  rw [<- hE] at b1
  dsimp only
  generalize atN ns 4 % (2 * E' - B.w + 1) - E' = U at b1 ⊢
  refine ⟨_, rfl, l, ns, 5, rfl, hS13, by decide, _, rfl, _, _, rfl, rfl, .inl ⟨by decide, by decide⟩, _, rfl, tb, _, 3, .int B.h, rfl, rfl, SqT.of tb13, Af (j := 3) rfl, _, _, rfl, rfl, _, _, rfl, rfl, _, _, rfl, rfl, (by show (0 : Int) < 2 * E' - B.h + 1; lia), _, rfl, _, _, rfl, rfl, ?_⟩
  have b2 := Ji (atN ns 5) f6 (by lia)
  rw [<- hE] at b2
  dsimp only
  generalize atN ns 5 % (2 * E' - B.h + 1) - E' = Y at b2 ⊢
  refine ⟨_, rfl, _, rfl, _, rfl, _, rfl, tb, _, 0, .int B.l, rfl, rfl, SqT.of tb13, Af (j := 0) rfl, _, _, rfl, rfl, _, rfl, _, rfl, tb, _, 1, .int B.t, rfl, rfl, SqT.of tb13, Af (j := 1) rfl, _, _, rfl, rfl, ?_⟩
  refine ⟨D, ds, U - B.l, Y - B.t, rfl, .inr ⟨o9, hD13⟩, dd.nd, by lia, fun o14 M2 H14 fr14 hD14 nM2 hM2 => ?_⟩
  have y14 := J.FrO.fx (.inr ⟨o9, hD13⟩) fr14
  have fu14 := far fu13 y14
  have nM2g : M2 ∉ Cu g := fun z => by
   obtain ⟨o, e⟩ := fu13.nw.s M2 z
   rw [nM2] at e
   cases e
  have dk14 := dk.mv (U - B.l) (Y - B.t)
  refine ⟨M2, ds.map (mvC (U - B.l) (Y - B.t)), rfl, .inl hM2, dk14.nd, by rw [List.length_map]; lia, fun o15 L3 ts3 cs3 H15 fr15 hM15 nL3 hL3 pr3 pm3 => ?_⟩
  have y15 := J.FrO.fx (.inl hM2) fr15
  have fu15 := fu14.fx y15 fun y hy z => nM2g (by rw [List.mem_singleton] at z; rw [<- z]; exact hy)
  have li14 : BU (B.l + (U - B.l)) (B.t + (Y - B.t)) B.w B.h (2 ^ 40) := by
   unfold BU
   rw [<- hE]
   refine ⟨by lia, by lia, by lia, by lia⟩
  refine Ot fu15 hL3 (Ap.new fu14.at' nL3) pr3 pm3 dk14 (mv_ok dd dk ti li14) (by rw [List.length_map]; lia) (by lia) fun r16 G16 H16 x16 fu16 go16 v16 => ?_
  have g16 := go16.few
  have tb16 := x16.tup (y15.tup (y14.tup tb13))
  have v17 := v12.app fu13.ok go16
  have v18 := v7''.app fu13.ok go16
  refine ⟨_, rfl, _, rfl, QR fu16 v16 (ti.mv (U - B.l) (Y - B.t)) (few_mv _ _ few) (by rw [List.length_map]; exact lps) (by lia) v17 (fun u v => ?_) fun t17 G17 H17 x17 fu17 go17 ht17 => ?_⟩
  ·unfold mvF shX shY mvX
   dsimp only
   congr 1 <;> lia
  have g17 := go17.few
  have eU : (mvX (U - B.l) (Y - B.t) B).l = U := by show B.l + (U - B.l) = U; lia
  have eY : (mvX (U - B.l) (Y - B.t) B).t = Y := by show B.t + (Y - B.t) = Y; lia
  rw [eU, eY] at ht17
  refine ⟨_, rfl, _, rfl, _, rfl, t17, _, _, _, rfl, ht17, fun H18 s18 => ⟨true, rfl, BC ?_⟩⟩
  have fu18 := fu17.same s18
  have tb18 := s18 _ _ (x17.tup tb16)
  refine ⟨_, rfl, _, rfl, QR fu18 (v18.app fu16.ok go17) ti few lps (by lia) (v17.app fu16.ok go17) (fun u v => rfl) fun t19 G19 H19 x19 fu19 go19 ht19 => ?_⟩
  have tb19 := x19.tup tb18
  exact ⟨_, rfl, _, rfl, tb, _, 0, .int B.l, rfl, rfl, SqT.of tb19, Af (j := 0) rfl, _, rfl, tb, _, 1, .int B.t, rfl, rfl, SqT.of tb19, Af (j := 1) rfl, t19, _, _, _, rfl, ht19, fun H20 s20 => kq _⟩
end
end J
namespace J
open PySem L2
theorem ar1 {α : Type} : ∀ us : List α, us.length = 1 -> ∃ a0, us = [a0]
 | [a0], _ => ⟨a0, rfl⟩
theorem ar2 {α : Type} : ∀ us : List α, us.length = 2 -> ∃ a0 a1, us = [a0, a1]
 | [a0, a1], _ => ⟨a0, a1, rfl⟩
theorem ar3 {α : Type} : ∀ us : List α, us.length = 3 -> ∃ a0 a1 a2, us = [a0, a1, a2]
 | [a0, a1, a2], _ => ⟨a0, a1, a2, rfl⟩
theorem ar4 {α : Type} : ∀ us : List α, us.length = 4 -> ∃ a0 a1 a2 a3, us = [a0, a1, a2, a3]
 | [a0, a1, a2, a3], _ => ⟨a0, a1, a2, a3, rfl⟩
theorem ar5 {α : Type} : ∀ us : List α, us.length = 5 -> ∃ a0 a1 a2 a3 a4, us = [a0, a1, a2, a3, a4]
 | [a0, a1, a2, a3, a4], _ => ⟨a0, a1, a2, a3, a4, rfl⟩
theorem fin {l : PySem.W.OpenLaw} {w : World} {K : PySem.W.Frag} {h : Heap} {mg : Str -> Option Value} {fa : Addr} (X : K.In h) (G : h.Ns mainGlobals mg) (hfa : mg "law" = some (.ref fa))
  {c_Grove : Addr} {f0 : Addr} {od0 an0 : Option Addr} {sl0 : Array (Option Value)} {oc0 kV0 dc0 pm0 cd0 ct0 : Value} {f1 : Addr} {od1 an1 : Option Addr} {sl1 : Array (Option Value)} {oc1 kV1 dc1 pm1 cd1 ct1 : Value} {f2 : Addr} {od2 an2 : Option Addr} {sl2 : Array (Option Value)} {oc2 kV2 dc2 pm2 cd2 ct2 : Value} {f3 : Addr} {od3 an3 : Option Addr} {sl3 : Array (Option Value)} {oc3 kV3 dc3 pm3 cd3 ct3 : Value} {f4 : Addr} {od4 an4 : Option Addr} {sl4 : Array (Option Value)} {oc4 kV4 dc4 pm4 cd4 ct4 : Value} {f5 : Addr} {od5 an5 : Option Addr} {sl5 : Array (Option Value)} {oc5 kV5 dc5 pm5 cd5 ct5 : Value} {f6 : Addr} {od6 an6 : Option Addr} {sl6 : Array (Option Value)} {oc6 kV6 dc6 pm6 cd6 ct6 : Value} {f7 : Addr} {od7 an7 : Option Addr} {sl7 : Array (Option Value)} {oc7 kV7 dc7 pm7 cd7 ct7 : Value} {f8 : Addr} {od8 an8 : Option Addr} {sl8 : Array (Option Value)} {oc8 kV8 dc8 pm8 cd8 ct8 : Value} {f9 : Addr} {od9 an9 : Option Addr} {sl9 : Array (Option Value)} {oc9 kV9 dc9 pm9 cd9 ct9 : Value} {f10 : Addr} {od10 an10 : Option Addr} {sl10 : Array (Option Value)} {oc10 kV10 dc10 pm10 cd10 ct10 : Value} {f11 : Addr} {od11 an11 : Option Addr} {sl11 : Array (Option Value)} {oc11 kV11 dc11 pm11 cd11 ct11 : Value} {f12 : Addr} {od12 an12 : Option Addr} {sl12 : Array (Option Value)} {oc12 kV12 dc12 pm12 cd12 ct12 : Value} {f13 : Addr} {od13 an13 : Option Addr} {sl13 : Array (Option Value)} {oc13 kV13 dc13 pm13 cd13 ct13 : Value} {f14 : Addr} {od14 an14 : Option Addr} {sl14 : Array (Option Value)} {oc14 kV14 dc14 pm14 cd14 ct14 : Value} {f15 : Addr} {od15 an15 : Option Addr} {sl15 : Array (Option Value)} {oc15 kV15 dc15 pm15 cd15 ct15 : Value} {f16 : Addr} {od16 an16 : Option Addr} {sl16 : Array (Option Value)} {oc16 kV16 dc16 pm16 cd16 ct16 : Value} {f17 : Addr} {od17 an17 : Option Addr} {sl17 : Array (Option Value)} {oc17 kV17 dc17 pm17 cd17 ct17 : Value} {f18 : Addr} {od18 an18 : Option Addr} {sl18 : Array (Option Value)} {oc18 kV18 dc18 pm18 cd18 ct18 : Value} {f19 : Addr} {od19 an19 : Option Addr} {sl19 : Array (Option Value)} {oc19 kV19 dc19 pm19 cd19 ct19 : Value} {f20 : Addr} {od20 an20 : Option Addr} {sl20 : Array (Option Value)} {oc20 kV20 dc20 pm20 cd20 ct20 : Value} {f21 : Addr} {od21 an21 : Option Addr} {sl21 : Array (Option Value)} {oc21 kV21 dc21 pm21 cd21 ct21 : Value} {f22 : Addr} {od22 an22 : Option Addr} {sl22 : Array (Option Value)} {oc22 kV22 dc22 pm22 cd22 ct22 : Value} {f23 : Addr} {od23 an23 : Option Addr} {sl23 : Array (Option Value)} {oc23 kV23 dc23 pm23 cd23 ct23 : Value} {f24 : Addr} {od24 an24 : Option Addr} {sl24 : Array (Option Value)} {oc24 kV24 dc24 pm24 cd24 ct24 : Value} {f25 : Addr} {od25 an25 : Option Addr} {sl25 : Array (Option Value)} {oc25 kV25 dc25 pm25 cd25 ct25 : Value} {f26 : Addr} {od26 an26 : Option Addr} {sl26 : Array (Option Value)} {oc26 kV26 dc26 pm26 cd26 ct26 : Value} {f27 : Addr} {od27 an27 : Option Addr} {sl27 : Array (Option Value)} {oc27 kV27 dc27 pm27 cd27 ct27 : Value} {f28 : Addr} {od28 an28 : Option Addr} {sl28 : Array (Option Value)} {oc28 kV28 dc28 pm28 cd28 ct28 : Value} {f29 : Addr} {od29 an29 : Option Addr} {sl29 : Array (Option Value)} {oc29 kV29 dc29 pm29 cd29 ct29 : Value} {f30 : Addr} {od30 an30 : Option Addr} {sl30 : Array (Option Value)} {oc30 kV30 dc30 pm30 cd30 ct30 : Value} {f31 : Addr} {od31 an31 : Option Addr} {sl31 : Array (Option Value)} {oc31 kV31 dc31 pm31 cd31 ct31 : Value} {f32 : Addr} {od32 an32 : Option Addr} {sl32 : Array (Option Value)} {oc32 kV32 dc32 pm32 cd32 ct32 : Value} {f33 : Addr} {od33 an33 : Option Addr} {sl33 : Array (Option Value)} {oc33 kV33 dc33 pm33 cd33 ct33 : Value} {f34 : Addr} {od34 an34 : Option Addr} {sl34 : Array (Option Value)} {oc34 kV34 dc34 pm34 cd34 ct34 : Value} {f35 : Addr} {od35 an35 : Option Addr} {sl35 : Array (Option Value)} {oc35 kV35 dc35 pm35 cd35 ct35 : Value} {f36 : Addr} {od36 an36 : Option Addr} {sl36 : Array (Option Value)} {oc36 kV36 dc36 pm36 cd36 ct36 : Value} {f37 : Addr} {od37 an37 : Option Addr} {sl37 : Array (Option Value)} {oc37 kV37 dc37 pm37 cd37 ct37 : Value} {f38 : Addr} {od38 an38 : Option Addr} {sl38 : Array (Option Value)} {oc38 kV38 dc38 pm38 cd38 ct38 : Value} {f39 : Addr} {od39 an39 : Option Addr} {sl39 : Array (Option Value)} {oc39 kV39 dc39 pm39 cd39 ct39 : Value} {f40 : Addr} {od40 an40 : Option Addr} {sl40 : Array (Option Value)} {oc40 kV40 dc40 pm40 cd40 ct40 : Value} {f41 : Addr} {od41 an41 : Option Addr} {sl41 : Array (Option Value)} {oc41 kV41 dc41 pm41 cd41 ct41 : Value} {f42 : Addr} {od42 an42 : Option Addr} {sl42 : Array (Option Value)} {oc42 kV42 dc42 pm42 cd42 ct42 : Value} {f43 : Addr} {od43 an43 : Option Addr} {sl43 : Array (Option Value)} {oc43 kV43 dc43 pm43 cd43 ct43 : Value} {f44 : Addr} {od44 an44 : Option Addr} {sl44 : Array (Option Value)} {oc44 kV44 dc44 pm44 cd44 ct44 : Value} {f45 : Addr} {od45 an45 : Option Addr} {sl45 : Array (Option Value)} {oc45 kV45 dc45 pm45 cd45 ct45 : Value} {f46 : Addr} {od46 an46 : Option Addr} {sl46 : Array (Option Value)} {oc46 kV46 dc46 pm46 cd46 ct46 : Value} {f47 : Addr} {od47 an47 : Option Addr} {sl47 : Array (Option Value)} {oc47 kV47 dc47 pm47 cd47 ct47 : Value} {f48 : Addr} {od48 an48 : Option Addr} {sl48 : Array (Option Value)} {oc48 kV48 dc48 pm48 cd48 ct48 : Value} {f49 : Addr} {od49 an49 : Option Addr} {sl49 : Array (Option Value)} {oc49 kV49 dc49 pm49 cd49 ct49 : Value} {t_STATES : Tok} {t_TOP_LEVEL : Tok} {t_LIMIT : Tok} {t_LEAST_LEVEL : Tok}
  (n_c_Grove : PySem.W.nsIn K mainGlobals "Grove" = some (some (.ref c_Grove)))
  (pg_Grove : PySem.W.plainGet K c_Grove Str.empty = true)
  (hd_Grove : PySem.W.hasDictIn K c_Grove = true)
  (po_Grove : PySem.W.plainOver K c_Grove = true)
  (sa_Grove : PySem.W.findIn K (.ref c_Grove) "__setattr__" = some (some (.builtin "object.__setattr__")))
  (mk_Grove : PySem.W.makesIn K c_Grove = true)
  (kc_Grove : PySem.W.keepIn K (.ref c_Grove) = true)
  (na_Grove_levels : PySem.W.findIn K (.ref c_Grove) "levels" = some none)
  (na_Grove_parts : PySem.W.findIn K (.ref c_Grove) "parts" = some none)
  (na_Grove_numbers : PySem.W.findIn K (.ref c_Grove) "numbers" = some none)
  (na_Grove_bares : PySem.W.findIn K (.ref c_Grove) "bares" = some none)
  (na_Grove_amounts : PySem.W.findIn K (.ref c_Grove) "amounts" = some none)
  (na_Grove_boxes : PySem.W.findIn K (.ref c_Grove) "boxes" = some none)
  (a0 : PySem.W.nsIn K mainGlobals "is_whole" = some (some (.ref f0)))
  (l0 : K.lookup f0 = some ⟨oc0, od0, .func (PySem.W.fnOf "is_whole" "is_whole" (Ax DZ) (Au DZ) (Ah DZ) .none kV0 dc0 pm0 an0 cd0 ct0), sl0⟩)
  (c0 : PySem.W.codeIn K cd0 "is_whole" = true)
  (k0 : PySem.W.keepIn K (.ref f0) = true)
  (a1 : PySem.W.nsIn K mainGlobals "is_state" = some (some (.ref f1)))
  (l1 : K.lookup f1 = some ⟨oc1, od1, .func (PySem.W.fnOf "is_state" "is_state" (Ax Ea) (Au Ea) (Ah Ea) .none kV1 dc1 pm1 an1 cd1 ct1), sl1⟩)
  (c1 : PySem.W.codeIn K cd1 "is_state" = true)
  (k1 : PySem.W.keepIn K (.ref f1) = true)
  (a2 : PySem.W.nsIn K mainGlobals "shifted_box" = some (some (.ref f2)))
  (l2 : K.lookup f2 = some ⟨oc2, od2, .func (PySem.W.fnOf "shifted_box" "shifted_box" (Ax Cy) (Au Cy) (Ah Cy) .none kV2 dc2 pm2 an2 cd2 ct2), sl2⟩)
  (c2 : PySem.W.codeIn K cd2 "shifted_box" = true)
  (k2 : PySem.W.keepIn K (.ref f2) = true)
  (a3 : PySem.W.nsIn K mainGlobals "least_box" = some (some (.ref f3)))
  (l3 : K.lookup f3 = some ⟨oc3, od3, .func (PySem.W.fnOf "least_box" "least_box" (Ax BI) (Au BI) (Ah BI) .none kV3 dc3 pm3 an3 cd3 ct3), sl3⟩)
  (c3 : PySem.W.codeIn K cd3 "least_box" = true)
  (k3 : PySem.W.keepIn K (.ref f3) = true)
  (a4 : PySem.W.nsIn K mainGlobals "lies_within" = some (some (.ref f4)))
  (l4 : K.lookup f4 = some ⟨oc4, od4, .func (PySem.W.fnOf "lies_within" "lies_within" (Ax Cz) (Au Cz) (Ah Cz) .none kV4 dc4 pm4 an4 cd4 ct4), sl4⟩)
  (c4 : PySem.W.codeIn K cd4 "lies_within" = true)
  (k4 : PySem.W.keepIn K (.ref f4) = true)
  (a5 : PySem.W.nsIn K mainGlobals "reach_of" = some (some (.ref f5)))
  (l5 : K.lookup f5 = some ⟨oc5, od5, .func (PySem.W.fnOf "reach_of" "reach_of" (Ax DX) (Au DX) (Ah DX) .none kV5 dc5 pm5 an5 cd5 ct5), sl5⟩)
  (c5 : PySem.W.codeIn K cd5 "reach_of" = true)
  (k5 : PySem.W.keepIn K (.ref f5) = true)
  (a6 : PySem.W.nsIn K mainGlobals "bare_field" = some (some (.ref f6)))
  (l6 : K.lookup f6 = some ⟨oc6, od6, .func (PySem.W.fnOf "bare_field" "bare_field" (Ax CN) (Au CN) (Ah CN) .none kV6 dc6 pm6 an6 cd6 ct6), sl6⟩)
  (c6 : PySem.W.codeIn K cd6 "bare_field" = true)
  (k6 : PySem.W.keepIn K (.ref f6) = true)
  (a7 : PySem.W.nsIn K mainGlobals "widened" = some (some (.ref f7)))
  (l7 : K.lookup f7 = some ⟨oc7, od7, .func (PySem.W.fnOf "widened" "widened" (Ax EI) (Au EI) (Ah EI) .none kV7 dc7 pm7 an7 cd7 ct7), sl7⟩)
  (c7 : PySem.W.codeIn K cd7 "widened" = true)
  (k7 : PySem.W.keepIn K (.ref f7) = true)
  (a8 : PySem.W.nsIn K mainGlobals "trimmed" = some (some (.ref f8)))
  (l8 : K.lookup f8 = some ⟨oc8, od8, .func (PySem.W.fnOf "trimmed" "trimmed" (Ax EJ) (Au EJ) (Ah EJ) .none kV8 dc8 pm8 an8 cd8 ct8), sl8⟩)
  (c8 : PySem.W.codeIn K cd8 "trimmed" = true)
  (k8 : PySem.W.keepIn K (.ref f8) = true)
  (a9 : PySem.W.nsIn K mainGlobals "middle_of" = some (some (.ref f9)))
  (l9 : K.lookup f9 = some ⟨oc9, od9, .func (PySem.W.fnOf "middle_of" "middle_of" (Ax CI) (Au CI) (Ah CI) .none kV9 dc9 pm9 an9 cd9 ct9), sl9⟩)
  (c9 : PySem.W.codeIn K cd9 "middle_of" = true)
  (k9 : PySem.W.keepIn K (.ref f9) = true)
  (a10 : PySem.W.nsIn K mainGlobals "is_bare_around" = some (some (.ref f10)))
  (l10 : K.lookup f10 = some ⟨oc10, od10, .func (PySem.W.fnOf "is_bare_around" "is_bare_around" (Ax BN) (Au BN) (Ah BN) .none kV10 dc10 pm10 an10 cd10 ct10), sl10⟩)
  (c10 : PySem.W.codeIn K cd10 "is_bare_around" = true)
  (k10 : PySem.W.keepIn K (.ref f10) = true)
  (a11 : PySem.W.nsIn K mainGlobals "widened_over" = some (some (.ref f11)))
  (l11 : K.lookup f11 = some ⟨oc11, od11, .func (PySem.W.fnOf "widened_over" "widened_over" (Ax Cg) (Au Cg) (Ah Cg) .none kV11 dc11 pm11 an11 cd11 ct11), sl11⟩)
  (c11 : PySem.W.codeIn K cd11 "widened_over" = true)
  (k11 : PySem.W.keepIn K (.ref f11) = true)
  (a12 : PySem.W.nsIn K mainGlobals "planted" = some (some (.ref f12)))
  (l12 : K.lookup f12 = some ⟨oc12, od12, .func (PySem.W.fnOf "planted" "planted" (Ax EK) (Au EK) (Ah EK) .none kV12 dc12 pm12 an12 cd12 ct12), sl12⟩)
  (c12 : PySem.W.codeIn K cd12 "planted" = true)
  (k12 : PySem.W.keepIn K (.ref f12) = true)
  (a13 : PySem.W.nsIn K mainGlobals "replaced" = some (some (.ref f13)))
  (l13 : K.lookup f13 = some ⟨oc13, od13, .func (PySem.W.fnOf "replaced" "replaced" (Ax DW) (Au DW) (Ah DW) .none kV13 dc13 pm13 an13 cd13 ct13), sl13⟩)
  (c13 : PySem.W.codeIn K cd13 "replaced" = true)
  (k13 : PySem.W.keepIn K (.ref f13) = true)
  (a14 : PySem.W.nsIn K mainGlobals "field_of" = some (some (.ref f14)))
  (l14 : K.lookup f14 = some ⟨oc14, od14, .func (PySem.W.fnOf "field_of" "field_of" (Ax Eb) (Au Eb) (Ah Eb) .none kV14 dc14 pm14 an14 cd14 ct14), sl14⟩)
  (c14 : PySem.W.codeIn K cd14 "field_of" = true)
  (k14 : PySem.W.keepIn K (.ref f14) = true)
  (a15 : PySem.W.nsIn K mainGlobals "box_of" = some (some (.ref f15)))
  (l15 : K.lookup f15 = some ⟨oc15, od15, .func (PySem.W.fnOf "box_of" "box_of" (Ax Fu) (Au Fu) (Ah Fu) .none kV15 dc15 pm15 an15 cd15 ct15), sl15⟩)
  (c15 : PySem.W.codeIn K cd15 "box_of" = true)
  (k15 : PySem.W.keepIn K (.ref f15) = true)
  (a16 : PySem.W.nsIn K mainGlobals "moved_by" = some (some (.ref f16)))
  (l16 : K.lookup f16 = some ⟨oc16, od16, .func (PySem.W.fnOf "moved_by" "moved_by" (Ax DY) (Au DY) (Ah DY) .none kV16 dc16 pm16 an16 cd16 ct16), sl16⟩)
  (c16 : PySem.W.codeIn K cd16 "moved_by" = true)
  (k16 : PySem.W.keepIn K (.ref f16) = true)
  (a17 : PySem.W.nsIn K mainGlobals "seen_at" = some (some (.ref f17)))
  (l17 : K.lookup f17 = some ⟨oc17, od17, .func (PySem.W.fnOf "seen_at" "seen_at" (Ax DV) (Au DV) (Ah DV) .none kV17 dc17 pm17 an17 cd17 ct17), sl17⟩)
  (c17 : PySem.W.codeIn K cd17 "seen_at" = true)
  (k17 : PySem.W.keepIn K (.ref f17) = true)
  (a18 : PySem.W.nsIn K mainGlobals "without_unseen" = some (some (.ref f18)))
  (l18 : K.lookup f18 = some ⟨oc18, od18, .func (PySem.W.fnOf "without_unseen" "without_unseen" (Ax BM) (Au BM) (Ah BM) .none kV18 dc18 pm18 an18 cd18 ct18), sl18⟩)
  (c18 : PySem.W.codeIn K cd18 "without_unseen" = true)
  (k18 : PySem.W.keepIn K (.ref f18) = true)
  (a19 : PySem.W.nsIn K mainGlobals "seen_quarters" = some (some (.ref f19)))
  (l19 : K.lookup f19 = some ⟨oc19, od19, .func (PySem.W.fnOf "seen_quarters" "seen_quarters" (Ax BE) (Au BE) (Ah BE) .none kV19 dc19 pm19 an19 cd19 ct19), sl19⟩)
  (c19 : PySem.W.codeIn K cd19 "seen_quarters" = true)
  (k19 : PySem.W.keepIn K (.ref f19) = true)
  (a20 : PySem.W.nsIn K mainGlobals "rows_of_quarters" = some (some (.ref f20)))
  (l20 : K.lookup f20 = some ⟨oc20, od20, .func (PySem.W.fnOf "rows_of_quarters" "rows_of_quarters" (Ax Bp) (Au Bp) (Ah Bp) .none kV20 dc20 pm20 an20 cd20 ct20), sl20⟩)
  (c20 : PySem.W.codeIn K cd20 "rows_of_quarters" = true)
  (k20 : PySem.W.keepIn K (.ref f20) = true)
  (a21 : PySem.W.nsIn K mainGlobals "shape_of" = some (some (.ref f21)))
  (l21 : K.lookup f21 = some ⟨oc21, od21, .func (PySem.W.fnOf "shape_of" "shape_of" (Ax DU) (Au DU) (Ah DU) .none kV21 dc21 pm21 an21 cd21 ct21), sl21⟩)
  (c21 : PySem.W.codeIn K cd21 "shape_of" = true)
  (k21 : PySem.W.keepIn K (.ref f21) = true)
  (a22 : PySem.W.nsIn K mainGlobals "filled" = some (some (.ref f22)))
  (l22 : K.lookup f22 = some ⟨oc22, od22, .func (PySem.W.fnOf "filled" "filled" (Ax Ft) (Au Ft) (Ah Ft) .none kV22 dc22 pm22 an22 cd22 ct22), sl22⟩)
  (c22 : PySem.W.codeIn K cd22 "filled" = true)
  (k22 : PySem.W.keepIn K (.ref f22) = true)
  (a23 : PySem.W.nsIn K mainGlobals "check_box" = some (some (.ref f23)))
  (l23 : K.lookup f23 = some ⟨oc23, od23, .func (PySem.W.fnOf "check_box" "check_box" (Ax Dr) (Au Dr) (Ah Dr) .none kV23 dc23 pm23 an23 cd23 ct23), sl23⟩)
  (c23 : PySem.W.codeIn K cd23 "check_box" = true)
  (k23 : PySem.W.keepIn K (.ref f23) = true)
  (a24 : PySem.W.nsIn K mainGlobals "part_in" = some (some (.ref f24)))
  (l24 : K.lookup f24 = some ⟨oc24, od24, .func (PySem.W.fnOf "part_in" "part_in" (Ax EL) (Au EL) (Ah EL) .none kV24 dc24 pm24 an24 cd24 ct24), sl24⟩)
  (c24 : PySem.W.codeIn K cd24 "part_in" = true)
  (k24 : PySem.W.keepIn K (.ref f24) = true)
  (a25 : PySem.W.nsIn K mainGlobals "mixed" = some (some (.ref f25)))
  (l25 : K.lookup f25 = some ⟨oc25, od25, .func (PySem.W.fnOf "mixed" "mixed" (Ax FO) (Au FO) (Ah FO) .none kV25 dc25 pm25 an25 cd25 ct25), sl25⟩)
  (c25 : PySem.W.codeIn K cd25 "mixed" = true)
  (k25 : PySem.W.keepIn K (.ref f25) = true)
  (a26 : PySem.W.nsIn K mainGlobals "mixed_quarters" = some (some (.ref f26)))
  (l26 : K.lookup f26 = some ⟨oc26, od26, .func (PySem.W.fnOf "mixed_quarters" "mixed_quarters" (Ax Bq) (Au Bq) (Ah Bq) .none kV26 dc26 pm26 an26 cd26 ct26), sl26⟩)
  (c26 : PySem.W.codeIn K cd26 "mixed_quarters" = true)
  (k26 : PySem.W.keepIn K (.ref f26) = true)
  (a27 : PySem.W.nsIn K mainGlobals "split_stretch" = some (some (.ref f27)))
  (l27 : K.lookup f27 = some ⟨oc27, od27, .func (PySem.W.fnOf "split_stretch" "split_stretch" (Ax BW) (Au BW) (Ah BW) .none kV27 dc27 pm27 an27 cd27 ct27), sl27⟩)
  (c27 : PySem.W.codeIn K cd27 "split_stretch" = true)
  (k27 : PySem.W.keepIn K (.ref f27) = true)
  (a28 : PySem.W.nsIn K mainGlobals "_law_at" = some (some (.ref f28)))
  (l28 : K.lookup f28 = some ⟨oc28, od28, .func (PySem.W.fnOf "_law_at" "_law_at" (Ax EM) (Au EM) (Ah EM) .none kV28 dc28 pm28 an28 cd28 ct28), sl28⟩)
  (c28 : PySem.W.codeIn K cd28 "_law_at" = true)
  (k28 : PySem.W.keepIn K (.ref f28) = true)
  (a29 : PySem.W.nsIn K mainGlobals "_law_by_rows" = some (some (.ref f29)))
  (l29 : K.lookup f29 = some ⟨oc29, od29, .func (PySem.W.fnOf "_law_by_rows" "_law_by_rows" (Ax Ch) (Au Ch) (Ah Ch) .none kV29 dc29 pm29 an29 cd29 ct29), sl29⟩)
  (c29 : PySem.W.codeIn K cd29 "_law_by_rows" = true)
  (k29 : PySem.W.keepIn K (.ref f29) = true)
  (a30 : PySem.W.nsIn K mainGlobals "_law_listed" = some (some (.ref f30)))
  (l30 : K.lookup f30 = some ⟨oc30, od30, .func (PySem.W.fnOf "_law_listed" "_law_listed" (Ax CA) (Au CA) (Ah CA) .none kV30 dc30 pm30 an30 cd30 ct30), sl30⟩)
  (c30 : PySem.W.codeIn K cd30 "_law_listed" = true)
  (k30 : PySem.W.keepIn K (.ref f30) = true)
  (a31 : PySem.W.nsIn K mainGlobals "_law_base" = some (some (.ref f31)))
  (l31 : K.lookup f31 = some ⟨oc31, od31, .func (PySem.W.fnOf "_law_base" "_law_base" (Ax Dt) (Au Dt) (Ah Dt) .none kV31 dc31 pm31 an31 cd31 ct31), sl31⟩)
  (c31 : PySem.W.codeIn K cd31 "_law_base" = true)
  (k31 : PySem.W.keepIn K (.ref f31) = true)
  (a32 : PySem.W.nsIn K mainGlobals "_law_heap" = some (some (.ref f32)))
  (l32 : K.lookup f32 = some ⟨oc32, od32, .func (PySem.W.fnOf "_law_heap" "_law_heap" (Ax Ds) (Au Ds) (Ah Ds) .none kV32 dc32 pm32 an32 cd32 ct32), sl32⟩)
  (c32 : PySem.W.codeIn K cd32 "_law_heap" = true)
  (k32 : PySem.W.keepIn K (.ref f32) = true)
  (a33 : PySem.W.nsIn K mainGlobals "_law_box" = some (some (.ref f33)))
  (l33 : K.lookup f33 = some ⟨oc33, od33, .func (PySem.W.fnOf "_law_box" "_law_box" (Ax Ca) (Au Ca) (Ah Ca) .none kV33 dc33 pm33 an33 cd33 ct33), sl33⟩)
  (c33 : PySem.W.codeIn K cd33 "_law_box" = true)
  (k33 : PySem.W.keepIn K (.ref f33) = true)
  (a34 : PySem.W.nsIn K mainGlobals "_law_moved" = some (some (.ref f34)))
  (l34 : K.lookup f34 = some ⟨oc34, od34, .func (PySem.W.fnOf "_law_moved" "_law_moved" (Ax CP) (Au CP) (Ah CP) .none kV34 dc34 pm34 an34 cd34 ct34), sl34⟩)
  (c34 : PySem.W.codeIn K cd34 "_law_moved" = true)
  (k34 : PySem.W.keepIn K (.ref f34) = true)
  (a35 : PySem.W.nsIn K mainGlobals "_law_right" = some (some (.ref f35)))
  (l35 : K.lookup f35 = some ⟨oc35, od35, .func (PySem.W.fnOf "_law_right" "_law_right" (Ax CO) (Au CO) (Ah CO) .none kV35 dc35 pm35 an35 cd35 ct35), sl35⟩)
  (c35 : PySem.W.codeIn K cd35 "_law_right" = true)
  (k35 : PySem.W.keepIn K (.ref f35) = true)
  (a36 : PySem.W.nsIn K mainGlobals "_law_box_right" = some (some (.ref f36)))
  (l36 : K.lookup f36 = some ⟨oc36, od36, .func (PySem.W.fnOf "_law_box_right" "_law_box_right" (Ax BO) (Au BO) (Ah BO) .none kV36 dc36 pm36 an36 cd36 ct36), sl36⟩)
  (c36 : PySem.W.codeIn K cd36 "_law_box_right" = true)
  (k36 : PySem.W.keepIn K (.ref f36) = true)
  (a37 : PySem.W.nsIn K mainGlobals "law" = some (some (.ref f37)))
  (l37 : K.lookup f37 = some ⟨oc37, od37, .func (PySem.W.fnOf "law" "law" (Ax GV) (Au GV) (Ah GV) .none kV37 dc37 pm37 an37 cd37 ct37), sl37⟩)
  (c37 : PySem.W.codeIn K cd37 "law" = true)
  (k37 : PySem.W.keepIn K (.ref f37) = true)
  (a38 : PySem.W.findIn K (.ref c_Grove) "__init__" = some (some (.ref f38)))
  (i38 : PySem.W.isFn K (.ref f38) = true)
  (l38 : K.lookup f38 = some ⟨oc38, od38, .func (PySem.W.fnOf "__init__" "Grove.__init__" (Ax CU) (Au CU) (Ah CU) .none kV38 dc38 pm38 an38 cd38 ct38), sl38⟩)
  (c38 : PySem.W.codeIn K cd38 "Grove.__init__" = true)
  (k38 : PySem.W.keepIn K (.ref f38) = true)
  (a39 : PySem.W.findIn K (.ref c_Grove) "kept" = some (some (.ref f39)))
  (i39 : PySem.W.isFn K (.ref f39) = true)
  (l39 : K.lookup f39 = some ⟨oc39, od39, .func (PySem.W.fnOf "kept" "Grove.kept" (Ax CT) (Au CT) (Ah CT) .none kV39 dc39 pm39 an39 cd39 ct39), sl39⟩)
  (c39 : PySem.W.codeIn K cd39 "Grove.kept" = true)
  (k39 : PySem.W.keepIn K (.ref f39) = true)
  (a40 : PySem.W.findIn K (.ref c_Grove) "linked" = some (some (.ref f40)))
  (i40 : PySem.W.isFn K (.ref f40) = true)
  (l40 : K.lookup f40 = some ⟨oc40, od40, .func (PySem.W.fnOf "linked" "Grove.linked" (Ax Ci) (Au Ci) (Ah Ci) .none kV40 dc40 pm40 an40 cd40 ct40), sl40⟩)
  (c40 : PySem.W.codeIn K cd40 "Grove.linked" = true)
  (k40 : PySem.W.keepIn K (.ref f40) = true)
  (a41 : PySem.W.findIn K (.ref c_Grove) "check_square" = some (some (.ref f41)))
  (i41 : PySem.W.isFn K (.ref f41) = true)
  (l41 : K.lookup f41 = some ⟨oc41, od41, .func (PySem.W.fnOf "check_square" "Grove.check_square" (Ax Be) (Au Be) (Ah Be) .none kV41 dc41 pm41 an41 cd41 ct41), sl41⟩)
  (c41 : PySem.W.codeIn K cd41 "Grove.check_square" = true)
  (k41 : PySem.W.keepIn K (.ref f41) = true)
  (a42 : PySem.W.findIn K (.ref c_Grove) "leaf" = some (some (.ref f42)))
  (i42 : PySem.W.isFn K (.ref f42) = true)
  (l42 : K.lookup f42 = some ⟨oc42, od42, .func (PySem.W.fnOf "leaf" "Grove.leaf" (Ax CS) (Au CS) (Ah CS) .none kV42 dc42 pm42 an42 cd42 ct42), sl42⟩)
  (c42 : PySem.W.codeIn K cd42 "Grove.leaf" = true)
  (k42 : PySem.W.keepIn K (.ref f42) = true)
  (a43 : PySem.W.findIn K (.ref c_Grove) "solid" = some (some (.ref f43)))
  (i43 : PySem.W.isFn K (.ref f43) = true)
  (l43 : K.lookup f43 = some ⟨oc43, od43, .func (PySem.W.fnOf "solid" "Grove.solid" (Ax CB) (Au CB) (Ah CB) .none kV43 dc43 pm43 an43 cd43 ct43), sl43⟩)
  (c43 : PySem.W.codeIn K cd43 "Grove.solid" = true)
  (k43 : PySem.W.keepIn K (.ref f43) = true)
  (a44 : PySem.W.findIn K (.ref c_Grove) "level_of" = some (some (.ref f44)))
  (i44 : PySem.W.isFn K (.ref f44) = true)
  (l44 : K.lookup f44 = some ⟨oc44, od44, .func (PySem.W.fnOf "level_of" "Grove.level_of" (Ax BP) (Au BP) (Ah BP) .none kV44 dc44 pm44 an44 cd44 ct44), sl44⟩)
  (c44 : PySem.W.codeIn K cd44 "Grove.level_of" = true)
  (k44 : PySem.W.keepIn K (.ref f44) = true)
  (a45 : PySem.W.findIn K (.ref c_Grove) "living" = some (some (.ref f45)))
  (i45 : PySem.W.isFn K (.ref f45) = true)
  (l45 : K.lookup f45 = some ⟨oc45, od45, .func (PySem.W.fnOf "living" "Grove.living" (Ax DH) (Au DH) (Ah DH) .none kV45 dc45 pm45 an45 cd45 ct45), sl45⟩)
  (c45 : PySem.W.codeIn K cd45 "Grove.living" = true)
  (k45 : PySem.W.keepIn K (.ref f45) = true)
  (a46 : PySem.W.findIn K (.ref c_Grove) "counted" = some (some (.ref f46)))
  (i46 : PySem.W.isFn K (.ref f46) = true)
  (l46 : K.lookup f46 = some ⟨oc46, od46, .func (PySem.W.fnOf "counted" "Grove.counted" (Ax De) (Au De) (Ah De) .none kV46 dc46 pm46 an46 cd46 ct46), sl46⟩)
  (c46 : PySem.W.codeIn K cd46 "Grove.counted" = true)
  (k46 : PySem.W.keepIn K (.ref f46) = true)
  (a47 : PySem.W.findIn K (.ref c_Grove) "span" = some (some (.ref f47)))
  (i47 : PySem.W.isFn K (.ref f47) = true)
  (l47 : K.lookup f47 = some ⟨oc47, od47, .func (PySem.W.fnOf "span" "Grove.span" (Ax CQ) (Au CQ) (Ah CQ) .none kV47 dc47 pm47 an47 cd47 ct47), sl47⟩)
  (c47 : PySem.W.codeIn K cd47 "Grove.span" = true)
  (k47 : PySem.W.keepIn K (.ref f47) = true)
  (a48 : PySem.W.findIn K (.ref c_Grove) "boxed" = some (some (.ref f48)))
  (i48 : PySem.W.isFn K (.ref f48) = true)
  (l48 : K.lookup f48 = some ⟨oc48, od48, .func (PySem.W.fnOf "boxed" "Grove.boxed" (Ax Cb) (Au Cb) (Ah Cb) .none kV48 dc48 pm48 an48 cd48 ct48), sl48⟩)
  (c48 : PySem.W.codeIn K cd48 "Grove.boxed" = true)
  (k48 : PySem.W.keepIn K (.ref f48) = true)
  (a49 : PySem.W.findIn K (.ref c_Grove) "measured" = some (some (.ref f49)))
  (i49 : PySem.W.isFn K (.ref f49) = true)
  (l49 : K.lookup f49 = some ⟨oc49, od49, .func (PySem.W.fnOf "measured" "Grove.measured" (Ax Br) (Au Br) (Ah Br) .none kV49 dc49 pm49 an49 cd49 ct49), sl49⟩)
  (c49 : PySem.W.codeIn K cd49 "Grove.measured" = true)
  (k49 : PySem.W.keepIn K (.ref f49) = true)
  (z_bool : PySem.W.nsIn K mainGlobals "bool" = some none)
  (z_enumerate : PySem.W.nsIn K mainGlobals "enumerate" = some none)
  (z_int : PySem.W.nsIn K mainGlobals "int" = some none)
  (z_isinstance : PySem.W.nsIn K mainGlobals "isinstance" = some none)
  (z_len : PySem.W.nsIn K mainGlobals "len" = some none)
  (z_list : PySem.W.nsIn K mainGlobals "list" = some none)
  (z_max : PySem.W.nsIn K mainGlobals "max" = some none)
  (z_min : PySem.W.nsIn K mainGlobals "min" = some none)
  (z_range : PySem.W.nsIn K mainGlobals "range" = some none)
  (z_sorted : PySem.W.nsIn K mainGlobals "sorted" = some none)
  (z_sum : PySem.W.nsIn K mainGlobals "sum" = some none)
  (z_tuple : PySem.W.nsIn K mainGlobals "tuple" = some none)
  (g_STATES : PySem.W.nsIn K mainGlobals "STATES" = some (some (.int 8 t_STATES)))
  (g_TOP_LEVEL : PySem.W.nsIn K mainGlobals "TOP_LEVEL" = some (some (.int 48 t_TOP_LEVEL)))
  (g_LIMIT : PySem.W.nsIn K mainGlobals "LIMIT" = some (some (.int 1099511627776 t_LIMIT)))
  (g_LEAST_LEVEL : PySem.W.nsIn K mainGlobals "LEAST_LEVEL" = some (some (.int 1 t_LEAST_LEVEL)))
  : ∃ fd : FuncData, (∀ (s : Shared) (v : Value), BindsTo s fd ⟨[v], []⟩ [("_law_script", v)]) /\ ∀ base : Heap, K.In base -> base.Ns mainGlobals mg -> AY l.prog w K mg base CX0 106 fa fd ["_law_script"] (OL K) := by
 have e := hfa.symm.trans (PySem.W.mg_of X G a37)
 cases e
 have no : ∀ {x : Str}, PySem.W.nsIn K mainGlobals x = some none -> mg x = none := fun z => PySem.W.mg_none_of X G z
 have T : Top K mg (⟨c_Grove⟩ : Ad) := ⟨no z_bool, no z_enumerate, no z_int, no z_isinstance, no z_len, no z_list, no z_max, no z_min, no z_range, no z_sorted, no z_sum, no z_tuple, ⟨t_STATES, PySem.W.mg_of X G g_STATES⟩, ⟨t_TOP_LEVEL, PySem.W.mg_of X G g_TOP_LEVEL⟩, ⟨t_LIMIT, PySem.W.mg_of X G g_LIMIT⟩, ⟨t_LEAST_LEVEL, PySem.W.mg_of X G g_LEAST_LEVEL⟩, PySem.W.mg_of X G n_c_Grove, ⟨pg_Grove, hd_Grove, po_Grove, sa_Grove⟩, na_Grove_levels, na_Grove_parts, na_Grove_numbers, na_Grove_bares, na_Grove_amounts, na_Grove_boxes⟩
 have F_is_whole := AE (x := "is_whole") (qual := "is_whole") (st := DZ) l0 c0 k0
 have b_is_whole := F_is_whole.binds (ps := Dl) fun _ _ _ _ _ _ us hl => by obtain ⟨x0, rfl⟩ := ar1 us hl; exact rfl
 have m_is_whole := PySem.W.mg_of X G a0
 have F_is_state := AE (x := "is_state") (qual := "is_state") (st := Ea) l1 c1 k1
 have b_is_state := F_is_state.binds (ps := Dm) fun _ _ _ _ _ _ us hl => by obtain ⟨x0, rfl⟩ := ar1 us hl; exact rfl
 have m_is_state := PySem.W.mg_of X G a1
 have F_shifted_box := AE (x := "shifted_box") (qual := "shifted_box") (st := Cy) l2 c2 k2
 have b_shifted_box := F_shifted_box.binds (ps := BJ) fun _ _ _ _ _ _ us hl => by obtain ⟨x0, x1, x2, rfl⟩ := ar3 us hl; exact rfl
 have m_shifted_box := PySem.W.mg_of X G a2
 have F_least_box := AE (x := "least_box") (qual := "least_box") (st := BI) l3 c3 k3
 have b_least_box := F_least_box.binds (ps := Dv) fun _ _ _ _ _ _ us hl => by obtain ⟨x0, rfl⟩ := ar1 us hl; exact rfl
 have m_least_box := PySem.W.mg_of X G a3
 have F_lies_within := AE (x := "lies_within") (qual := "lies_within") (st := Cz) l4 c4 k4
 have b_lies_within := F_lies_within.binds (ps := BK) fun _ _ _ _ _ _ us hl => by obtain ⟨x0, x1, rfl⟩ := ar2 us hl; exact rfl
 have m_lies_within := PySem.W.mg_of X G a4
 have F_reach_of := AE (x := "reach_of") (qual := "reach_of") (st := DX) l5 c5 k5
 have b_reach_of := F_reach_of.binds (ps := Ct) fun _ _ _ _ _ _ us hl => by obtain ⟨x0, x1, rfl⟩ := ar2 us hl; exact rfl
 have m_reach_of := PySem.W.mg_of X G a5
 have F_bare_field := AE (x := "bare_field") (qual := "bare_field") (st := CN) l6 c6 k6
 have b_bare_field := F_bare_field.binds (ps := DL) fun _ _ _ _ _ _ us hl => by obtain ⟨x0, rfl⟩ := ar1 us hl; exact rfl
 have m_bare_field := PySem.W.mg_of X G a6
 have F_widened := AE (x := "widened") (qual := "widened") (st := EI) l7 c7 k7
 have b_widened := F_widened.binds (ps := Fz) fun _ _ _ _ _ _ us hl => by obtain ⟨x0, x1, rfl⟩ := ar2 us hl; exact rfl
 have m_widened := PySem.W.mg_of X G a7
 have F_trimmed := AE (x := "trimmed") (qual := "trimmed") (st := EJ) l8 c8 k8
 have b_trimmed := F_trimmed.binds (ps := Ee) fun _ _ _ _ _ _ us hl => by obtain ⟨x0, x1, rfl⟩ := ar2 us hl; exact rfl
 have m_trimmed := PySem.W.mg_of X G a8
 have F_middle_of := AE (x := "middle_of") (qual := "middle_of") (st := CI) l9 c9 k9
 have b_middle_of := F_middle_of.binds (ps := Eo) fun _ _ _ _ _ _ us hl => by obtain ⟨x0, x1, rfl⟩ := ar2 us hl; exact rfl
 have m_middle_of := PySem.W.mg_of X G a9
 have F_is_bare_around := AE (x := "is_bare_around") (qual := "is_bare_around") (st := BN) l10 c10 k10
 have b_is_bare_around := F_is_bare_around.binds (ps := Ck) fun _ _ _ _ _ _ us hl => by obtain ⟨x0, x1, rfl⟩ := ar2 us hl; exact rfl
 have m_is_bare_around := PySem.W.mg_of X G a10
 have F_widened_over := AE (x := "widened_over") (qual := "widened_over") (st := Cg) l11 c11 k11
 have b_widened_over := F_widened_over.binds (ps := BS) fun _ _ _ _ _ _ us hl => by obtain ⟨x0, x1, x2, rfl⟩ := ar3 us hl; exact rfl
 have m_widened_over := PySem.W.mg_of X G a11
 have F_planted := AE (x := "planted") (qual := "planted") (st := EK) l12 c12 k12
 have b_planted := F_planted.binds (ps := FA) fun _ _ _ _ _ _ us hl => by obtain ⟨x0, x1, x2, x3, x4, rfl⟩ := ar5 us hl; exact rfl
 have m_planted := PySem.W.mg_of X G a12
 have F_replaced := AE (x := "replaced") (qual := "replaced") (st := DW) l13 c13 k13
 have b_replaced := F_replaced.binds (ps := Dk) fun _ _ _ _ _ _ us hl => by obtain ⟨x0, x1, x2, x3, x4, rfl⟩ := ar5 us hl; exact rfl
 have m_replaced := PySem.W.mg_of X G a13
 have F_field_of := AE (x := "field_of") (qual := "field_of") (st := Eb) l14 c14 k14
 have b_field_of := F_field_of.binds (ps := EX) fun _ _ _ _ _ _ us hl => by obtain ⟨x0, x1, rfl⟩ := ar2 us hl; exact rfl
 have m_field_of := PySem.W.mg_of X G a14
 have F_box_of := AE (x := "box_of") (qual := "box_of") (st := Fu) l15 c15 k15
 have b_box_of := F_box_of.binds (ps := FC) fun _ _ _ _ _ _ us hl => by obtain ⟨x0, x1, rfl⟩ := ar2 us hl; exact rfl
 have m_box_of := PySem.W.mg_of X G a15
 have F_moved_by := AE (x := "moved_by") (qual := "moved_by") (st := DY) l16 c16 k16
 have b_moved_by := F_moved_by.binds (ps := EW) fun _ _ _ _ _ _ us hl => by obtain ⟨x0, x1, x2, x3, rfl⟩ := ar4 us hl; exact rfl
 have m_moved_by := PySem.W.mg_of X G a16
 have F_seen_at := AE (x := "seen_at") (qual := "seen_at") (st := DV) l17 c17 k17
 have b_seen_at := F_seen_at.binds (ps := Du) fun _ _ _ _ _ _ us hl => by obtain ⟨x0, x1, x2, x3, x4, rfl⟩ := ar5 us hl; exact rfl
 have m_seen_at := PySem.W.mg_of X G a17
 have F_without_unseen := AE (x := "without_unseen") (qual := "without_unseen") (st := BM) l18 c18 k18
 have b_without_unseen := F_without_unseen.binds (ps := BR) fun _ _ _ _ _ _ us hl => by obtain ⟨x0, x1, x2, x3, rfl⟩ := ar4 us hl; exact rfl
 have m_without_unseen := PySem.W.mg_of X G a18
 have F_seen_quarters := AE (x := "seen_quarters") (qual := "seen_quarters") (st := BE) l19 c19 k19
 have b_seen_quarters := F_seen_quarters.binds (ps := Cw) fun _ _ _ _ _ _ us hl => by obtain ⟨x0, x1, x2, x3, x4, rfl⟩ := ar5 us hl; exact rfl
 have m_seen_quarters := PySem.W.mg_of X G a19
 have F_rows_of_quarters := AE (x := "rows_of_quarters") (qual := "rows_of_quarters") (st := Bp) l20 c20 k20
 have b_rows_of_quarters := F_rows_of_quarters.binds (ps := Bs) fun _ _ _ _ _ _ us hl => by obtain ⟨x0, x1, rfl⟩ := ar2 us hl; exact rfl
 have m_rows_of_quarters := PySem.W.mg_of X G a20
 have F_shape_of := AE (x := "shape_of") (qual := "shape_of") (st := DU) l21 c21 k21
 have b_shape_of := F_shape_of.binds (ps := Ef) fun _ _ _ _ _ _ us hl => by obtain ⟨x0, x1, rfl⟩ := ar2 us hl; exact rfl
 have m_shape_of := PySem.W.mg_of X G a21
 have F_filled := AE (x := "filled") (qual := "filled") (st := Ft) l22 c22 k22
 have b_filled := F_filled.binds (ps := Gd) fun _ _ _ _ _ _ us hl => by obtain ⟨x0, x1, x2, x3, rfl⟩ := ar4 us hl; exact rfl
 have m_filled := PySem.W.mg_of X G a22
 have F_check_box := AE (x := "check_box") (qual := "check_box") (st := Dr) l23 c23 k23
 have b_check_box := F_check_box.binds (ps := Ep) fun _ _ _ _ _ _ us hl => by obtain ⟨x0, rfl⟩ := ar1 us hl; exact rfl
 have m_check_box := PySem.W.mg_of X G a23
 have F_part_in := AE (x := "part_in") (qual := "part_in") (st := EL) l24 c24 k24
 have b_part_in := F_part_in.binds (ps := FB) fun _ _ _ _ _ _ us hl => by obtain ⟨x0, x1, x2, rfl⟩ := ar3 us hl; exact rfl
 have m_part_in := PySem.W.mg_of X G a24
 have F_mixed := AE (x := "mixed") (qual := "mixed") (st := FO) l25 c25 k25
 have b_mixed := F_mixed.binds (ps := Fi) fun _ _ _ _ _ _ us hl => by obtain ⟨x0, x1, x2, x3, x4, rfl⟩ := ar5 us hl; exact rfl
 have m_mixed := PySem.W.mg_of X G a25
 have F_mixed_quarters := AE (x := "mixed_quarters") (qual := "mixed_quarters") (st := Bq) l26 c26 k26
 have b_mixed_quarters := F_mixed_quarters.binds (ps := Cj) fun _ _ _ _ _ _ us hl => by obtain ⟨x0, x1, x2, x3, rfl⟩ := ar4 us hl; exact rfl
 have m_mixed_quarters := PySem.W.mg_of X G a26
 have F_split_stretch := AE (x := "split_stretch") (qual := "split_stretch") (st := BW) l27 c27 k27
 have b_split_stretch := F_split_stretch.binds (ps := BX) fun _ _ _ _ _ _ us hl => by obtain ⟨x0, x1, x2, rfl⟩ := ar3 us hl; exact rfl
 have m_split_stretch := PySem.W.mg_of X G a27
 have F__law_at := AE (x := "_law_at") (qual := "_law_at") (st := EM) l28 c28 k28
 have b__law_at := F__law_at.binds (ps := Eg) fun _ _ _ _ _ _ us hl => by obtain ⟨x0, x1, rfl⟩ := ar2 us hl; exact rfl
 have m__law_at := PySem.W.mg_of X G a28
 have F__law_by_rows := AE (x := "_law_by_rows") (qual := "_law_by_rows") (st := Ch) l29 c29 k29
 have b__law_by_rows := F__law_by_rows.binds (ps := CK) fun _ _ _ _ _ _ us hl => by obtain ⟨x0, rfl⟩ := ar1 us hl; exact rfl
 have m__law_by_rows := PySem.W.mg_of X G a29
 have F__law_listed := AE (x := "_law_listed") (qual := "_law_listed") (st := CA) l30 c30 k30
 have b__law_listed := F__law_listed.binds (ps := Dc) fun _ _ _ _ _ _ us hl => by obtain ⟨x0, rfl⟩ := ar1 us hl; exact rfl
 have m__law_listed := PySem.W.mg_of X G a30
 have F__law_base := AE (x := "_law_base") (qual := "_law_base") (st := Dt) l31 c31 k31
 have b__law_base := F__law_base.binds (ps := Es) fun _ _ _ _ _ _ us hl => by obtain ⟨x0, rfl⟩ := ar1 us hl; exact rfl
 have m__law_base := PySem.W.mg_of X G a31
 have F__law_heap := AE (x := "_law_heap") (qual := "_law_heap") (st := Ds) l32 c32 k32
 have b__law_heap := F__law_heap.binds (ps := Er) fun _ _ _ _ _ _ us hl => by obtain ⟨x0, x1, x2, x3, x4, rfl⟩ := ar5 us hl; exact rfl
 have m__law_heap := PySem.W.mg_of X G a32
 have F__law_box := AE (x := "_law_box") (qual := "_law_box") (st := Ca) l33 c33 k33
 have b__law_box := F__law_box.binds (ps := EY) fun _ _ _ _ _ _ us hl => by obtain ⟨x0, rfl⟩ := ar1 us hl; exact rfl
 have m__law_box := PySem.W.mg_of X G a33
 have F__law_moved := AE (x := "_law_moved") (qual := "_law_moved") (st := CP) l34 c34 k34
 have b__law_moved := F__law_moved.binds (ps := DM) fun _ _ _ _ _ _ us hl => by obtain ⟨x0, x1, x2, rfl⟩ := ar3 us hl; exact rfl
 have m__law_moved := PySem.W.mg_of X G a34
 have F__law_right := AE (x := "_law_right") (qual := "_law_right") (st := CO) l35 c35 k35
 have b__law_right := F__law_right.binds (ps := CV) fun _ _ _ _ _ _ us hl => by obtain ⟨x0, x1, x2, x3, rfl⟩ := ar4 us hl; exact rfl
 have m__law_right := PySem.W.mg_of X G a35
 have F__law_box_right := AE (x := "_law_box_right") (qual := "_law_box_right") (st := BO) l36 c36 k36
 have b__law_box_right := F__law_box_right.binds (ps := Cm) fun _ _ _ _ _ _ us hl => by obtain ⟨x0, x1, rfl⟩ := ar2 us hl; exact rfl
 have m__law_box_right := PySem.W.mg_of X G a36
 have F_law := AE (x := "law") (qual := "law") (st := GV) l37 c37 k37
 have m_law := PySem.W.mg_of X G a37
 have F_Grove_init := AE (x := "__init__") (qual := "Grove.__init__") (st := CU) l38 c38 k38
 have b_Grove_init := F_Grove_init.binds (ps := DO) fun _ _ _ _ _ _ us hl => by obtain ⟨x0, rfl⟩ := ar1 us hl; exact rfl
 have M_Grove : Mk K c_Grove f38 := ⟨mk_Grove, a38, i38, kc_Grove⟩
 have F_Grove_kept := AE (x := "kept") (qual := "Grove.kept") (st := CT) l39 c39 k39
 have b_Grove_kept := F_Grove_kept.binds (ps := CY) fun _ _ _ _ _ _ us hl => by obtain ⟨x0, x1, x2, rfl⟩ := ar3 us hl; exact rfl
 have e_Grove_kept : GF K c_Grove "kept" f39 := ⟨a39, i39, k39⟩
 have F_Grove_linked := AE (x := "linked") (qual := "Grove.linked") (st := Ci) l40 c40 k40
 have b_Grove_linked := F_Grove_linked.binds (ps := AT) fun _ _ _ _ _ _ us hl => by obtain ⟨x0, x1, rfl⟩ := ar2 us hl; exact rfl
 have e_Grove_linked : GF K c_Grove "linked" f40 := ⟨a40, i40, k40⟩
 have F_Grove_check_square := AE (x := "check_square") (qual := "Grove.check_square") (st := Be) l41 c41 k41
 have b_Grove_check_square := F_Grove_check_square.binds (ps := Bf) fun _ _ _ _ _ _ us hl => by obtain ⟨x0, x1, rfl⟩ := ar2 us hl; exact rfl
 have e_Grove_check_square : GF K c_Grove "check_square" f41 := ⟨a41, i41, k41⟩
 have F_Grove_leaf := AE (x := "leaf") (qual := "Grove.leaf") (st := CS) l42 c42 k42
 have b_Grove_leaf := F_Grove_leaf.binds (ps := CW) fun _ _ _ _ _ _ us hl => by obtain ⟨x0, x1, rfl⟩ := ar2 us hl; exact rfl
 have e_Grove_leaf : GF K c_Grove "leaf" f42 := ⟨a42, i42, k42⟩
 have F_Grove_solid := AE (x := "solid") (qual := "Grove.solid") (st := CB) l43 c43 k43
 have b_Grove_solid := F_Grove_solid.binds (ps := Cd) fun _ _ _ _ _ _ us hl => by obtain ⟨x0, x1, x2, rfl⟩ := ar3 us hl; exact rfl
 have e_Grove_solid : GF K c_Grove "solid" f43 := ⟨a43, i43, k43⟩
 have F_Grove_level_of := AE (x := "level_of") (qual := "Grove.level_of") (st := BP) l44 c44 k44
 have b_Grove_level_of := F_Grove_level_of.binds (ps := AW) fun _ _ _ _ _ _ us hl => by obtain ⟨x0, x1, rfl⟩ := ar2 us hl; exact rfl
 have e_Grove_level_of : GF K c_Grove "level_of" f44 := ⟨a44, i44, k44⟩
 have F_Grove_living := AE (x := "living") (qual := "Grove.living") (st := DH) l45 c45 k45
 have b_Grove_living := F_Grove_living.binds (ps := JG) fun _ _ _ _ _ _ us hl => by obtain ⟨x0, x1, rfl⟩ := ar2 us hl; exact rfl
 have e_Grove_living : GF K c_Grove "living" f45 := ⟨a45, i45, k45⟩
 have F_Grove_counted := AE (x := "counted") (qual := "Grove.counted") (st := De) l46 c46 k46
 have b_Grove_counted := F_Grove_counted.binds (ps := IN) fun _ _ _ _ _ _ us hl => by obtain ⟨x0, x1, rfl⟩ := ar2 us hl; exact rfl
 have e_Grove_counted : GF K c_Grove "counted" f46 := ⟨a46, i46, k46⟩
 have F_Grove_span := AE (x := "span") (qual := "Grove.span") (st := CQ) l47 c47 k47
 have b_Grove_span := F_Grove_span.binds (ps := DN) fun _ _ _ _ _ _ us hl => by obtain ⟨x0, x1, rfl⟩ := ar2 us hl; exact rfl
 have e_Grove_span : GF K c_Grove "span" f47 := ⟨a47, i47, k47⟩
 have F_Grove_boxed := AE (x := "boxed") (qual := "Grove.boxed") (st := Cb) l48 c48 k48
 have b_Grove_boxed := F_Grove_boxed.binds (ps := BL) fun _ _ _ _ _ _ us hl => by obtain ⟨x0, x1, rfl⟩ := ar2 us hl; exact rfl
 have e_Grove_boxed : GF K c_Grove "boxed" f48 := ⟨a48, i48, k48⟩
 have F_Grove_measured := AE (x := "measured") (qual := "Grove.measured") (st := Br) l49 c49 k49
 have b_Grove_measured := F_Grove_measured.binds (ps := Co) fun _ _ _ _ _ _ us hl => by obtain ⟨x0, x1, rfl⟩ := ar2 us hl; exact rfl
 have e_Grove_measured : GF K c_Grove "measured" f49 := ⟨a49, i49, k49⟩
 refine ⟨PySem.W.fnOf "law" "law" (Ax GV) (Au GV) (Ah GV) .none kV37 dc37 pm37 an37 cd37 ct37, fun s v => .of_eq rfl, fun base _ _ => ?_⟩
 have C_is_whole : Cal l.prog w K mg base CX0 1 "is_whole" Dl QL := ⟨_, _, ok_iw F_is_whole T, m_is_whole, F_is_whole.kp, b_is_whole⟩
 have C_is_state : Cal l.prog w K mg base CX0 2 "is_state" Dm QM := ⟨_, _, ok_is F_is_state T C_is_whole, m_is_state, F_is_state.kp, b_is_state⟩
 have M_Grove_kept : CM l.prog w K mg base CX0 1 c_Grove "kept" CY (LN _) := ⟨⟨_, _, ok_kept F_Grove_kept T, e_Grove_kept, b_Grove_kept⟩, T.cl_Grove⟩
 have C_Grove : CalC l.prog w K mg base CX0 2 "Grove" c_Grove DO (LO _) := ⟨_, _, Rp F_Grove_init T M_Grove_kept, M_Grove, T.m_Grove, b_Grove_init⟩
 have M_Grove_linked : CM l.prog w K mg base CX0 2 c_Grove "linked" AT (Fj _) := ⟨⟨_, _, ok_link F_Grove_linked T M_Grove_kept, e_Grove_linked, b_Grove_linked⟩, T.cl_Grove⟩
 have M_Grove_check_square : CM l.prog w K mg base CX0 2 c_Grove "check_square" Bf (OM _) := ⟨⟨_, _, ok_chk F_Grove_check_square T C_is_whole, e_Grove_check_square, b_Grove_check_square⟩, T.cl_Grove⟩
 have M_Grove_leaf : CM l.prog w K mg base CX0 3 c_Grove "leaf" CW (LM _) := ⟨⟨_, _, ok_leaf F_Grove_leaf T C_is_state, e_Grove_leaf, b_Grove_leaf⟩, T.cl_Grove⟩
 have M_Grove_level_of : CM l.prog w K mg base CX0 3 c_Grove "level_of" AW (Jv _) := ⟨⟨_, _, ok_lev F_Grove_level_of T M_Grove_check_square, e_Grove_level_of, b_Grove_level_of⟩, T.cl_Grove⟩
 have M_Grove_solid : CM l.prog w K mg base CX0 4 c_Grove "solid" Cd (GR _) := ⟨⟨_, _, Rh F_Grove_solid T C_is_whole M_Grove_leaf M_Grove_linked, e_Grove_solid, b_Grove_solid⟩, T.cl_Grove⟩
 have C_shifted_box : Cal l.prog w K mg base CX0 1 "shifted_box" BJ Gp := ⟨_, _, Ri F_shifted_box T, m_shifted_box, F_shifted_box.kp, b_shifted_box⟩
 have C_least_box : Cal l.prog w K mg base CX0 1 "least_box" Dv Je := ⟨_, _, Ro F_least_box T, m_least_box, F_least_box.kp, b_least_box⟩
 have M_Grove_boxed : CM l.prog w K mg base CX0 100 c_Grove "boxed" BL (MO _ 49) := ⟨⟨_, _, Rr F_Grove_boxed F_Grove_measured T e_Grove_boxed b_Grove_boxed e_Grove_measured b_Grove_measured C_shifted_box C_least_box 49, e_Grove_boxed, b_Grove_boxed⟩, T.cl_Grove⟩
 have M_Grove_span : CM l.prog w K mg base CX0 101 c_Grove "span" DN (NS _) := ⟨⟨_, _, ok_span F_Grove_span T M_Grove_check_square M_Grove_boxed, e_Grove_span, b_Grove_span⟩, T.cl_Grove⟩
 have C_lies_within : Cal l.prog w K mg base CX0 1 "lies_within" BK Ln := ⟨_, _, ok_lie F_lies_within T, m_lies_within, F_lies_within.kp, b_lies_within⟩
 have C_reach_of : Cal l.prog w K mg base CX0 4 "reach_of" Ct (FL _) := ⟨_, _, Rl F_reach_of T M_Grove_level_of, m_reach_of, F_reach_of.kp, b_reach_of⟩
 have C_widened : Cal l.prog w K mg base CX0 4 "widened" Fz (QF _) := ⟨_, _, ok_wid F_widened T M_Grove_level_of M_Grove_linked, m_widened, F_widened.kp, b_widened⟩
 have C_middle_of : Cal l.prog w K mg base CX0 3 "middle_of" Eo (QI _) := ⟨_, _, ok_mid F_middle_of T M_Grove_linked, m_middle_of, F_middle_of.kp, b_middle_of⟩
 have C_is_bare_around : Cal l.prog w K mg base CX0 1 "is_bare_around" Ck (spBA _) := ⟨_, _, ok_ba F_is_bare_around T, m_is_bare_around, F_is_bare_around.kp, b_is_bare_around⟩
 have C_trimmed : Cal l.prog w K mg base CX0 4 "trimmed" Ee (Jt _) := ⟨_, _, ok_trim F_trimmed T M_Grove_level_of C_is_bare_around C_middle_of, m_trimmed, F_trimmed.kp, b_trimmed⟩
 have C_widened_over : Cal l.prog w K mg base CX0 5 "widened_over" BS (QG _) := ⟨_, _, ok_wo F_widened_over T C_lies_within C_reach_of C_widened, m_widened_over, F_widened_over.kp, b_widened_over⟩
 have C_bare_field : Cal l.prog w K mg base CX0 1 "bare_field" DL (LP _) := ⟨_, _, Rt F_bare_field T, m_bare_field, F_bare_field.kp, b_bare_field⟩
 have C_replaced : Cal l.prog w K mg base CX0 54 "replaced" Dk (OK _ 50) := ⟨_, _, Rk F_replaced T m_replaced b_replaced M_Grove_leaf M_Grove_linked 50, m_replaced, F_replaced.kp, b_replaced⟩
 have C_planted : Cal l.prog w K mg base CX0 55 "planted" FA (LL _) := ⟨_, _, Rm F_planted T C_lies_within C_is_state C_reach_of C_widened_over C_replaced C_trimmed, m_planted, F_planted.kp, b_planted⟩
 have C_field_of : Cal l.prog w K mg base CX0 56 "field_of" EX (QN _) := ⟨_, _, ok_fld F_field_of T C_bare_field C_planted, m_field_of, F_field_of.kp, b_field_of⟩
 have C_check_box : Cal l.prog w K mg base CX0 1 "check_box" Ep QO := ⟨_, _, ok_chb F_check_box T, m_check_box, F_check_box.kp, b_check_box⟩
 have C_part_in : Cal l.prog w K mg base CX0 5 "part_in" FB (spPI _) := ⟨_, _, ok_pi F_part_in T C_reach_of, m_part_in, F_part_in.kp, b_part_in⟩
 have C_split_stretch : Cal l.prog w K mg base CX0 1 "split_stretch" BX Jc := ⟨_, _, Rg F_split_stretch T, m_split_stretch, F_split_stretch.kp, b_split_stretch⟩
 have C_mixed : Cal l.prog w K mg base CX0 102 "mixed" Fi (MN _ _ _ 50) := ⟨_, _, Rn F_mixed F_mixed_quarters T m_mixed b_mixed m_mixed_quarters b_mixed_quarters C_split_stretch M_Grove_linked 50, m_mixed, F_mixed.kp, b_mixed⟩
 have C_filled : Cal l.prog w K mg base CX0 103 "filled" Gd (Jw _) := ⟨_, _, ok_fill F_filled T C_check_box C_lies_within C_is_state C_widened_over M_Grove_solid M_Grove_level_of C_part_in C_mixed C_trimmed, m_filled, F_filled.kp, b_filled⟩
 have C_box_of : Cal l.prog w K mg base CX0 102 "box_of" FC (Jf _) := ⟨_, _, Rq F_box_of T M_Grove_span C_reach_of C_shifted_box, m_box_of, F_box_of.kp, b_box_of⟩
 have C_without_unseen : Cal l.prog w K mg base CX0 1 "without_unseen" BR spWu := ⟨_, _, ok_wu F_without_unseen T, m_without_unseen, F_without_unseen.kp, b_without_unseen⟩
 have C_rows_of_quarters : Cal l.prog w K mg base CX0 1 "rows_of_quarters" Bs (spRq _) := ⟨_, _, ok_rq F_rows_of_quarters T, m_rows_of_quarters, F_rows_of_quarters.kp, b_rows_of_quarters⟩
 have C_seen_at : Cal l.prog w K mg base CX0 102 "seen_at" Du (QH _ 50) := ⟨_, _, ok_sa F_seen_at F_seen_quarters T m_seen_at b_seen_at m_seen_quarters b_seen_quarters C_without_unseen C_rows_of_quarters M_Grove_linked 50, m_seen_at, F_seen_at.kp, b_seen_at⟩
 have C_moved_by : Cal l.prog w K mg base CX0 103 "moved_by" EW (spMv _) := ⟨_, _, ok_mv F_moved_by T C_box_of C_shifted_box C_lies_within C_widened_over C_reach_of M_Grove_level_of C_trimmed C_seen_at, m_moved_by, F_moved_by.kp, b_moved_by⟩
 have C__law_at : Cal l.prog w K mg base CX0 1 "_law_at" Eg (QP K) := ⟨_, _, ok_at F__law_at T, m__law_at, F__law_at.kp, b__law_at⟩
 have C_shape_of : Cal l.prog w K mg base CX0 104 "shape_of" Ef (Jd _) := ⟨_, _, Rj F_shape_of T C_box_of C_moved_by, m_shape_of, F_shape_of.kp, b_shape_of⟩
 have C__law_by_rows : Cal l.prog w K mg base CX0 1 "_law_by_rows" CK Ju := ⟨_, _, ok_row F__law_by_rows T, m__law_by_rows, F__law_by_rows.kp, b__law_by_rows⟩
 have C__law_listed : Cal l.prog w K mg base CX0 5 "_law_listed" Dc QJ := ⟨_, _, ok_lsd F__law_listed T C__law_by_rows, m__law_listed, F__law_listed.kp, b__law_listed⟩
 have C__law_base : Cal l.prog w K mg base CX0 1 "_law_base" Es NV := ⟨_, _, ok_base F__law_base T, m__law_base, F__law_base.kp, b__law_base⟩
 have C__law_heap : Cal l.prog w K mg base CX0 2 "_law_heap" Er (NU K) := ⟨_, _, ok_heap F__law_heap T C__law_at, m__law_heap, F__law_heap.kp, b__law_heap⟩
 have C__law_box : Cal l.prog w K mg base CX0 1 "_law_box" EY NT := ⟨_, _, ok_lbox F__law_box T, m__law_box, F__law_box.kp, b__law_box⟩
 have C__law_moved : Cal l.prog w K mg base CX0 1 "_law_moved" DM QK := ⟨_, _, ok_lmv F__law_moved T, m__law_moved, F__law_moved.kp, b__law_moved⟩
 have C__law_right : Cal l.prog w K mg base CX0 1 "_law_right" CV spRi := ⟨_, _, ok_ri F__law_right T, m__law_right, F__law_right.kp, b__law_right⟩
 have C__law_box_right : Cal l.prog w K mg base CX0 105 "_law_box_right" Cm (spBR K _) := ⟨_, _, ok_br F__law_box_right T C__law_at M_Grove_solid C_filled C_shape_of C__law_right, m__law_box_right, F__law_box_right.kp, b__law_box_right⟩
 exact ok_law F_law T C_Grove C__law_box_right C__law_at C__law_base C__law_heap C_field_of C__law_listed C__law_right C_shape_of M_Grove_solid C__law_box C__law_moved
theorem walk {l : PySem.W.OpenLaw} {q : Program} {loose : List Str} {XP : (Str -> Option Value) -> Heap -> Prop} {YP : World -> Heap -> Prop} {d : DefRec} {K : Params -> PySem.W.Frag} (hn : l.most = some 63) (hdf : d.params.defaults = [])
  (hY : ∀ (w : World) (h : Heap), YP w h -> (K w.params).In h)
  (F : ∀ (w : World) (mg : Str -> Option Value) (fa : Addr) (h : Heap), (K w.params).In h -> h.Ns mainGlobals mg -> mg d.name = some (.ref fa) ->
   ∃ fd : FuncData, (∀ (s : Shared) (u : Value), BindsTo s fd ⟨[u], []⟩ [("_law_script", u)]) /\ ∀ base : Heap, (K w.params).In base -> base.Ns mainGlobals mg -> AY l.prog w (K w.params) mg base CX0 106 fa fd ["_law_script"] (OL (K w.params))) :
  PySem.W.WalkO q loose XP YP l.row.toRowW d [] (fun f vs => PySem.call f vs) :=
 L2.OC (n := 63) (k := 106) (x := "_law_script") (CX := fun _ => CX0) (sp := fun w => OL (K w.params)) hn (by decide) hdf ⟨rfl, by decide, by decide⟩ hY F (fun _ _ a ns hl _ hS => ⟨a, ns, rfl, hS, hl, fun _ => rfl⟩) fun _ _ _ _ _ z => z
end J
theorem PySem.W.Fast.tw11387580082008105409 : True := True.intro
theorem PySem.W.Fast.tw4125984292215114507 : True := True.intro
theorem PySem.W.Fast.tw9286247468867101456 : True := True.intro
theorem PySem.W.Fast.tw18139708683178646488 : True := True.intro
theorem PySem.W.Fast.tw2271619972029290950 : True := True.intro
theorem PySem.W.Fast.tw2568429996194507752 : True := True.intro
theorem PySem.W.Fast.tw6012890177883793772 : True := True.intro
theorem PySem.W.Fast.tw16488720505166250474 : True := True.intro
theorem PySem.W.Fast.tw4698030304495147061 : True := True.intro
theorem PySem.W.Fast.tw342864940725176583 : True := True.intro
theorem PySem.W.Fast.tw13279736833394600769 : True := True.intro
theorem PySem.W.Fast.tw4836872268377602020 : True := True.intro
theorem PySem.W.Fast.tw14174325729561012629 : True := True.intro
theorem PySem.W.Fast.tw15497516579680700430 : True := True.intro
theorem PySem.W.Fast.tw13294721217420096055 : True := True.intro
theorem PySem.W.Fast.tw14011827193068183740 : True := True.intro
theorem PySem.W.Fast.tw10170401041485492078 : True := True.intro
theorem PySem.W.Fast.tw4158291351113948426 : True := True.intro
theorem PySem.W.Fast.tw17617672015360530677 : True := True.intro
theorem PySem.W.Fast.tw13320217341949423469 : True := True.intro
theorem PySem.W.Fast.tw3349588383565620578 : True := True.intro
theorem PySem.W.Fast.tw2883911954520728059 : True := True.intro
theorem PySem.W.Fast.tw368212699802772599 : True := True.intro
theorem PySem.W.Fast.tw12139863887789451953 : True := True.intro
theorem PySem.W.Fast.tw11974443680183532444 : True := True.intro
theorem PySem.W.Fast.tw2855884576331535291 : True := True.intro
theorem PySem.W.Fast.tw9784981123204413627 : True := True.intro
theorem PySem.W.Fast.tw16948429812387068940 : True := True.intro
theorem PySem.W.Fast.tw11183264448370635116 : True := True.intro
theorem PySem.W.Fast.tw2615655024672328426 : True := True.intro
theorem PySem.W.Fast.tw12264267510511348650 : True := True.intro
theorem PySem.W.Fast.tw18080078544136583385 : True := True.intro
theorem PySem.W.Fast.tw5103038109965334123 : True := True.intro
theorem PySem.W.Fast.tw11199172158292054485 : True := True.intro
theorem PySem.W.Fast.tw13395100605413754702 : True := True.intro
theorem PySem.W.Fast.tw2394582966115718490 : True := True.intro
theorem PySem.W.Fast.tw17430548286439767738 : True := True.intro
theorem PySem.W.Fast.tw4750488509005603682 : True := True.intro
theorem PySem.W.Fast.tw8167304257907791101 : True := True.intro
theorem PySem.W.Fast.tw3253188977576218065 : True := True.intro
theorem PySem.W.Fast.tw7769099537335814568 : True := True.intro
theorem PySem.W.Fast.tw13623960501777671915 : True := True.intro
theorem PySem.W.Fast.tw6080667455589628263 : True := True.intro
theorem PySem.W.Fast.tw2010002857431990370 : True := True.intro
theorem PySem.W.Fast.tw4852131848033812319 : True := True.intro
theorem PySem.W.Fast.tw783242332473208891 : True := True.intro
theorem PySem.W.Fast.tw7799385152673599222 : True := True.intro
theorem PySem.W.Fast.tw13103217445462795749 : True := True.intro
theorem PySem.W.Fast.tw10470204075732164152 : True := True.intro
theorem PySem.W.Fast.tw9307765639830055977 : True := True.intro
theorem PySem.W.Fast.tw4813268613436612002 : True := True.intro
theorem PySem.W.Fast.tw12241120625054067844 : True := True.intro
theorem PySem.W.Fast.tw2652719556259113055 : True := True.intro
theorem PySem.W.Fast.tw12861990604257124355 : True := True.intro
theorem PySem.W.Fast.tw1418702240021959086 : True := True.intro
theorem PySem.W.Fast.tw18348543598263903645 : True := True.intro
theorem PySem.W.Fast.tw13196386136882788603 : True := True.intro
theorem PySem.W.Fast.tw9195724168065951202 : True := True.intro
theorem PySem.W.Fast.tw5808334567704010360 : True := True.intro
theorem PySem.W.Fast.tw9669180054517607560 : True := True.intro
theorem PySem.W.Fast.tw9571118178602668497 : True := True.intro
theorem PySem.W.Fast.tw10501715074767007817 : True := True.intro
theorem PySem.W.Fast.tw16379816044527959226 : True := True.intro
theorem PySem.W.Fast.tw15316901296690346997 : True := True.intro
theorem PySem.W.Fast.tw11989006358541283366 : True := True.intro
theorem PySem.W.Fast.tw7194817027297326729 : True := True.intro
theorem PySem.W.Fast.tw17274157467257594639 : True := True.intro
theorem PySem.W.Fast.tw12475147766313891772 : True := True.intro
theorem PySem.W.Fast.tw14072740082234146004 : True := True.intro
theorem PySem.W.Fast.tw13747285804374264437 : True := True.intro
theorem PySem.W.Fast.tw582866360515324434 : True := True.intro
theorem PySem.W.Fast.tw5456832337293494910 : True := True.intro
theorem PySem.W.Fast.tw14185144767453472610 : True := True.intro
theorem PySem.W.Fast.tw14835008655121376864 : True := True.intro
theorem PySem.W.Fast.tw2679365123679443942 : True := True.intro
theorem PySem.W.Fast.tw15974518903209906816 : True := True.intro
theorem PySem.W.Fast.tw6532779029081758925 : True := True.intro
theorem PySem.W.Fast.tw11221650587474736181 : True := True.intro
theorem PySem.W.Fast.tw2261982261911479708 : True := True.intro
theorem PySem.W.Fast.tw18087790538714382980 : True := True.intro
theorem PySem.W.Fast.tw15258899353734119860 : True := True.intro
theorem PySem.W.Fast.tw352737925293066287 : True := True.intro
theorem PySem.W.Fast.tw3668185708683195846 : True := True.intro
open PySem PySem.W PyProof.Rows
set_option maxRecDepth 100000 in
set_option maxHeartbeats 0 in
theorem PySem.Challenge.cw_jumpfield_k71_shapes_holds : PySem.Challenge.rw_jumpfield_k71_shapes.Holds := by
 w_on; o_law; k_head; (case hw => w_witness2)
 k_fill
 refine J.walk (l := PySem.Challenge.rw_jumpfield_k71_shapes) rfl rfl (fun w h Y => PySem.W.kIn_of Y) ?F
 case F =>
  intro w mg fa h KX G hmg
  refine' J.fin KX G hmg ?n_c_Grove ?pg_Grove ?hd_Grove ?po_Grove ?sa_Grove ?mk_Grove ?kc_Grove ?na_Grove_levels ?na_Grove_parts ?na_Grove_numbers ?na_Grove_bares ?na_Grove_amounts ?na_Grove_boxes ?a0 ?l0 ?c0 ?k0 ?a1 ?l1 ?c1 ?k1 ?a2 ?l2 ?c2 ?k2 ?a3 ?l3 ?c3 ?k3 ?a4 ?l4 ?c4 ?k4 ?a5 ?l5 ?c5 ?k5 ?a6 ?l6 ?c6 ?k6 ?a7 ?l7 ?c7 ?k7 ?a8 ?l8 ?c8 ?k8 ?a9 ?l9 ?c9 ?k9 ?a10 ?l10 ?c10 ?k10 ?a11 ?l11 ?c11 ?k11 ?a12 ?l12 ?c12 ?k12 ?a13 ?l13 ?c13 ?k13 ?a14 ?l14 ?c14 ?k14 ?a15 ?l15 ?c15 ?k15 ?a16 ?l16 ?c16 ?k16 ?a17 ?l17 ?c17 ?k17 ?a18 ?l18 ?c18 ?k18 ?a19 ?l19 ?c19 ?k19 ?a20 ?l20 ?c20 ?k20 ?a21 ?l21 ?c21 ?k21 ?a22 ?l22 ?c22 ?k22 ?a23 ?l23 ?c23 ?k23 ?a24 ?l24 ?c24 ?k24 ?a25 ?l25 ?c25 ?k25 ?a26 ?l26 ?c26 ?k26 ?a27 ?l27 ?c27 ?k27 ?a28 ?l28 ?c28 ?k28 ?a29 ?l29 ?c29 ?k29 ?a30 ?l30 ?c30 ?k30 ?a31 ?l31 ?c31 ?k31 ?a32 ?l32 ?c32 ?k32 ?a33 ?l33 ?c33 ?k33 ?a34 ?l34 ?c34 ?k34 ?a35 ?l35 ?c35 ?k35 ?a36 ?l36 ?c36 ?k36 ?a37 ?l37 ?c37 ?k37 ?a38 ?i38 ?l38 ?c38 ?k38 ?a39 ?i39 ?l39 ?c39 ?k39 ?a40 ?i40 ?l40 ?c40 ?k40 ?a41 ?i41 ?l41 ?c41 ?k41 ?a42 ?i42 ?l42 ?c42 ?k42 ?a43 ?i43 ?l43 ?c43 ?k43 ?a44 ?i44 ?l44 ?c44 ?k44 ?a45 ?i45 ?l45 ?c45 ?k45 ?a46 ?i46 ?l46 ?c46 ?k46 ?a47 ?i47 ?l47 ?c47 ?k47 ?a48 ?i48 ?l48 ?c48 ?k48 ?a49 ?i49 ?l49 ?c49 ?k49 ?z_bool ?z_enumerate ?z_int ?z_isinstance ?z_len ?z_list ?z_max ?z_min ?z_range ?z_sorted ?z_sum ?z_tuple ?g_STATES ?g_TOP_LEVEL ?g_LIMIT ?g_LEAST_LEVEL
  (case n_c_Grove => k_is)
  (case pg_Grove => k_is)
  (case hd_Grove => k_is)
  (case po_Grove => k_is)
  (case sa_Grove => k_is)
  (case mk_Grove => k_is)
  (case kc_Grove => k_is)
  (case na_Grove_levels => k_is)
  (case na_Grove_parts => k_is)
  (case na_Grove_numbers => k_is)
  (case na_Grove_bares => k_is)
  (case na_Grove_amounts => k_is)
  (case na_Grove_boxes => k_is)
  (case a0 => k_is)
  (case l0 => k_is)
  (case c0 => k_is)
  (case k0 => k_is)
  (case a1 => k_is)
  (case l1 => k_is)
  (case c1 => k_is)
  (case k1 => k_is)
  (case a2 => k_is)
  (case l2 => k_is)
  (case c2 => k_is)
  (case k2 => k_is)
  (case a3 => k_is)
  (case l3 => k_is)
  (case c3 => k_is)
  (case k3 => k_is)
  (case a4 => k_is)
  (case l4 => k_is)
  (case c4 => k_is)
  (case k4 => k_is)
  (case a5 => k_is)
  (case l5 => k_is)
  (case c5 => k_is)
  (case k5 => k_is)
  (case a6 => k_is)
  (case l6 => k_is)
  (case c6 => k_is)
  (case k6 => k_is)
  (case a7 => k_is)
  (case l7 => k_is)
  (case c7 => k_is)
  (case k7 => k_is)
  (case a8 => k_is)
  (case l8 => k_is)
  (case c8 => k_is)
  (case k8 => k_is)
  (case a9 => k_is)
  (case l9 => k_is)
  (case c9 => k_is)
  (case k9 => k_is)
  (case a10 => k_is)
  (case l10 => k_is)
  (case c10 => k_is)
  (case k10 => k_is)
  (case a11 => k_is)
  (case l11 => k_is)
  (case c11 => k_is)
  (case k11 => k_is)
  (case a12 => k_is)
  (case l12 => k_is)
  (case c12 => k_is)
  (case k12 => k_is)
  (case a13 => k_is)
  (case l13 => k_is)
  (case c13 => k_is)
  (case k13 => k_is)
  (case a14 => k_is)
  (case l14 => k_is)
  (case c14 => k_is)
  (case k14 => k_is)
  (case a15 => k_is)
  (case l15 => k_is)
  (case c15 => k_is)
  (case k15 => k_is)
  (case a16 => k_is)
  (case l16 => k_is)
  (case c16 => k_is)
  (case k16 => k_is)
  (case a17 => k_is)
  (case l17 => k_is)
  (case c17 => k_is)
  (case k17 => k_is)
  (case a18 => k_is)
  (case l18 => k_is)
  (case c18 => k_is)
  (case k18 => k_is)
  (case a19 => k_is)
  (case l19 => k_is)
  (case c19 => k_is)
  (case k19 => k_is)
  (case a20 => k_is)
  (case l20 => k_is)
  (case c20 => k_is)
  (case k20 => k_is)
  (case a21 => k_is)
  (case l21 => k_is)
  (case c21 => k_is)
  (case k21 => k_is)
  (case a22 => k_is)
  (case l22 => k_is)
  (case c22 => k_is)
  (case k22 => k_is)
  (case a23 => k_is)
  (case l23 => k_is)
  (case c23 => k_is)
  (case k23 => k_is)
  (case a24 => k_is)
  (case l24 => k_is)
  (case c24 => k_is)
  (case k24 => k_is)
  (case a25 => k_is)
  (case l25 => k_is)
  (case c25 => k_is)
  (case k25 => k_is)
  (case a26 => k_is)
  (case l26 => k_is)
  (case c26 => k_is)
  (case k26 => k_is)
  (case a27 => k_is)
  (case l27 => k_is)
  (case c27 => k_is)
  (case k27 => k_is)
  (case a28 => k_is)
  (case l28 => k_is)
  (case c28 => k_is)
  (case k28 => k_is)
  (case a29 => k_is)
  (case l29 => k_is)
  (case c29 => k_is)
  (case k29 => k_is)
  (case a30 => k_is)
  (case l30 => k_is)
  (case c30 => k_is)
  (case k30 => k_is)
  (case a31 => k_is)
  (case l31 => k_is)
  (case c31 => k_is)
  (case k31 => k_is)
  (case a32 => k_is)
  (case l32 => k_is)
  (case c32 => k_is)
  (case k32 => k_is)
  (case a33 => k_is)
  (case l33 => k_is)
  (case c33 => k_is)
  (case k33 => k_is)
  (case a34 => k_is)
  (case l34 => k_is)
  (case c34 => k_is)
  (case k34 => k_is)
  (case a35 => k_is)
  (case l35 => k_is)
  (case c35 => k_is)
  (case k35 => k_is)
  (case a36 => k_is)
  (case l36 => k_is)
  (case c36 => k_is)
  (case k36 => k_is)
  (case a37 => k_is)
  (case l37 => k_is)
  (case c37 => k_is)
  (case k37 => k_is)
  (case a38 => k_is)
  (case i38 => k_is)
  (case l38 => k_is)
  (case c38 => k_is)
  (case k38 => k_is)
  (case a39 => k_is)
  (case i39 => k_is)
  (case l39 => k_is)
  (case c39 => k_is)
  (case k39 => k_is)
  (case a40 => k_is)
  (case i40 => k_is)
  (case l40 => k_is)
  (case c40 => k_is)
  (case k40 => k_is)
  (case a41 => k_is)
  (case i41 => k_is)
  (case l41 => k_is)
  (case c41 => k_is)
  (case k41 => k_is)
  (case a42 => k_is)
  (case i42 => k_is)
  (case l42 => k_is)
  (case c42 => k_is)
  (case k42 => k_is)
  (case a43 => k_is)
  (case i43 => k_is)
  (case l43 => k_is)
  (case c43 => k_is)
  (case k43 => k_is)
  (case a44 => k_is)
  (case i44 => k_is)
  (case l44 => k_is)
  (case c44 => k_is)
  (case k44 => k_is)
  (case a45 => k_is)
  (case i45 => k_is)
  (case l45 => k_is)
  (case c45 => k_is)
  (case k45 => k_is)
  (case a46 => k_is)
  (case i46 => k_is)
  (case l46 => k_is)
  (case c46 => k_is)
  (case k46 => k_is)
  (case a47 => k_is)
  (case i47 => k_is)
  (case l47 => k_is)
  (case c47 => k_is)
  (case k47 => k_is)
  (case a48 => k_is)
  (case i48 => k_is)
  (case l48 => k_is)
  (case c48 => k_is)
  (case k48 => k_is)
  (case a49 => k_is)
  (case i49 => k_is)
  (case l49 => k_is)
  (case c49 => k_is)
  (case k49 => k_is)
  (case z_bool => k_is)
  (case z_enumerate => k_is)
  (case z_int => k_is)
  (case z_isinstance => k_is)
  (case z_len => k_is)
  (case z_list => k_is)
  (case z_max => k_is)
  (case z_min => k_is)
  (case z_range => k_is)
  (case z_sorted => k_is)
  (case z_sum => k_is)
  (case z_tuple => k_is)
  (case g_STATES => k_is)
  (case g_TOP_LEVEL => k_is)
  (case g_LIMIT => k_is)
  (case g_LEAST_LEVEL => k_is)
